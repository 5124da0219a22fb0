import PyProof.Rows.All
import Wide.All
import OpenK.AllK
import Wide.FinOn
import HandS.ForMost
import HandS.ForExc
import HandS.Wide
import HandS.WideBits
import HandS.Gcd
import HandS.Deep
import HandS.IsInst
import HandS.TupAny
import HandS.TupLe
import HandS.Zip
import HandS.SortInts
import HandS.EndBits
import HandS.Style
import HandS.AnyAll
import HandS.WideMore
import HandS.Comp
import HandS.Star
import PyProof.EnumMake
import PyProof.Draws
import HandS.GenList
import PyProof.GenQ
import PyProof.ConsumeS
import PyProof.SumWalkG
import PyProof.TupleOfGen
import HandS.Iter
import HandS.EndTab
import PySem.Challenge.RW_slotstars_k72_whole_fields_at_moments
set_option Elab.async false
set_option linter.all false
set_option maxRecDepth 100000
set_option maxHeartbeats 1000000
namespace Ev
open PySem PySem.Spec PyProof.Rows L2

abbrev D := PyData
abbrev St := L2.St

/-! ### data -/
mutual
inductive Rp (K : PySem.W.Frag) (F : Hp) : V → D → Prop
  | non : Rp K F .non .none
  | bl (b : Bool) : Rp K F (.bl b) (.bool b)
  | int (i : Int) : Rp K F (.int i) (.int i)
  | str (x : Str) : Rp K F (.str x) (.str x)
  | lst {a : Addr} {xs : List V} {ds : List D} : Rd F a (.lst xs) → RpAll K F xs ds → Rp K F (.ref a) (.list ds)
  | tup {a : Addr} {xs : List V} {ds : List D} : SqT K F a xs → RpAll K F xs ds → Rp K F (.ref a) (.tuple ds)
inductive RpAll (K : PySem.W.Frag) (F : Hp) : List V → List D → Prop
  | nil : RpAll K F [] []
  | cons {v : V} {vs : List V} {d : D} {ds : List D} : Rp K F v d → RpAll K F vs ds → RpAll K F (v :: vs) (d :: ds)
end
mutual
theorem Rp.dp {K : PySem.W.Frag} {F : Hp} : ∀ {d : D} {x : V}, Rp K F x d → Dp K F x d
  | _, _, .non => .non
  | _, _, .bl b => .bl b
  | _, _, .int i => .int i
  | _, _, .str x => .str x
  | _, _, .lst a b => .lst (.inl a) (RpAll.dp b)
  | _, _, .tup a b => .tup a (RpAll.dp b)
theorem RpAll.dp {K : PySem.W.Frag} {F : Hp} : ∀ {ds : List D} {xs : List V}, RpAll K F xs ds → DpAll K F xs ds
  | _, _, .nil => .nil
  | _, _, .cons a b => .cons (Rp.dp a) (RpAll.dp b)
end

/-! ### slots -/
inductive Sl where
  | u
  | v (d : D)
  | o (mt : Bool) (ds : List D)
abbrev En := List Sl

/-- H is H but more -/
theorem same_refl (H : Hp) : ∀ p o, H p = some o → H p = some o := fun _ _ e => e
def Sm (F F' : Hp) : Prop := ∀ p o, F p = some o → F' p = some o
theorem Sm.refl (F : Hp) : Sm F F := fun _ _ e => e
theorem Sm.trans {F G H : Hp} (a : Sm F G) (b : Sm G H) : Sm F H := fun p o e => b p o (a p o e)

def TabG (H : Hp) (P : Addr) : Prop := ∃ ps : Array Value, H P = some (.tbl ps) ∧ TriplesOk ps.toList

structure Wf (tb : List Addr) (B F H : Hp) : Prop where
  fz : Sm F H
  bg : ∀ p o, B p = some o → H p = some o ∧ F p = none
  tabs : ∀ P ∈ tb, TabG H P ∧ F P = none ∧ B P = none

def SlOk (K : PySem.W.Frag) (pa : Nat → Addr) (B F : Hp) (σ : St) (H : Hp) (i : Nat) : Sl → Prop
  | .u => True
  | .v d => ∃ x, σ[i]? = some (some x) ∧ Rp K F x d
  | .o mt ds => ∃ p vs, σ[i]? = some (some (.ref p)) ∧ (mt = true → p = pa i) ∧ H p = some (.lst vs) ∧ F p = none ∧ B p = none ∧ RpAll K F vs ds

def Sl.own : Sl → Bool
  | .o _ _ => true
  | _ => false

structure Rel (K : PySem.W.Frag) (tb : List Addr) (pa : Nat → Addr) (B F : Hp) (σ : St) (H : Hp) (ρ : En) : Prop where
  wf : Wf tb B F H
  len : σ.length = ρ.length
  sl : ∀ (i : Nat) (s : Sl), ρ[i]? = some s → SlOk K pa B F σ H i s
  ne : ∀ (i j : Nat) (s t : Sl), i ≠ j → ρ[i]? = some s → ρ[j]? = some t → s.own = true → t.own = true → σ[i]? ≠ σ[j]?

/-! ### readings persist -/
theorem Rd.mono {F F' : Hp} (h : Sm F F') {a : Addr} {u : HO} (r : Rd F a u) : Rd F' a u := by
  rcases r with r | ⟨o, r⟩
  · exact .inl (h _ _ r)
  · exact .inr ⟨o, h _ _ r⟩
theorem SqL.mono {K : PySem.W.Frag} {F F' : Hp} (h : Sm F F') {a : Addr} {xs : List V} (r : SqL K F a xs) : SqL K F' a xs := r.imp (Rd.mono h) fun z => z
theorem SqT.mono {K : PySem.W.Frag} {F F' : Hp} (h : Sm F F') {a : Addr} {xs : List V} (r : SqT K F a xs) : SqT K F' a xs := r.imp (Rd.mono h) fun z => z
mutual
theorem Rp.mono {K : PySem.W.Frag} {F F' : Hp} (h : Sm F F') : ∀ {d : D} {x : V}, Rp K F x d → Rp K F' x d
  | _, _, .non => .non
  | _, _, .bl b => .bl b
  | _, _, .int i => .int i
  | _, _, .str x => .str x
  | _, _, .lst a b => .lst (Rd.mono h a) (RpAll.mono h b)
  | _, _, .tup a b => .tup (SqT.mono h a) (RpAll.mono h b)
theorem RpAll.mono {K : PySem.W.Frag} {F F' : Hp} (h : Sm F F') : ∀ {ds : List D} {xs : List V}, RpAll K F xs ds → RpAll K F' xs ds
  | _, _, .nil => .nil
  | _, _, .cons a b => .cons (Rp.mono h a) (RpAll.mono h b)
end
theorem RpAll.length {K : PySem.W.Frag} {F : Hp} : ∀ {xs : List V} {ds : List D}, RpAll K F xs ds → xs.length = ds.length
  | _, _, .nil => rfl
  | _, _, .cons _ b => by rw [List.length_cons, List.length_cons, RpAll.length b]
theorem RpAll.get {K : PySem.W.Frag} {F : Hp} : ∀ {xs : List V} {ds : List D} {i : Nat} {d : D}, RpAll K F xs ds → ds[i]? = some d → ∃ x, xs[i]? = some x ∧ Rp K F x d
  | _, _, _, _, .nil, e => by simp at e
  | _, _, 0, _, .cons a _, e => by
    simp at e; subst e; exact ⟨_, rfl, a⟩
  | _, _, i + 1, _, .cons _ b, e => by
    simp at e
    obtain ⟨x, h1, h2⟩ := RpAll.get b e
    exact ⟨x, by simpa using h1, h2⟩
theorem RpAll.append {K : PySem.W.Frag} {F : Hp} : ∀ {xs ys : List V} {ds es : List D}, RpAll K F xs ds → RpAll K F ys es → RpAll K F (xs ++ ys) (ds ++ es)
  | _, _, _, _, .nil, b => b
  | _, _, _, _, .cons a r, b => .cons a (RpAll.append r b)
theorem RpAll.set {K : PySem.W.Frag} {F : Hp} {x : V} {d : D} (h : Rp K F x d) : ∀ {xs : List V} {ds : List D} (i : Nat), RpAll K F xs ds → RpAll K F (xs.set i x) (ds.set i d)
  | _, _, _, .nil => .nil
  | _, _, 0, .cons _ r => .cons h r
  | _, _, i + 1, .cons a r => .cons a (RpAll.set h i r)
theorem RpAll.take {K : PySem.W.Frag} {F : Hp} : ∀ {xs : List V} {ds : List D} (n : Nat), RpAll K F xs ds → RpAll K F (xs.take n) (ds.take n)
  | _, _, 0, _ => .nil
  | _, _, _ + 1, .nil => .nil
  | _, _, n + 1, .cons a r => .cons a (RpAll.take n r)
theorem RpAll.drop {K : PySem.W.Frag} {F : Hp} : ∀ {xs : List V} {ds : List D} (n : Nat), RpAll K F xs ds → RpAll K F (xs.drop n) (ds.drop n)
  | _, _, 0, r => r
  | _, _, _ + 1, .nil => .nil
  | _, _, n + 1, .cons _ r => RpAll.drop n r
theorem RpAll.rep {K : PySem.W.Frag} {F : Hp} {xs : List V} {ds : List D} (r : RpAll K F xs ds) : ∀ n : Nat, RpAll K F (List.replicate n xs).flatten (List.replicate n ds).flatten
  | 0 => .nil
  | n + 1 => by
    rw [List.replicate_succ, List.replicate_succ, List.flatten_cons, List.flatten_cons]
    exact RpAll.append r (RpAll.rep r n)
/-- data without references -/
def flat : D → Bool
  | .none => true
  | .bool _ => true
  | .int _ => true
  | .str _ => true
  | _ => false
theorem rpFlat {K : PySem.W.Frag} {F G : Hp} {d : D} {x : V} (h : Rp K F x d) (e : flat d = true) : Rp K G x d := by
  cases h with
  | non => exact .non
  | bl b => exact .bl b
  | int i => exact .int i
  | str x => exact .str x
  | lst _ _ => cases e
  | tup _ _ => cases e

/-! ### a value beside the slots -/
inductive Op where
  | val (d : D)
  | slot (i : Nat)
  | new (ds : List D)
def OpR (K : PySem.W.Frag) (B F H : Hp) (σ : St) (ρ : En) (x : V) : Op → Prop
  | .val d => Rp K F x d
  | .slot i => σ[i]? = some (some x)
  | .new ds => ∃ p vs, x = .ref p ∧ H p = some (.lst vs) ∧ F p = none ∧ B p = none ∧ (∀ (j : Nat) (s : Sl), ρ[j]? = some s → s.own = true → σ[j]? ≠ some (some (.ref p))) ∧ RpAll K F vs ds

section
variable {K : PySem.W.Frag} {tb : List Addr} {pa : Nat → Addr} {B F F' : Hp} {σ : St} {H H' : Hp} {ρ ρ' : En} {x : V} {op : Op} {d : D} {ds : List D} {i : Nat} {p : Addr}

theorem Wf.none (w : Wf tb B F H) (h : H p = .none) : F p = none ∧ B p = none := by
  constructor
  · cases e : F p with
    | none => rfl
    | some o => rw [w.fz _ _ e] at h; cases h
  · cases e : B p with
    | none => rfl
    | some o => rw [(w.bg _ _ e).1] at h; cases h
theorem TabG.upd {P : Addr} {o : HO} (t : TabG H P) (h : p ≠ P) : TabG (upd H p o) P := by
  obtain ⟨ps, e, q⟩ := t
  exact ⟨ps, by rw [upd_ne (Ne.symm h)]; exact e, q⟩
theorem Sm.upd {o : HO} (h : F p = none) : Sm F (upd F p o) := fun q u e => by
  rw [upd_ne (ne_of_none e h)]; exact e
/-- a new object -/
theorem Wf.laid (w : Wf tb B F H) (h : H p = .none) (o : HO) : Wf tb B F (upd H p o) := by
  refine ⟨w.fz.trans (Sm.upd h), fun q u e => ?_, fun P hP => ?_⟩
  · obtain ⟨a, b⟩ := w.bg q u e
    exact ⟨Sm.upd h q u a, b⟩
  · obtain ⟨⟨ps, e, t⟩, b, c⟩ := w.tabs P hP
    exact ⟨⟨ps, Sm.upd h P _ e, t⟩, b, c⟩
/-- a free list is written -/
theorem Wf.write (w : Wf tb B F H) {vs ws : List V} (h : H p = some (.lst vs)) (hf : F p = .none) (hb : B p = .none) : Wf tb B F (upd H p (.lst ws)) := by
  refine ⟨fun q u e => ?_, fun q u e => ?_, fun P hP => ?_⟩
  · rw [upd_ne (ne_of_none e hf)]; exact w.fz q u e
  · rw [upd_ne (ne_of_none e hb)]; exact w.bg q u e
  · obtain ⟨⟨ps, e, t⟩, b, c⟩ := w.tabs P hP
    refine ⟨⟨ps, ?_, t⟩, b, c⟩
    rw [upd_ne (ne_of e h (fun z => by cases z))]; exact e
/-- a free object is laid still -/
theorem Wf.freeze (w : Wf tb B F H) {o : HO} (h : H p = some o) (ho : ∀ ps, o ≠ .tbl ps) (hb : B p = .none) : Wf tb B (upd F p o) H := by
  refine ⟨fun q u e => ?_, fun q u e => ?_, fun P hP => ?_⟩
  · by_cases z : q = p
    · subst z; rw [upd_same] at e; cases e; exact h
    · rw [upd_ne z] at e; exact w.fz q u e
  · obtain ⟨a, b⟩ := w.bg q u e
    exact ⟨a, by rw [upd_ne (ne_of_none e hb)]; exact b⟩
  · obtain ⟨⟨ps, e, t⟩, b, c⟩ := w.tabs P hP
    refine ⟨⟨ps, e, t⟩, ?_, c⟩
    rw [upd_ne (ne_of e h (fun z => ho ps z.symm))]; exact b

theorem SlOk.same {s : Sl} (h : SlOk K pa B F σ H i s) (hF : Sm F F') (ho : ∀ p, s.own = true → σ[i]? = some (some (.ref p)) → (∀ u, H p = some u → H' p = some u) ∧ (F p = none → F' p = none)) : SlOk K pa B F' σ H' i s := by
  cases s with
  | u => trivial
  | v d => obtain ⟨x, a, b⟩ := h; exact ⟨x, a, Rp.mono hF b⟩
  | o mt ds =>
    obtain ⟨p, vs, a, m, b, c, e, f⟩ := h
    obtain ⟨h1, h2⟩ := ho p rfl a
    exact ⟨p, vs, a, m, h1 _ b, h2 c, e, RpAll.mono hF f⟩
theorem Rel.laid (r : Rel K tb pa B F σ H ρ) (h : H p = none) (o : HO) : Rel K tb pa B F σ (upd H p o) ρ :=
  ⟨r.wf.laid h o, r.len, fun i s e => (r.sl i s e).same (Sm.refl _) fun q _ _ => ⟨fun u z => Sm.upd h q u z, fun z => z⟩, r.ne⟩
/-- an own slot's address is apart from p -/
def Off (σ : St) (ρ : En) (p : Addr) : Prop := ∀ (j : Nat) (s : Sl), ρ[j]? = some s → s.own = true → σ[j]? ≠ some (some (.ref p))
theorem Rel.off_none (r : Rel K tb pa B F σ H ρ) (h : H p = none) : Off σ ρ p := fun j s e ho z => by
  have q := r.sl j s e
  cases s with
  | o mt ds =>
    obtain ⟨p', vs, a, _, b, _⟩ := q
    rw [a] at z; cases z; rw [h] at b; cases b
  | u => cases ho
  | v d => cases ho
theorem Rel.freeze (r : Rel K tb pa B F σ H ρ) {o : HO} (h : H p = some o) (ho : ∀ ps, o ≠ .tbl ps) (hf : F p = none) (hb : B p = none) (off : Off σ ρ p) : Rel K tb pa B (upd F p o) σ H ρ :=
  ⟨r.wf.freeze h ho hb, r.len, fun i s e => (r.sl i s e).same (Sm.upd hf) fun q w z => ⟨fun u z => z, fun y => by
    rw [upd_ne]; exact y
    rintro rfl; exact off i s e w z⟩, r.ne⟩
/-- more behind -/
theorem Rel.less {B' : Hp} (r : Rel K tb pa B' F σ H ρ) (h : Sm B B') : Rel K tb pa B F σ H ρ := by
  have nB : ∀ p, B' p = none → B p = none := fun p e => by
    cases q : B p with
    | none => rfl
    | some o => rw [h _ _ q] at e; cases e
  refine ⟨⟨r.wf.fz, fun p o e => r.wf.bg p o (h p o e), fun P hP => ?_⟩, r.len, fun i s e => ?_, r.ne⟩
  · obtain ⟨a, b, c⟩ := r.wf.tabs P hP
    exact ⟨a, b, nB _ c⟩
  · have q := r.sl i s e
    cases s with
    | u => trivial
    | v d => exact q
    | o mt ds =>
      obtain ⟨p, vs, a, m, b, c, e, f⟩ := q
      exact ⟨p, vs, a, m, b, c, nB _ e, f⟩
theorem Rel.more (r : Rel K tb pa B F σ H ρ) {o : HO} (h : H p = some o) (ho : ∀ ps, o ≠ .tbl ps) (hf : F p = none) (off : Off σ ρ p) : Rel K tb pa (upd B p o) F σ H ρ := by
  refine ⟨⟨r.wf.fz, fun q u e => ?_, fun P hP => ?_⟩, r.len, fun i s e => ?_, r.ne⟩
  · by_cases z : q = p
    · subst z; rw [upd_same] at e; cases e; exact ⟨h, hf⟩
    · rw [upd_ne z] at e; exact r.wf.bg q u e
  · obtain ⟨⟨ps, e, t⟩, b, c⟩ := r.wf.tabs P hP
    refine ⟨⟨ps, e, t⟩, b, ?_⟩
    rw [upd_ne (ne_of e h (fun z => ho ps z.symm))]; exact c
  · have q := r.sl i s e
    cases s with
    | u => trivial
    | v d => exact q
    | o mt ds =>
      obtain ⟨p', vs, a, m, b, c, e', f⟩ := q
      refine ⟨p', vs, a, m, b, c, ?_, f⟩
      rw [upd_ne]; exact e'
      rintro rfl; exact off i _ e rfl a
/-- a value is held while others are reckoned -/
theorem OpR.hold (r : Rel K tb pa B F σ H ρ) (h : OpR K B F H σ ρ x op) : ∃ B', Rel K tb pa B' F σ H ρ ∧ ∀ F' H' ρ', Sm F F' → Rel K tb pa B' F' σ H' ρ' → Rel K tb pa B F' σ H' ρ' ∧ OpR K B F' H' σ ρ' x op := by
  cases op with
  | val d => exact ⟨B, r, fun F' H' ρ' s r' => ⟨r', Rp.mono s h⟩⟩
  | slot i => exact ⟨B, r, fun F' H' ρ' s r' => ⟨r', h⟩⟩
  | new ds =>
    obtain ⟨p, vs, rfl, hp, hf, hb, off, dp⟩ := h
    refine ⟨upd B p (.lst vs), r.more hp (fun ps z => by cases z) hf off, fun F' H' ρ' s r' => ?_⟩
    obtain ⟨a, b⟩ := r'.wf.bg p _ upd_same
    refine ⟨r'.less (Sm.upd hb), p, vs, rfl, a, b, hb, fun j t e ho z => ?_, RpAll.mono s dp⟩
    have q := r'.sl j t e
    cases t with
    | u => cases ho
    | v d => cases ho
    | o mt ds =>
      obtain ⟨p', vs', a', m, b', c', e', f'⟩ := q
      rw [a'] at z; cases z
      rw [upd_same] at e'; cases e'

/-! ### what a value is, read now; kept -/
def viewOp (ρ : En) : Op → Option D
  | .val d => some d
  | .new ds => some (.list ds)
  | .slot i => match ρ[i]? with
    | some (.v d) => some d
    | some (.o _ ds) => some (.list ds)
    | _ => none
def keepOp (ρ : En) : Op → Option (D × En)
  | .val d => some (d, ρ)
  | .new ds => some (.list ds, ρ)
  | .slot i => match ρ[i]? with
    | some (.v d) => some (d, ρ)
    | some (.o false ds) => some (.list ds, ρ.set i (.v (.list ds)))
    | _ => none
theorem view_ok (r : Rel K tb pa B F σ H ρ) (h : OpR K B F H σ ρ x op) (e : viewOp ρ op = some d) : Rp K H x d := by
  cases op with
  | val d' => cases e; exact Rp.mono r.wf.fz h
  | new ds =>
    cases e
    obtain ⟨p, vs, rfl, hp, hf, hb, off, dp⟩ := h
    exact .lst (.inl hp) (RpAll.mono r.wf.fz dp)
  | slot i =>
    simp only [viewOp] at e
    have h : σ[i]? = some (some x) := h
    split at e
    · rename_i d' hd
      cases e
      obtain ⟨y, a, b⟩ := r.sl i _ hd
      rw [h] at a; cases a
      exact Rp.mono r.wf.fz b
    · rename_i mt ds hd
      cases e
      obtain ⟨p, vs, a, m, b, c, e', f⟩ := r.sl i _ hd
      rw [h] at a; cases a
      exact .lst (.inl b) (RpAll.mono r.wf.fz f)
    · cases e
theorem set_get_cases {ρ : En} {i j : Nat} {s t : Sl} (h : (ρ.set i s)[j]? = some t) : (j = i ∧ t = s) ∨ (j ≠ i ∧ ρ[j]? = some t) := by
  by_cases e : j = i
  · subst e
    by_cases hl : j < ρ.length
    · rw [List.getElem?_set_self hl] at h; cases h; exact .inl ⟨rfl, rfl⟩
    · rw [List.getElem?_eq_none (by rw [List.length_set]; omega)] at h; cases h
  · rw [List.getElem?_set_ne (Ne.symm e)] at h; exact .inr ⟨e, h⟩
theorem keep_ok (r : Rel K tb pa B F σ H ρ) (h : OpR K B F H σ ρ x op) (e : keepOp ρ op = some (d, ρ')) : ∃ F', Sm F F' ∧ Rel K tb pa B F' σ H ρ' ∧ Rp K F' x d := by
  cases op with
  | val d' => cases e; exact ⟨F, Sm.refl _, r, h⟩
  | new ds =>
    cases e
    obtain ⟨p, vs, rfl, hp, hf, hb, off, dp⟩ := h
    exact ⟨upd F p (.lst vs), Sm.upd hf, r.freeze hp (fun ps z => by cases z) hf hb off, .lst (.inl upd_same) (RpAll.mono (Sm.upd hf) dp)⟩
  | slot i =>
    simp only [keepOp] at e
    have h : σ[i]? = some (some x) := h
    split at e
    · rename_i d' hd
      cases e
      obtain ⟨y, a, b⟩ := r.sl i _ hd
      rw [h] at a; cases a
      exact ⟨F, Sm.refl _, r, b⟩
    · rename_i ds hd
      cases e
      obtain ⟨p, vs, a, m, b, c, e', f⟩ := r.sl i _ hd
      rw [h] at a; cases a
      have dq : Rp K (upd F p (.lst vs)) (.ref p) (.list ds) := .lst (.inl upd_same) (RpAll.mono (Sm.upd c) f)
      refine ⟨upd F p (.lst vs), Sm.upd c, ⟨r.wf.freeze b (fun ps z => by cases z) e', by rw [List.length_set]; exact r.len, fun j t ht => ?_, fun j k s t hjk hs ht os ot => ?_⟩, dq⟩
      · rcases set_get_cases ht with ⟨rfl, rfl⟩ | ⟨hj, ht⟩
        · exact ⟨_, h, dq⟩
        · refine (r.sl j t ht).same (Sm.upd c) fun q w z => ⟨fun u z => z, fun y => ?_⟩
          rw [upd_ne]; exact y
          rintro rfl
          exact r.ne j i t _ hj ht hd w rfl (z.trans h.symm)
      · rcases set_get_cases hs with ⟨rfl, rfl⟩ | ⟨hj, hs⟩
        · cases os
        · rcases set_get_cases ht with ⟨rfl, rfl⟩ | ⟨hk, ht⟩
          · cases ot
          · exact r.ne j k s t hjk hs ht os ot
    · cases e

/-! ### stores -/
theorem Rel.store (r : Rel K tb pa B F σ H ρ) (h : Rp K F x d) (hi : i < ρ.length) : Rel K tb pa B F (σ.set i (some x)) H (ρ.set i (.v d)) := by
  have hσ : i < σ.length := by rw [r.len]; exact hi
  refine ⟨r.wf, by rw [List.length_set, List.length_set]; exact r.len, fun j t ht => ?_, fun j k s t hjk hs ht os ot => ?_⟩
  · rcases set_get_cases ht with ⟨rfl, rfl⟩ | ⟨hj, ht⟩
    · exact ⟨x, by rw [List.getElem?_set_self hσ], h⟩
    · have q := r.sl j t ht
      cases t with
      | u => trivial
      | v d' => obtain ⟨y, a, b⟩ := q; exact ⟨y, by rw [List.getElem?_set_ne (Ne.symm hj)]; exact a, b⟩
      | o mt ds => obtain ⟨p, vs, a, b⟩ := q; exact ⟨p, vs, by rw [List.getElem?_set_ne (Ne.symm hj)]; exact a, b⟩
  · rcases set_get_cases hs with ⟨rfl, rfl⟩ | ⟨hj, hs⟩
    · cases os
    · rcases set_get_cases ht with ⟨rfl, rfl⟩ | ⟨hk, ht⟩
      · cases ot
      · rw [List.getElem?_set_ne (Ne.symm hj), List.getElem?_set_ne (Ne.symm hk)]
        exact r.ne j k s t hjk hs ht os ot
theorem Rel.storeNew (r : Rel K tb pa B F σ H ρ) {vs : List V} (hp : H p = some (.lst vs)) (hf : F p = none) (hb : B p = none) (off : Off σ ρ p) (dp : RpAll K F vs ds) (hi : i < ρ.length) :
    Rel K tb pa B F (σ.set i (some (.ref p))) H (ρ.set i (.o false ds)) := by
  have hσ : i < σ.length := by rw [r.len]; exact hi
  refine ⟨r.wf, by rw [List.length_set, List.length_set]; exact r.len, fun j t ht => ?_, fun j k s t hjk hs ht os ot => ?_⟩
  · rcases set_get_cases ht with ⟨rfl, rfl⟩ | ⟨hj, ht⟩
    · exact ⟨p, vs, by rw [List.getElem?_set_self hσ], fun z => (by cases z), hp, hf, hb, dp⟩
    · have q := r.sl j t ht
      cases t with
      | u => trivial
      | v d' => obtain ⟨y, a, b⟩ := q; exact ⟨y, by rw [List.getElem?_set_ne (Ne.symm hj)]; exact a, b⟩
      | o mt ds => obtain ⟨p, vs, a, b⟩ := q; exact ⟨p, vs, by rw [List.getElem?_set_ne (Ne.symm hj)]; exact a, b⟩
  · rcases set_get_cases hs with ⟨e1, e2⟩ | ⟨hj, hs'⟩
    · rcases set_get_cases ht with ⟨e3, e4⟩ | ⟨hk, ht'⟩
      · exact absurd (e1.trans e3.symm) hjk
      · rw [e1, List.getElem?_set_self hσ, List.getElem?_set_ne (Ne.symm hk)]
        exact Ne.symm (off k t ht' ot)
    · rcases set_get_cases ht with ⟨e3, e4⟩ | ⟨hk, ht'⟩
      · rw [e3, List.getElem?_set_self hσ, List.getElem?_set_ne (Ne.symm hj)]
        exact off j s hs' os
      · rw [List.getElem?_set_ne (Ne.symm hj), List.getElem?_set_ne (Ne.symm hk)]
        exact r.ne j k s t hjk hs' ht' os ot
/-- an own list is written -/
theorem Rel.write (r : Rel K tb pa B F σ H ρ) {mt : Bool} {vs ws : List V} {es : List D} (hi : ρ[i]? = some (.o mt ds)) (hσ : σ[i]? = some (some (.ref p))) (hp : H p = some (.lst vs)) (dp : RpAll K F ws es) :
    Rel K tb pa B F σ (upd H p (.lst ws)) (ρ.set i (.o mt es)) := by
  obtain ⟨p', vs', a, m, b, c, e', f⟩ := r.sl i _ hi
  rw [hσ] at a; cases a
  refine ⟨r.wf.write hp c e', by rw [List.length_set]; exact r.len, fun j t ht => ?_, fun j k s t hjk hs ht os ot => ?_⟩
  · rcases set_get_cases ht with ⟨rfl, rfl⟩ | ⟨hj, ht⟩
    · exact ⟨p, ws, hσ, m, upd_same, c, e', dp⟩
    · refine (r.sl j t ht).same (Sm.refl _) fun q w z => ⟨fun u y => ?_, fun y => y⟩
      rw [upd_ne]; exact y
      rintro rfl
      exact r.ne j i t _ hj ht hi w rfl (z.trans hσ.symm)
  · have own : ∀ (j : Nat) (s : Sl), (ρ.set i (.o mt es))[j]? = some s → s.own = true → ∃ s', ρ[j]? = some s' ∧ s'.own = true := fun j s hs os => by
      rcases set_get_cases hs with ⟨rfl, rfl⟩ | ⟨hj, hs⟩
      · exact ⟨_, hi, rfl⟩
      · exact ⟨s, hs, os⟩
    obtain ⟨s', h1, h2⟩ := own j s hs os
    obtain ⟨t', h3, h4⟩ := own k t ht ot
    exact r.ne j k s' t' hjk h1 h3 h2 h4
/-- a slot is forgotten -/
theorem Rel.forget (r : Rel K tb pa B F σ H ρ) (i : Nat) : Rel K tb pa B F σ H (ρ.set i .u) := by
  refine ⟨r.wf, by rw [List.length_set]; exact r.len, fun j t ht => ?_, fun j k s t hjk hs ht os ot => ?_⟩
  · rcases set_get_cases ht with ⟨rfl, rfl⟩ | ⟨hj, ht⟩
    · trivial
    · exact r.sl j t ht
  · rcases set_get_cases hs with ⟨rfl, rfl⟩ | ⟨hj, hs⟩
    · cases os
    · rcases set_get_cases ht with ⟨rfl, rfl⟩ | ⟨hk, ht⟩
      · cases ot
      · exact r.ne j k s t hjk hs ht os ot
end
end Ev

set_option maxHeartbeats 1000000
namespace Ev
open PySem PySem.Spec PyProof.Rows L2

/-! ### the small language -/
mutual
inductive IE where
  | var (i : Nat)
  | cst (c : Const)
  | glb (x : Str)
  | bin (op : Operator) (a b : IE)
  | neg (a : IE)
  | not (a : IE)
  | cmp (op : CmpOp) (a b : IE)
  | cmp2 (op op2 : CmpOp) (a b c : IE)
  | and (a b : IE)
  | or (a b : IE)
  | one (a : IE)
  | ite (c a b : IE)
  | tup (es : IEs)
  | lst (es : IEs)
  | idx (a i : IE)
  | slc (a : IE) (lo hi : IC)
  /-- displays with stars: which ones are starred -/
  | tupS (fl : List Bool) (es : IEs)
  | lstS (fl : List Bool) (es : IEs)
  /-- a[lo:hi:-1] -/
  | slb (a : IE) (lo hi : IC)
  | cal (f : Str) (es : IEs)
  | calk (f : Str) (n : Nat) (es : IEs) (ks : List Str)
  | bi (f : String) (es : IEs)
  | isi (a : IE) (T : String)
  | lc (e : IE) (t : Tg) (own : List (Str × Nat)) (it : IT) (c : IC)
  /-- [e for nm in the list of a slot that goes on being changed] -/
  | lcO (e : IE) (j : Nat) (nm : Str) (i : Nat)
  | gn (f : String) (e : IE) (t : Tg) (own : List (Str × Nat)) (it : IT) (c : IC)
inductive IEs where
  | nil
  | cons (e : IE) (es : IEs)
inductive IC where
  | no
  | so (e : IE)
inductive IT where
  | ex (e : IE)
  | r1 (a : IE)
  | r2 (a b : IE)
  | r3 (es : IEs)
  | en (a : IE)
  | zp (a b : IE)
  | zp3 (es : IEs)
  | zps (e : IE)
inductive Tg where
  | nm (i : Nat)
  | sub (i : Nat) (ix : IE)
  | tup (ts : Tgs)
inductive Tgs where
  | nil
  | cons (t : Tg) (ts : Tgs)
end
mutual
inductive IS where
  | asg (t : Tg) (e : IE)
  | asgs (is : List Nat) (es : IEs)
  | aug (i : Nat) (op : Operator) (e : IE)
  | augS (i : Nat) (ix : IE) (op : Operator) (e : IE)
  | app (i : Nat) (e : IE)
  | ifs (c : IE) (a b : ISs)
  | whl (c : IE) (b : ISs)
  | fors (t : Tg) (it : IT) (b : ISs)
  | exp (e : IE)
  | ret (e : IE)
  | retM (e : IE)
  | retN
  | brk
  | cnt
  | pas
  | nev
inductive ISs where
  | nil
  | cons (s : IS) (ss : ISs)
end

/-! ### operations on data -/
def ofC : Const → Option D
  | .none => some .none
  | .bool b => some (.bool b)
  | .int i => some (.int i)
  | .str x => some (.str x)
  | _ => none
def mulOk (i j : Int) : Bool := decide (-(2 ^ 64) < i ∧ i < 2 ^ 64) || (decide (-(2 ^ 64) < j ∧ j < 2 ^ 64) || decide (i.natAbs.log2 + j.natAbs.log2 < 1000000))
def powOk (i j : Int) : Bool := decide (0 ≤ j ∧ j ≤ 1000000 ∧ i.natAbs < 2 ^ 64)
def shlOk (i j : Int) : Bool := powOk i j
def divOk (j : Int) : Bool := decide (0 < j ∧ j.natAbs.log2 < 9000)
def binI : Operator → Int → Int → Option Int
  | .Add, i, j => some (i + j)
  | .Sub, i, j => some (i - j)
  | .Mult, i, j => if mulOk i j then some (i * j) else none
  | .FloorDiv, i, j => if divOk j then some (i / j) else none
  | .Mod, i, j => if decide (0 < j) then some (i % j) else none
  | .Pow, i, j => if powOk i j then some (i ^ j.toNat) else none
  | .LShift, i, j => if powOk i j then some (i * 2 ^ j.toNat) else none
  | .RShift, i, j => if decide (0 ≤ j) then some (i / 2 ^ j.toNat) else none
  | _, _, _ => none
def lenOk (n : Nat) : Bool := decide (n ≤ sizeLine)
def binD (op : Operator) : D → D → Option Op
  | .int i, .int j => (binI op i j).map fun k => .val (.int k)
  | .list xs, .list ys => match op with
    | .Add => if lenOk (xs.length + ys.length) then some (.new (xs ++ ys)) else none
    | _ => none
  | .list xs, .int k => match op with
    | .Mult => if decide (-(2 ^ 63) ≤ k ∧ k < 2 ^ 63) && lenOk (xs.length * k.toNat) then some (.new (List.replicate k.toNat xs).flatten) else none
    | _ => none
  | .tuple xs, .tuple ys => match op with
    | .Add => if lenOk (xs.length + ys.length) then some (.val (.tuple (xs ++ ys))) else none
    | _ => none
  | _, _ => none
def cmpI : CmpOp → Int → Int → Option Bool
  | .Lt, i, j => some (decide (i < j))
  | .LtE, i, j => some (decide (i ≤ j))
  | .Gt, i, j => some (decide (j < i))
  | .GtE, i, j => some (decide (j ≤ i))
  | _, _, _ => none
def isNone : D → Bool
  | .none => true
  | _ => false
def inOk (d : D) (ds : List D) : Bool := SeqAt.shaped d && SeqAt.shaped (.list ds)
def cmpD (op : CmpOp) (a b : D) : Option Bool :=
  match op with
  | .Eq => if SeqAt.shaped a && SeqAt.shaped b then some (PyData.eqv a b) else none
  | .NotEq => if SeqAt.shaped a && SeqAt.shaped b then some (!PyData.eqv a b) else none
  | .Is => match a, b with
    | a, .none => some (isNone a)
    | .bool x, .bool y => some (decide (x = y))
    | _, _ => none
  | .IsNot => match a, b with
    | a, .none => some (!isNone a)
    | .bool x, .bool y => some (!decide (x = y))
    | _, _ => none
  | .In => match b with
    | .list ds => if inOk a ds then some (ds.any fun z => PyData.eqv z a) else none
    | _ => none
  | .NotIn => match b with
    | .list ds => if inOk a ds then some (!ds.any fun z => PyData.eqv z a) else none
    | _ => none
  | op => match a, b with
    | .int i, .int j => cmpI op i j
    | _, _ => none
def trD : D → Option Bool
  | .none => some false
  | .bool b => some b
  | .int i => some (i != 0)
  | .list xs => some (!xs.isEmpty)
  | .tuple xs => some (!xs.isEmpty)
  | _ => none
def idxD : D → D → Option D
  | .list ds, .int i => atI ds i
  | .tuple ds, .int i => atI ds i
  | _, _ => none
def cutD (xs : List D) (lo hi : Option Int) : List D :=
  (xs.drop (HT.sIx xs.length 0 lo)).take (HT.sIx xs.length xs.length hi - HT.sIx xs.length 0 lo)
def slcD : D → Option Int → Option Int → Option Op
  | .list ds, lo, hi => some (.new (cutD ds lo hi))
  | .tuple ds, lo, hi => some (.val (.tuple (cutD ds lo hi)))
  | _, _, _ => none
/-- the places that xs[lo:hi:-1] means -/
def revIx (n : Nat) (lo hi : Option Int) : List Nat := sliceRange (sliceBounds lo hi (some (-1)) n).1 (sliceBounds lo hi (some (-1)) n).2.1 (sliceBounds lo hi (some (-1)) n).2.2
def revL {α : Type} (xs : List α) (lo hi : Option Int) : List α := (revIx xs.length lo hi).filterMap (xs[·]?)
def slbD : D → Option Int → Option Int → Option Op
  | .list ds, lo, hi => some (.new (revL ds lo hi))
  | .tuple ds, lo, hi => some (.val (.tuple (revL ds lo hi)))
  | _, _, _ => none
def itemsD : D → Option (List D)
  | .list ds => some ds
  | .tuple ds => some ds
  | _ => none
def intsD : List D → Option (List Int)
  | [] => some []
  | .int i :: r => (intsD r).map (i :: ·)
  | _ => none
def boolsD : List D → Option (List Bool)
  | [] => some []
  | .bool i :: r => (boolsD r).map (i :: ·)
  | _ => none
def reprOk (d : D) : Bool := d.showable && !d.hasDict && decide (d.depth ≤ 20) && decide (d.shown.length + 64 ≤ sizeLine)
def sortI (ns : List Int) : List Int := ns.mergeSort fun a b => decide (a ≤ b)
def biD (f : String) (ds : List D) : Option Op :=
  match f, ds with
  | "len", [.list xs] => some (.val (.int xs.length))
  | "len", [.tuple xs] => some (.val (.int xs.length))
  | "abs", [.int i] => some (.val (.int (if i < 0 then -i else i)))
  | "int", [.int i] => some (.val (.int i))
  | "int", [.bool b] => some (.val (.int (if b then 1 else 0)))
  | "max", [.int i, .int j] => some (.val (.int (if j > i then j else i)))
  | "min", [.int i, .int j] => some (.val (.int (if j < i then j else i)))
  | "divmod", [.int i, .int j] => if decide (0 < j ∧ j < 1073741824) then some (.val (.tuple [.int (i / j), .int (i % j)])) else none
  | "tuple", [.list xs] => some (.val (.tuple xs))
  | "tuple", [.tuple xs] => some (.val (.tuple xs))
  | "list", [.list xs] => some (.new xs)
  | "list", [.tuple xs] => some (.new xs)
  | "sum", [.list xs] => (intsD xs).map fun ns => .val (.int ns.sum)
  | "sum", [.tuple xs] => (intsD xs).map fun ns => .val (.int ns.sum)
  | "sorted", [.list xs] => (intsD xs).map fun ns => .new ((sortI ns).map .int)
  | "sorted", [.tuple xs] => (intsD xs).map fun ns => .new ((sortI ns).map .int)
  | "all", [.list xs] => (boolsD xs).map fun bs => .val (.bool (bs.all id))
  | "any", [.list xs] => (boolsD xs).map fun bs => .val (.bool (bs.any id))
  | "min", [.list xs] => (intsD xs).bind fun ns => ns.min?.map fun m => .val (.int m)
  | "max", [.list xs] => (intsD xs).bind fun ns => ns.max?.map fun m => .val (.int m)
  | "repr", [d] => if reprOk d then some (.val (.str d.shown)) else none
  | _, _ => none
def tyD : D → String
  | .none => "NoneType"
  | .bool _ => "bool"
  | .int _ => "int"
  | .str _ => "str"
  | .list _ => "list"
  | .tuple _ => "tuple"
  | .dict _ => "dict"

/-! ### what the defs do -/
inductive FS where
  /-- of data -/
  | p (n : Nat) (f : List D → Option D)
  /-- of a list that it changes, and of data -/
  | w (n : Nat) (f : List D → List D → Option (D × List D))
  /-- of data, and makes a new list -/
  | m (n : Nat) (f : List D → Option (List D))
abbrev FT := Str → Option FS
/-- a def called with keywords: which places its parameters take -/
abbrev KT := Str → List Str → Option (List Nat)
structure Tb where
  fs : FT
  ks : Str → Nat → List Str → Option (List Nat)
  gl : Str → Option D

def permL {α : Type} (pm : List Nat) (xs : List α) : List α := pm.filterMap fun i => xs[i]?
def setE (ρ : En) (i : Nat) (s : Sl) : Option En := if decide (i < ρ.length) then some (ρ.set i s) else none
/-- the values as they are now -/
def viewL (ρ : En) : List Op → Option (List D)
  | [] => some []
  | o :: r => (viewOp ρ o).bind fun d => (viewL ρ r).map (d :: ·)
def keepL (ρ : En) : List Op → Option (List D × En)
  | [] => some ([], ρ)
  | o :: r => (keepL ρ r).bind fun q => (keepOp q.2 o).map fun p => (p.1 :: q.1, p.2)
def callP (f : List D → Option D) (ops : List Op) (ρ : En) : Option (Op × En) :=
  (viewL ρ ops).bind fun ds => (f ds).bind fun r =>
    if flat r then some (.val r, ρ) else (keepL ρ ops).map fun p => (.val r, p.2)
def callW (f : List D → List D → Option (D × List D)) (ops : List Op) (ρ : En) : Option (Op × En) :=
  match ops with
  | .slot i :: r => match ρ[i]? with
    | some (.o mt ds) => (keepL ρ r).bind fun p => match p.2[i]? with
      | some (.o mt2 es) => if mt == mt2 then (f es p.1).map fun q => (.val q.1, p.2.set i (.o mt q.2)) else none
      | _ => none
    | _ => none
  | .new ds0 :: r => (keepL ρ r).bind fun p => (f ds0 p.1).map fun q => (.val q.1, p.2)
  | _ => none
def callM (f : List D → Option (List D)) (ops : List Op) (ρ : En) : Option (Op × En) :=
  (keepL ρ ops).bind fun p => (f p.1).map fun r => (.new r, p.2)
def callF (fs : FS) (ops : List Op) (ρ : En) : Option (Op × En) :=
  match fs with
  | .p n f => if ops.length == n then callP f ops ρ else none
  | .w n f => if ops.length == n then callW f ops ρ else none
  | .m n f => if ops.length == n then callM f ops ρ else none

/-! ### loops -/
def rngD (lo : Int) (n : Nat) : List D := (List.range n).map fun i => .int (lo + (i : Nat))
def rngC (lo c : Int) (n : Nat) : List D := (List.range n).map fun i => .int (lo + (i : Nat) * c)
def enumD (ds : List D) : List D := (List.range ds.length).zipWith (fun i d => .tuple [.int (i : Nat), d]) ds
def zipD3 (xs ys zs : List D) : List D := xs.zipWith (fun a p => .tuple [a, p.1, p.2]) (ys.zip zs)
def zipD (xs ys : List D) : List D := xs.zipWith (fun a b => .tuple [a, b]) ys
def rngOk (i : Int) : Bool := decide (-(2 ^ 62) ≤ i ∧ i < 2 ^ 62)

def evComp (f : D → En → Option (Option D × En)) : List D → List D → En → Option (List D × En)
  | [], acc, ρ => some (acc, ρ)
  | x :: xs, acc, ρ => match f x ρ with
    | some (some d, ρ') => evComp f xs (acc ++ [d]) ρ'
    | some (none, ρ') => evComp f xs acc ρ'
    | none => none
/-- a generator's items, up to the one at which its consumer stops -/
def evGen (st : D → Bool) (f : D → En → Option (Option D × En)) : List D → List D → En → Option (List D × En)
  | [], acc, ρ => some (acc, ρ)
  | x :: xs, acc, ρ => match f x ρ with
    | some (some d, ρ') => if st d then some (acc ++ [d], ρ') else evGen st f xs (acc ++ [d]) ρ'
    | some (none, ρ') => evGen st f xs acc ρ'
    | none => none
def gnSt : String → D → Bool
  | "all", .bool b => !b
  | "any", .bool b => b
  | _, _ => false
def gnD (f : String) (out : List D) : Option D :=
  match f with
  | "all" => (boolsD out).map fun bs => .bool (bs.all id)
  | "any" => (boolsD out).map fun bs => .bool (bs.any id)
  | "sum" => (intsD out).map fun ns => .int ns.sum
  | "tuple" => if lenOk out.length then some (.tuple out) else none
  | _ => none
def wipeE (ρ : En) : List Nat → En
  | [] => ρ
  | v :: vs => (wipeE ρ vs).set v .u
/-- behind a block: its own slots are as they were -/
def backE (ρ ρ' : En) : List Nat → En
  | [] => ρ'
  | v :: vs => (backE ρ ρ' vs).set v (match ρ[v]? with | some (.v d) => .v d | _ => .u)

/-- a value is stored -/
def stOp (ρ : En) (i : Nat) : Op → Option En
  | .val d => setE ρ i (.v d)
  | .new ds => setE ρ i (.o false ds)
  | .slot j => (keepOp ρ (.slot j)).bind fun p => setE p.2 i (.v p.1)
/-- slots become values -/
def settle1 (ρ : En) : Op → Option (Op × En)
  | .slot j => (keepOp ρ (.slot j)).map fun p => (.val p.1, p.2)
  | o => some (o, ρ)
def settle (ρ : En) : List Op → Option (List Op × En)
  | [] => some ([], ρ)
  | o :: r => (settle ρ r).bind fun q => (settle1 q.2 o).map fun p => (p.1 :: q.1, p.2)

mutual
def evE (T : Tb) (ρ : En) : IE → Option (Op × En)
  | .var i => match ρ[i]? with
    | some .u => none
    | some _ => some (.slot i, ρ)
    | none => none
  | .cst c => (ofC c).map fun d => (.val d, ρ)
  | .glb x => (T.gl x).map fun d => (.val d, ρ)
  | .bin op a b => (evE T ρ a).bind fun p => (evE T p.2 b).bind fun q =>
    (viewOp q.2 p.1).bind fun x => (viewOp q.2 q.1).bind fun y => (binD op x y).map fun r => (r, q.2)
  | .neg a => (evE T ρ a).bind fun p => match viewOp p.2 p.1 with
    | some (.int i) => some (.val (.int (-i)), p.2)
    | _ => none
  | .not a => (evE T ρ a).bind fun p => match viewOp p.2 p.1 with
    | some (.bool b) => some (.val (.bool (!b)), p.2)
    | _ => none
  | .cmp op a b => (evE T ρ a).bind fun p => (evE T p.2 b).bind fun q =>
    (viewOp q.2 p.1).bind fun x => (viewOp q.2 q.1).bind fun y => (cmpD op x y).map fun r => (.val (.bool r), q.2)
  | .cmp2 op op2 a b c => (evE T ρ a).bind fun p => (evE T p.2 b).bind fun q =>
    (viewOp q.2 p.1).bind fun x => (viewOp q.2 q.1).bind fun y => (cmpD op x y).bind fun r =>
      if r then (evE T q.2 c).bind fun s => (viewOp s.2 q.1).bind fun y' => (viewOp s.2 s.1).bind fun z => (cmpD op2 y' z).map fun r2 => (.val (.bool r2), s.2)
      else some (.val (.bool false), q.2)
  | .and a b => (evE T ρ a).bind fun p => match viewOp p.2 p.1 with
    | some (.bool true) => evE T p.2 b
    | some (.bool false) => some (.val (.bool false), p.2)
    | _ => none
  | .or a b => (evE T ρ a).bind fun p => match viewOp p.2 p.1 with
    | some (.bool true) => some (.val (.bool true), p.2)
    | some (.bool false) => evE T p.2 b
    | _ => none
  | .one a => evE T ρ a
  | .ite c a b => match evT T ρ c with
    | some (true, ρ1) => evE T ρ1 a
    | some (false, ρ1) => evE T ρ1 b
    | none => none
  | .tup es => (evEs T ρ es).bind fun p => (keepL p.2 p.1).bind fun q => if lenOk q.1.length then some (.val (.tuple q.1), q.2) else none
  | .lst es => (evEs T ρ es).bind fun p => (keepL p.2 p.1).bind fun q => if lenOk q.1.length then some (.new q.1, q.2) else none
  | .idx a i => (evE T ρ a).bind fun p => (evE T p.2 i).bind fun q =>
    (viewOp q.2 p.1).bind fun x => (viewOp q.2 q.1).bind fun y => (idxD x y).map fun r => (.val r, q.2)
  | .slc a lo hi => (evE T ρ a).bind fun p => (evC T p.2 lo).bind fun q => (evC T q.2 hi).bind fun r =>
    (viewOp r.2 p.1).bind fun x => (slcD x q.1 r.1).map fun z => (z, r.2)
  | .tupS fl es => (evSt T ρ fl es).bind fun q => if lenOk q.1.length then some (.val (.tuple q.1), q.2) else none
  | .lstS fl es => (evSt T ρ fl es).bind fun q => if lenOk q.1.length then some (.new q.1, q.2) else none
  | .slb a lo hi => (evE T ρ a).bind fun p => (evC T p.2 lo).bind fun q => (evC T q.2 hi).bind fun r =>
    (viewOp r.2 p.1).bind fun x => (slbD x q.1 r.1).map fun z => (z, r.2)
  | .cal f es => (evEs T ρ es).bind fun p => (T.fs f).bind fun fs => callF fs p.1 p.2
  | .calk f n es ks => (evEs T ρ es).bind fun p => (keepL p.2 p.1).bind fun q => (T.ks f n ks).bind fun pm => (T.fs f).bind fun fs => callF fs ((permL pm q.1).map .val) q.2
  | .bi f es => (evEs T ρ es).bind fun p => (viewL p.2 p.1).bind fun ds => (biD f ds).map fun r => (r, p.2)
  | .isi a t => (evE T ρ a).bind fun p => (viewOp p.2 p.1).bind fun x => (kitB (tyD x) t).map fun b => (.val (.bool b), p.2)
  | .lc e t own it c => (evIt T ρ it).bind fun p =>
    (evComp (fun x ρ1 => (bindT (wipeE ρ1 (own.map (·.2))) t x).bind fun ρ2 =>
      (evIf T ρ2 c).bind fun q => if q.1 then (evE T q.2 e).bind fun r => (keepOp r.2 r.1).map fun k => (some k.1, k.2) else some (none, q.2)) p.1 [] p.2).bind fun r =>
        if lenOk r.1.length then some (.new r.1, backE p.2 r.2 (own.map (·.2))) else none
  | .lcO e j nm i => match ρ[i]? with
    | some (.o false ds) => (evComp (fun x ρ1 => (setE (wipeE ρ1 [j]) j (.v x)).bind fun ρ2 => (evE T ρ2 e).bind fun r => match r.1 with
      | .val d => some (some d, r.2)
      | _ => none) ds [] ρ).bind fun r => if lenOk r.1.length then some (.new r.1, backE ρ r.2 [j]) else none
    | _ => none
  | .gn f e t own it c => (evIt T ρ it).bind fun p =>
    (evGen (gnSt f) (fun x ρ1 => (bindT (wipeE ρ1 (own.map (·.2))) t x).bind fun ρ2 =>
      (evIf T ρ2 c).bind fun q => if q.1 then (evE T q.2 e).bind fun r => (keepOp r.2 r.1).map fun k => (some k.1, k.2) else some (none, q.2)) p.1 [] p.2).bind fun r =>
        (gnD f r.1).map fun d => (.val d, backE p.2 r.2 (own.map (·.2)))
def evEs (T : Tb) (ρ : En) : IEs → Option (List Op × En)
  | .nil => some ([], ρ)
  | .cons e es => (evE T ρ e).bind fun p => (evEs T p.2 es).map fun q => (p.1 :: q.1, q.2)
def evSt (T : Tb) (ρ : En) (fl : List Bool) : IEs → Option (List D × En)
  | .nil => match fl with
    | [] => some ([], ρ)
    | _ => none
  | .cons e es => match fl with
    | false :: fl => (evE T ρ e).bind fun p => (keepOp p.2 p.1).bind fun q => (evSt T q.2 fl es).map fun r => (q.1 :: r.1, r.2)
    | true :: fl => (evE T ρ e).bind fun p => (keepOp p.2 p.1).bind fun q => (itemsD q.1).bind fun ds => (evSt T q.2 fl es).map fun r => (ds ++ r.1, r.2)
    | [] => none
def evC (T : Tb) (ρ : En) : IC → Option (Option Int × En)
  | .no => some (none, ρ)
  | .so e => (evE T ρ e).bind fun p => match viewOp p.2 p.1 with
    | some (.int i) => some (some i, p.2)
    | _ => none
/-- a clause's test -/
def evIf (T : Tb) (ρ : En) : IC → Option (Bool × En)
  | .no => some (true, ρ)
  | .so e => evT T ρ e
/-- a test -/
def evT (T : Tb) (ρ : En) : IE → Option (Bool × En)
  | .not a => (evT T ρ a).map fun p => (!p.1, p.2)
  | .and a b => match evT T ρ a with
    | some (true, ρ1) => evT T ρ1 b
    | some (false, ρ1) => some (false, ρ1)
    | none => none
  | .or a b => match evT T ρ a with
    | some (true, ρ1) => some (true, ρ1)
    | some (false, ρ1) => evT T ρ1 b
    | none => none
  | .one a => evT T ρ a
  | .ite _ _ _ => none
  | .var i => (viewOp ρ (.slot i)).bind fun d => (trD d).map fun b => (b, ρ)
  | .cmp op a b => (evE T ρ a).bind fun p => (evE T p.2 b).bind fun q =>
    (viewOp q.2 p.1).bind fun x => (viewOp q.2 q.1).bind fun y => (cmpD op x y).map fun r => (r, q.2)
  | .cmp2 op op2 a b c => (evE T ρ a).bind fun p => (evE T p.2 b).bind fun q =>
    (viewOp q.2 p.1).bind fun x => (viewOp q.2 q.1).bind fun y => (cmpD op x y).bind fun r =>
      if r then (evE T q.2 c).bind fun s => (viewOp s.2 q.1).bind fun y' => (viewOp s.2 s.1).bind fun z => (cmpD op2 y' z).map fun r2 => (r2, s.2)
      else some (false, q.2)
  | .cal f es => (evEs T ρ es).bind fun p => (T.fs f).bind fun fs => (callF fs p.1 p.2).bind fun r => (viewOp r.2 r.1).bind fun d => (trD d).map fun b => (b, r.2)
  | .calk f n es ks => (evEs T ρ es).bind fun p => (keepL p.2 p.1).bind fun q => (T.ks f n ks).bind fun pm => (T.fs f).bind fun fs => (callF fs ((permL pm q.1).map .val) q.2).bind fun r => (viewOp r.2 r.1).bind fun d => (trD d).map fun b => (b, r.2)
  | .bi f es => (evEs T ρ es).bind fun p => (viewL p.2 p.1).bind fun ds => (biD f ds).bind fun r => (viewOp p.2 r).bind fun d => (trD d).map fun b => (b, p.2)
  | .isi a t => (evE T ρ a).bind fun p => (viewOp p.2 p.1).bind fun x => (kitB (tyD x) t).map fun b => (b, p.2)
  | .idx a i => (evE T ρ a).bind fun p => (evE T p.2 i).bind fun q =>
    (viewOp q.2 p.1).bind fun x => (viewOp q.2 q.1).bind fun y => (idxD x y).bind fun r => (trD r).map fun b => (b, q.2)
  | .gn f e t own it c => (evIt T ρ it).bind fun p =>
    (evGen (gnSt f) (fun x ρ1 => (bindT (wipeE ρ1 (own.map (·.2))) t x).bind fun ρ2 =>
      (evIf T ρ2 c).bind fun q => if q.1 then (evE T q.2 e).bind fun r => (keepOp r.2 r.1).map fun k => (some k.1, k.2) else some (none, q.2)) p.1 [] p.2).bind fun r =>
        (gnD f r.1).bind fun d => (trD d).map fun b => (b, backE p.2 r.2 (own.map (·.2)))
  | _ => none
/-- what a loop walks -/
def evIt (T : Tb) (ρ : En) : IT → Option (List D × En)
  | .ex e => (evE T ρ e).bind fun p => (keepOp p.2 p.1).bind fun q => match q.1 with
    | .list ds => some (ds, q.2)
    | .tuple ds => some (ds, q.2)
    | _ => none
  | .r1 a => (evE T ρ a).bind fun p => match viewOp p.2 p.1 with
    | some (.int j) => if rngOk j then some (rngD 0 j.toNat, p.2) else none
    | _ => none
  | .r2 a b => (evE T ρ a).bind fun p => (evE T p.2 b).bind fun q => match viewOp q.2 p.1, viewOp q.2 q.1 with
    | some (.int i), some (.int j) => if rngOk i && rngOk j then some (rngD i (j - i).toNat, q.2) else none
    | _, _ => none
  | .r3 es => (evEs T ρ es).bind fun p => match viewL p.2 p.1 with
    | some [.int i, .int j, .int (-1)] => if rngOk i && rngOk j then some (rngC i (-1) (i - j).toNat, p.2) else none
    | _ => none
  | .en a => (evE T ρ a).bind fun p => (keepOp p.2 p.1).bind fun q => match q.1 with
    | .list ds => some (enumD ds, q.2)
    | .tuple ds => some (enumD ds, q.2)
    | _ => none
  | .zp a b => (evE T ρ a).bind fun p => (evE T p.2 b).bind fun q => (keepL q.2 [p.1, q.1]).bind fun r => match r.1 with
    | [.list xs, .list ys] => some (zipD xs ys, r.2)
    | [.tuple xs, .tuple ys] => some (zipD xs ys, r.2)
    | [.tuple xs, .list ys] => some (zipD xs ys, r.2)
    | _ => none
  | .zp3 es => (evEs T ρ es).bind fun p => (keepL p.2 p.1).bind fun r => match r.1 with
    | [.tuple xs, .tuple ys, .tuple zs] => some (zipD3 xs ys zs, r.2)
    | _ => none
  | .zps e => (evE T ρ e).bind fun p => (keepOp p.2 p.1).bind fun r => match r.1 with
    | .tuple [.tuple xs, .tuple ys, .tuple zs] => some (zipD3 xs ys zs, r.2)
    | _ => none
/-- a block's target -/
def bindT (ρ : En) : Tg → D → Option En
  | .nm i, d => setE ρ i (.v d)
  | .sub _ _, _ => none
  | .tup ts, d => match d with
    | .tuple ds => bindTs ρ ts ds
    | _ => none
def bindTs (ρ : En) : Tgs → List D → Option En
  | .nil, ds => match ds with
    | [] => some ρ
    | _ => none
  | .cons t ts, ds => match ds with
    | d :: r => (bindT ρ t d).bind fun ρ1 => bindTs ρ1 ts r
    | _ => none
end
end Ev

set_option maxHeartbeats 1000000
namespace Ev
open PySem PySem.Spec PyProof.Rows L2

/-! ### statements -/
inductive Oc where
  | nx (ρ : En)
  | rt (d : D) (ρ : En)
  | rn (ds : List D) (ρ : En)
  | bk (ρ : En)
  | ct (ρ : En)
mutual
def asgT (T : Tb) (ρ : En) : Tg → Op → Option En
  | .nm i, op => stOp ρ i op
  | .sub i ix, op => (keepOp ρ op).bind fun p => match p.2[i]? with
    | some (.o _ _) => (evE T p.2 ix).bind fun q => match viewOp q.2 q.1, q.2[i]? with
      | some (.int k), some (.o mt ds) => (ixN ds.length k).map fun j => q.2.set i (.o mt (ds.set j p.1))
      | _, _ => none
    | _ => none
  | .tup ts, op => (keepOp ρ op).bind fun p => match p.1 with
    | .tuple ds => asgTs T p.2 ts (ds.map .val)
    | _ => none
def asgTs (T : Tb) (ρ : En) : Tgs → List Op → Option En
  | .nil, ops => match ops with
    | [] => some ρ
    | _ => none
  | .cons t ts, ops => match ops with
    | o :: r => (asgT T ρ t o).bind fun ρ1 => asgTs T ρ1 ts r
    | _ => none
end
/-- names, stored from the right -/
def asgN (ρ : En) : List Nat → List Op → Option En
  | [], ops => match ops with
    | [] => some ρ
    | _ => none
  | i :: r, ops => match ops with
    | o :: os => (asgN ρ r os).bind fun ρ1 => stOp ρ1 i o
    | _ => none
def evFor (f : D → En → Option Oc) : List D → En → Option Oc
  | [], ρ => some (.nx ρ)
  | x :: xs, ρ => match f x ρ with
    | some (.nx ρ1) => evFor f xs ρ1
    | some (.ct ρ1) => evFor f xs ρ1
    | some (.bk ρ1) => some (.nx ρ1)
    | some (.rt d ρ1) => some (.rt d ρ1)
    | some (.rn d ρ1) => some (.rn d ρ1)
    | none => none
def evWhl (c : En → Option (Bool × En)) (b : En → Option Oc) : Nat → En → Option Oc
  | 0, _ => none
  | n + 1, ρ => match c ρ with
    | some (false, ρ1) => some (.nx ρ1)
    | some (true, ρ1) => match b ρ1 with
      | some (.nx ρ2) => evWhl c b n ρ2
      | some (.ct ρ2) => evWhl c b n ρ2
      | some (.bk ρ2) => some (.nx ρ2)
      | some (.rt d ρ2) => some (.rt d ρ2)
      | some (.rn d ρ2) => some (.rn d ρ2)
      | none => none
    | none => none
def augI : Operator → Int → Int → Option Int
  | .Add, i, j => some (i + j)
  | .Sub, i, j => some (i - j)
  | .Mult, i, j => if mulOk i j then some (i * j) else none
  | .FloorDiv, i, j => if divOk j then some (i / j) else none
  | _, _, _ => none
def intE (ρ : En) (o : Op) : Option Int := match viewOp ρ o with
  | some (.int i) => some i
  | _ => none
mutual
def evS (n : Nat) (T : Tb) (ρ : En) : IS → Option Oc
  | .asg t e => (evE T ρ e).bind fun p => (asgT T p.2 t p.1).map .nx
  | .asgs is es => (evEs T ρ es).bind fun p => (settle p.2 p.1).bind fun q => (asgN q.2 is q.1).map .nx
  | .aug i op e => (intE ρ (.slot i)).bind fun a => (evE T ρ e).bind fun p => (intE p.2 p.1).bind fun b => (augI op a b).bind fun z => (setE p.2 i (.v (.int z))).map .nx
  | .augS i ix op e => match ρ[i]? with
    | some (.o _ _) => (evE T ρ ix).bind fun p => match intE p.2 p.1, p.2[i]? with
      | some k, some (.o mt ds) => (ixN ds.length k).bind fun j => match ds[j]? with
        | some (.int a) => (evE T p.2 e).bind fun q => (intE q.2 q.1).bind fun b => (augI op a b).bind fun z => match q.2[i]? with
          | some (.o mt2 ds2) => (ixN ds2.length k).map fun j2 => .nx (q.2.set i (.o mt2 (ds2.set j2 (.int z))))
          | _ => none
        | _ => none
      | _, _ => none
    | _ => none
  | .app i e => match ρ[i]? with
    | some (.o _ _) => (evE T ρ e).bind fun p => (keepOp p.2 p.1).bind fun q => match q.2[i]? with
      | some (.o mt ds) => if decide (ds.length < sizeLine) then some (.nx (q.2.set i (.o mt (ds ++ [q.1])))) else none
      | _ => none
    | _ => none
  | .ifs c a b => match evT T ρ c with
    | some (true, ρ1) => evSs n T ρ1 a
    | some (false, ρ1) => evSs n T ρ1 b
    | none => none
  | .whl c b => evWhl (fun ρ1 => evT T ρ1 c) (fun ρ1 => evSs n T ρ1 b) n ρ
  | .fors t it b => (evIt T ρ it).bind fun p => evFor (fun x ρ1 => (bindT ρ1 t x).bind fun ρ2 => evSs n T ρ2 b) p.1 p.2
  | .exp e => (evE T ρ e).map fun p => .nx p.2
  | .ret e => (evE T ρ e).bind fun p => (keepOp p.2 p.1).map fun q => .rt q.1 q.2
  | .retM e => (evE T ρ e).bind fun p => match p.1 with
    | .new ds => some (.rn ds p.2)
    | _ => none
  | .retN => some (.rt .none ρ)
  | .brk => some (.bk ρ)
  | .cnt => some (.ct ρ)
  | .pas => some (.nx ρ)
  | .nev => none
def evSs (n : Nat) (T : Tb) (ρ : En) : ISs → Option Oc
  | .nil => some (.nx ρ)
  | .cons s ss => match evS n T ρ s with
    | some (.nx ρ1) => evSs n T ρ1 ss
    | o => o
end
/-- a def's run -/
def entP (N : Nat) (ds : List D) : En := ds.map .v ++ List.replicate (N - ds.length) .u
def entW (N : Nat) (ds0 : List D) (ds : List D) : En := Sl.o true ds0 :: (ds.map .v ++ List.replicate (N - 1 - ds.length) .u)
def runP (n : Nat) (T : Tb) (N : Nat) (b : ISs) (ds : List D) : Option D :=
  match evSs n T (entP N ds) b with
  | some (.rt d _) => some d
  | some (.nx _) => some .none
  | _ => none
def runM (n : Nat) (T : Tb) (N : Nat) (b : ISs) (ds : List D) : Option (List D) :=
  match evSs n T (entP N ds) b with
  | some (.rn r _) => some r
  | _ => none
def runW (n : Nat) (T : Tb) (N : Nat) (b : ISs) (ds0 ds : List D) : Option (D × List D) :=
  match evSs n T (entW N ds0 ds) b with
  | some (.rt d ρ) => match ρ[(0 : Nat)]? with
    | some (.o true es) => some (d, es)
    | _ => none
  | some (.nx ρ) => match ρ[(0 : Nat)]? with
    | some (.o true es) => some (.none, es)
    | _ => none
  | _ => none

mutual
def tgIx : Tg → List Nat
  | .nm i => [i]
  | .sub _ _ => []
  | .tup ts => tgsIx ts
def tgsIx : Tgs → List Nat
  | .nil => []
  | .cons t ts => tgIx t ++ tgsIx ts
end
def tyNames : List String := ["int", "bool", "str", "tuple", "list", "dict", "float"]
/-! ### the text is this -/
structure Sc where
  N : List Str
  sc : Scope
  fn : Str → Bool
  /-- generator expressions may stand here -/
  gd : Bool := false
def visB (s : Scope) (x : Str) : Bool := match s.names.lookup x with
  | some .local => true
  | some .cell => true
  | some .free => true
  | _ => false
def glB (s : Scope) (x : Str) : Bool := match s.names.lookup x with
  | some .globalImplicit => true
  | _ => false
def okN (x : Str) : Bool := !(x == ("__debug__" : Str)) && !(x == ("__classdict__" : Str)) && !(x == ("__name__" : Str))
def stB (s : Sc) (x : Str) : Bool := match s.sc.names.lookup x with
  | some .local => true
  | some .cell => s.fn x
  | _ => false
def isName (f : Str) : Expr → Bool
  | .Name x _ => x == f
  | _ => false
def nm? : Expr → Option Str
  | .Name x _ => some x
  | _ => none
def blkS (s : Sc) (scope : Scope) : Sc := ⟨s.N, relS scope s.sc, fun x => scope.names.lookup x == some .cell, s.gd⟩
def gnS (s : Sc) (scope : Scope) : Sc := ⟨s.N, scope, fun _ => false, false⟩
def gnC (N : List Str) (sc scope : Scope) (own : List (Str × Nat)) : Bool :=
  blkC N sc scope own && (scope.names.all fun y => decide (y.2 ≠ .cell)) && decide (scope.names.lookup (".0" : Str) = some NameKind.local) && !scope.isCoroutine
def noLst : Expr → Bool
  | .List .. => false
  | _ => true
def plainC : Expr → Bool
  | .ListComp .. => false
  | .SetComp .. => false
  | .DictComp .. => false
  | _ => true
/-- the step -1 -/
def isM1 : Expr → Bool
  | .UnaryOp .USub (.Constant (.int 1) _ _) _ => true
  | _ => false
/-- numbers out of one name -/
def smp (j : Nat) : IE → Bool
  | .var i => decide (i = j)
  | .cst _ => true
  | .bin _ a b => smp j a && smp j b
  | .idx a b => smp j a && smp j b
  | _ => false
mutual
def chE (s : Sc) : IE → Expr → Bool
  | .var i, e => match e with
    | .Name x _ => decide (s.N[i]? = some x) && visB s.sc x && okN x
    | _ => false
  | .cst c, e => match e with
    | .Constant c' _ _ => decide (c = c')
    | _ => false
  | .glb x, e => match e with
    | .Name y _ => decide (x = y) && glB s.sc y && okN y
    | _ => false
  | .bin op a b, e => match e with
    | .BinOp a' op' b' _ => decide (op = op') && chE s a a' && chE s b b'
    | _ => false
  | .neg a, e => match e with
    | .UnaryOp .USub a' _ => chE s a a'
    | _ => false
  | .not a, e => match e with
    | .UnaryOp .Not a' _ => chE s a a'
    | _ => false
  | .cmp op a b, e => match e with
    | .Compare a' [op'] [b'] _ => decide (op = op') && chE s a a' && chE s b b'
    | _ => false
  | .cmp2 op op2 a b c, e => match e with
    | .Compare a' [op', op2'] [b', c'] _ => decide (op = op') && decide (op2 = op2') && chE s a a' && chE s b b' && chE s c c'
    | _ => false
  | .and a b, e => match e with
    | .BoolOp .And (a' :: b' :: r) pos => chE s a a' && chE s b (.BoolOp .And (b' :: r) pos)
    | _ => false
  | .or a b, e => match e with
    | .BoolOp .Or (a' :: b' :: r) pos => chE s a a' && chE s b (.BoolOp .Or (b' :: r) pos)
    | _ => false
  | .one a, e => match e with
    | .BoolOp _ [a'] _ => chE s a a'
    | _ => false
  | .ite c a b, e => match e with
    | .IfExp c' a' b' _ => chE s c c' && chE s a a' && chE s b b'
    | _ => false
  | .tup es, e => match e with
    | .Tuple es' _ _ => chEs s es es'
    | _ => false
  | .lst es, e => match e with
    | .List es' _ => chEs s es es'
    | _ => false
  | .idx a i, e => match e with
    | .Subscript a' i' _ => chE s a a' && chE s i i'
    | _ => false
  | .slc a lo hi, e => match e with
    | .Subscript a' (.Slice lo' hi' none _) _ => chE s a a' && chC s lo lo' && chC s hi hi'
    | _ => false
  | .tupS fl es, e => match e with
    | .Tuple es' _ _ => chSt s fl es es'
    | _ => false
  | .lstS fl es, e => match e with
    | .List es' _ => chSt s fl es es'
    | _ => false
  | .slb a lo hi, e => match e with
    | .Subscript a' (.Slice lo' hi' (some st) _) _ => isM1 st && chE s a a' && chC s lo lo' && chC s hi hi'
    | _ => false
  | .cal f es, e => match e with
    | .Call (.Name x _) es' [] _ => decide (x = f) && glB s.sc x && okN x && chEs s es es'
    | _ => false
  | .calk f n es ks, e => match e with
    | .Call (.Name x _) es' kws _ => decide (x = f) && glB s.sc x && okN x && chEs s es (es' ++ kws.map (·.value)) && decide (es'.length = n) && decide (kws.map (·.arg) = ks.map some) && !kws.isEmpty
    | _ => false
  | .bi f es, e => match e with
    | .Call (.Name x _) es' [] _ => decide (x = Str.ofString f) && glB s.sc x && okN x && chEs s es es'
    | _ => false
  | .isi a t, e => match e with
    | .Call (.Name x _) [a', .Name y _] [] _ => decide (x = Str.ofString "isinstance") && glB s.sc x && decide (y = Str.ofString t) && glB s.sc y && okN y && chE s a a' && decide (t ∈ tyNames)
    | _ => false
  | .lc elt t own it c, e => match e with
    | .ListComp elt' [⟨tg, iter, ifs, 0⟩] scope _ => blkC s.N s.sc scope own && chIt s it tg iter && chT (blkS s scope) t tg && chIf (blkS s scope) c ifs && chE (blkS s scope) elt elt' && (tgIx t).all fun i => (own.map (·.2)).contains i
    | _ => false
  | .lcO elt j nm i, e => match e with
    | .ListComp elt' [⟨.Name y _, .Name x _, [], 0⟩] scope _ => blkC s.N s.sc scope [(nm, j)] && decide (s.N[i]? = some x) && visB s.sc x && okN x && (decide ((blkS s scope).N[j]? = some y) && stB (blkS s scope) y) && chE (blkS s scope) elt elt' && smp j elt && decide (i ≠ j)
    | _ => false
  | .gn f elt t own it c, e => match e with
    | .Call (.Name x _) [.GeneratorExp elt' [⟨tg, iter, ifs, 0⟩] scope _] [] _ => decide (x = Str.ofString f) && glB s.sc x && okN x && s.gd && gnC s.N s.sc scope own && noLst iter && chIt s it tg iter && chT (gnS s scope) t tg && chIf (gnS s scope) c ifs && chE (gnS s scope) elt elt' && (tgIx t).all fun i => (own.map (·.2)).contains i
    | _ => false
def chEs (s : Sc) : IEs → List Expr → Bool
  | .nil, l => match l with
    | [] => true
    | _ => false
  | .cons e es, l => match l with
    | e' :: es' => chE s e e' && chEs s es es'
    | _ => false
def chSt (s : Sc) (fl : List Bool) : IEs → List Expr → Bool
  | .nil, l => match l with
    | [] => true
    | _ => false
  | .cons e es, l => match fl, l with
    | true :: fl, .Starred e' _ :: es' => chE s e e' && chSt s fl es es'
    | false :: fl, e' :: es' => chE s e e' && chSt s fl es es'
    | _, _ => false
def chC (s : Sc) : IC → Option Expr → Bool
  | .no, l => match l with
    | none => true
    | _ => false
  | .so e, l => match l with
    | some e' => chE s e e'
    | _ => false
def chIf (s : Sc) : IC → List Expr → Bool
  | .no, l => match l with
    | [] => true
    | _ => false
  | .so e, l => match l with
    | [e'] => chE s e e'
    | _ => false
def chIt (s : Sc) : IT → Expr → Expr → Bool
  | .ex e, _, x => chE s e x
  | .r1 a, _, x => match x with
    | .Call (.Name f _) [a'] [] _ => decide (f = Str.ofString "range") && glB s.sc f && chE s a a'
    | _ => false
  | .r2 a b, _, x => match x with
    | .Call (.Name f _) [a', b'] [] _ => decide (f = Str.ofString "range") && glB s.sc f && chE s a a' && chE s b b'
    | _ => false
  | .r3 es, _, x => match x with
    | .Call (.Name f _) [a', b', c'] [] _ => decide (f = Str.ofString "range") && glB s.sc f && chEs s es [a', b', c']
    | _ => false
  | .en a, tg, x => match tg, x with
    | .Tuple _ _ _, .Call (.Name f _) [a'] [] _ => decide (f = Str.ofString "enumerate") && glB s.sc f && chE s a a'
    | _, _ => false
  | .zp a b, tg, x => match tg, x with
    | .Tuple _ _ _, .Call (.Name f _) [a', b'] [] _ => decide (f = Str.ofString "zip") && glB s.sc f && chE s a a' && chE s b b'
    | _, _ => false
  | .zp3 es, tg, x => match tg, x with
    | .Tuple _ _ _, .Call (.Name f _) [a', b', c'] [] _ => decide (f = Str.ofString "zip") && glB s.sc f && chEs s es [a', b', c']
    | _, _ => false
  | .zps a, tg, x => match tg, x with
    | .Tuple _ _ _, .Call (.Name f _) [.Starred a' _] [] _ => decide (f = Str.ofString "zip") && glB s.sc f && chE s a a'
    | _, _ => false
def chT (s : Sc) : Tg → Expr → Bool
  | .nm i, e => match e with
    | .Name x _ => decide (s.N[i]? = some x) && stB s x
    | _ => false
  | .sub i ix, e => match e with
    | .Subscript (.Name x _) ix' _ => decide (s.N[i]? = some x) && visB s.sc x && okN x && chE s ix ix'
    | _ => false
  | .tup ts, e => match e with
    | .Tuple es _ _ => chTs s ts es
    | _ => false
def chTs (s : Sc) : Tgs → List Expr → Bool
  | .nil, l => match l with
    | [] => true
    | _ => false
  | .cons t ts, l => match l with
    | e' :: es' => chT s t e' && chTs s ts es'
    | _ => false
end
end Ev

set_option maxHeartbeats 2000000
namespace Ev
open PySem PySem.Spec PyProof.Rows L2
/-! ### sorted, of a list or a tuple -/
section
variable {prog : Program} {w : World} {A : Around} {E : Value → Shared → Prop} {s : Shared}
/-- the heap behind a collection -/
abbrev colH (h : Heap) (vs : List Value) : Heap := (h.push (seqObj "list" #[] 0)).update h.objs.size (Obj.mapSeq (· ++ vs.toArray))
theorem collect_tup {l : Addr} {vs : List Value} {Q : List Value → Shared → Prop} (hl : IsTup s.heap l vs.toArray) (hz : vs.length ≤ sizeLine) (h : Q vs { s with heap := colH s.heap vs }) : wpAny (model prog w) A (collect (.ref l)) Q E s := by
  obtain ⟨o, ho, hc, n, hd⟩ := id hl
  unfold collect
  refine wpAny_bind (wpAny_runValue (codeAny_builtin entry_proto_collect' ?_))
  show wpAny _ _ (do again (.builtin "list.__iadd__" ⟨[← newList [], .ref l], []⟩)) _ _ s
  refine wpAny_bind (wpAny_newList (wpAny_pure ⟨Code.quiet_builtin _ (by decide +kernel), codeAny_builtin entry_list_iadd' ?_⟩))
  show wpAny _ _ (Builtin.List.listExtendWith (.ref s.heap.objs.size) (.ref l) (.ref s.heap.objs.size)) _ _ { s with heap := s.heap.push (seqObj "list" #[] 0) }
  have hn : (s.heap.push (seqObj "list" #[] 0)).get? s.heap.objs.size = some (seqObj "list" #[] 0) := Heap.get?_push_size _ rfl
  unfold Builtin.List.listExtendWith
  refine wpAny_bind (wpAny_typeOf (T := "tuple") ⟨o, Heap.get?_push_of_some _ ho, hc⟩ ?_)
  have ht : (Value.type "tuple" == Value.type "tuple") = true := by rfl
  rw [if_pos (by simp [ht])]
  refine wpAny_bind (listItems_at (Heap.get?_push_of_some _ ho) hd (wpAny_bind (listItems_at hn rfl ?_)))
  rw [if_neg (by simp)]
  refine wpAny_bind (listUpdate_at hn rfl (wpAny_pure ?_) (Nat.zero_le _) (by simp only [Array.size_append, List.size_toArray, List.length_nil]; omega))
  have he : ((#[] : Array Value) ++ vs.toArray).toList = vs := by simp
  refine wpAny_bind (wpAny_load (get?_update_seq hn _) ?_)
  show wpAny _ _ (pure ((#[] : Array Value) ++ vs.toArray).toList) Q E _
  rw [he]
  exact wpAny_pure h
theorem sorted_by {x : Value} {vs : List Value} {ltv : Value → Value → Bool} {Q : Value → Shared → Prop} (O : SrtO.Swo ltv) (hz : vs.length ≤ sizeLine) (ha : argsOk "sorted" ⟨[x], []⟩)
    (hx : ∀ (A : Around) (E : Value → Shared → Prop) (Q : List Value → Shared → Prop), Q vs { s with heap := colH s.heap vs } → wpAny (model prog w) A (collect x) Q E s)
    (hS : 2 ≤ vs.length → ∀ (h : Heap) (a : Addr), (∀ b o, s.heap.get? b = some o → h.get? b = some o) → SrtO.SortableO prog w A.in1.in1 { s with heap := h } a vs ltv)
    (h : ∀ out : List Value, SrtO.Srtd ltv out → SrtO.Stb ltv out vs → Q (.ref (s.heap.objs.size + 1)) { s with heap := sortedAll s.heap vs out.toArray }) : wpAny (model prog w) A (call (.builtin "sorted") [x]) Q E s := by
  refine Calls.call_function_entry kind_sorted plain_sorted entry_sorted ha ?_
  unfold Builtin.«sorted»
  refine wpAny_bind (m := checkCount "sorted" 1 1 _) (wpAny_pure ?_)
  refine wpAny_bind (hx _ _ _ (wpAny_bind (wpAny_newList ?_ hz)))
  have hsz : (colH s.heap vs).objs.size = s.heap.objs.size + 1 := by rw [Heap.size_update, size_push']
  have hnew : ((colH s.heap vs).push (seqObj "list" vs.toArray 0)).get? (s.heap.objs.size + 1) = some (seqObj "list" vs.toArray 0) := by
    rw [← hsz]; exact Heap.get?_push_size _ rfl
  have hold : ∀ b o, s.heap.get? b = some o → ((colH s.heap vs).push (seqObj "list" vs.toArray 0)).get? b = some o := fun b o q => by
    refine Heap.get?_push_of_some _ ?_
    show ((s.heap.push _).update _ _).get? b = _
    rw [Heap.get?_update_ne _ _ _ _ (Nat.ne_of_lt (Heap.lt_size q))]
    exact Heap.get?_push_of_some _ q
  show wpAny _ _ _ _ _ { s with heap := (colH s.heap vs).push (seqObj "list" vs.toArray 0) }
  rw [hsz]
  refine wpAny_bind (wpAny_holding (wpAny_call_entry slot_list_sort ⟨_, hnew, rfl⟩ entry_list_sort (SrtO.list_sort_ord O hnew hz (fun h2 => hS h2 _ _ hold) fun out hs hb => ⟨_, rfl, ?_⟩) (args_list_sort _)))
  exact wpAny_pure ⟨_, rfl, h out hs hb⟩
end
theorem sortI_perm (ns : List Int) : (sortI ns).Perm ns := List.mergeSort_perm _ _
theorem sortI_le (ns : List Int) : (sortI ns).Pairwise (· ≤ ·) := by
  have := List.pairwise_mergeSort (le := fun a b : Int => decide (a ≤ b)) (fun a b c h1 h2 => by simp only [decide_eq_true_eq] at *; omega) (fun a b => by simp only [Bool.or_eq_true, decide_eq_true_eq]; omega) ns
  exact this.imp fun h => of_decide_eq_true h
theorem sortI_eq {ns ms : List Int} (h : ms.Perm ns) (h2 : ms.Pairwise (· ≤ ·)) : ms = sortI ns :=
  List.Perm.eq_of_pairwise (le := (· ≤ ·)) (fun a b _ _ h1 h2 => Int.le_antisymm h1 h2) h2 (sortI_le ns) (h.trans (sortI_perm ns).symm)
def rSortedLT (K : PySem.W.Frag) : List V → Hp → VK → Prop := fun vs H Q => ∃ (a : Addr) (ns : List Int), vs = [V.ref a] ∧ (SqL K H a (ns.map V.int) ∨ SqT K H a (ns.map V.int)) ∧ ∀ p, H p = none → Q (.ref p) (upd H p (.lst ((sortI ns).map V.int)))
theorem cr_sortedLT {X : Cx} : CallR X (.builtin "sorted") (rSortedLT X.K) := by
  intro pins s σ H vs us Q I r h
  obtain ⟨a, ns, rfl, hs, q⟩ := h
  rw [Vals.ref1 r]
  have core : ∀ its : List Value, Vals (ns.map V.int) its → its.length ≤ sizeLine → (∀ (A : Around) (E : Value → Shared → Prop) (Q : List Value → Shared → Prop), Q its { s with heap := colH s.heap its } → wpAny (model X.prog X.w) A (collect (.ref a)) Q E s) → wpAny (model X.prog X.w) X.A (call (.builtin "sorted") [.ref a]) (EP X pins σ Q) X.xe s := fun its rv hz hx => by
    have hi := rv.ints
    refine sorted_by SrtO.swo_int hz (args_sorted1 _) hx (fun h2 h₁ a' _ => SrtO.ints_sortable hi h2) fun out h1 h2 => ?_
    obtain ⟨k1, k2, k3⟩ := SrtO.ints_out hi h1 h2
    have e := sortI_eq k2 k3
    obtain ⟨ep, he'⟩ := PyProof.Rows.sortedAll_at s.heap its out.toArray
    have hlen : ((sortI ns).map V.int).length ≤ sizeLine := by
      have h1 := rv.length
      rw [List.length_map] at h1
      rw [List.length_map, (sortI_perm ns).length_eq]
      omega
    rw [e] at k1
    exact ⟨.ref _, upd H (s.heap.objs.size + 1) (.lst ((sortI ns).map V.int)), I.laid (t' := s.toks) (fun _ _ => PyProof.Rows.sortedAll_old) (Nat.le_succ _) ⟨hlen, out, ep, vals_of_ints k1, he'⟩, rfl, q _ (I.hok.fresh (Nat.le_succ _))⟩
  rcases hs with hs | hs
  · obtain ⟨its, rv, hl, hz⟩ := I.list hs
    have hz' : its.length ≤ sizeLine := by rw [← rv.length]; exact hz
    exact core its rv hz' fun A E Q hQ => PyProof.Rows.collect_list hl.isList hQ hz'
  · obtain ⟨its, rv, hl, hz⟩ := I.tuple hs
    have hz' : its.length ≤ sizeLine := by rw [← rv.length]; exact hz
    exact core its rv hz' fun A E Q hQ => collect_tup hl hz' hQ
end Ev
namespace Ev
open PySem PySem.Spec PyProof.Rows L2
section
variable {prog : Program} {w : World} {A : Around} {E : Value → Shared → Prop} {s : Shared}
theorem sum_tup {l : Addr} {its : List Value} {ns : List Int} {Q : Value → Shared → Prop} (hh : A.handled = none) (hl : IsTup s.heap l its.toArray) (hi : IntsAre its ns)
    (h : ∀ h' tk t', (∀ b o, s.heap.get? b = some o → h'.get? b = some o) → Q (.int ns.sum t') { s with heap := h', toks := tk }) : wpAny (model prog w) A (call (.builtin "sum") [.ref l]) Q E s := by
  obtain ⟨xs, e⟩ := hi.allInts.items
  have hn : numsOf (intItems xs).toList = ns := by rw [← e]; exact hi.numsOf
  rw [nums_intItems] at hn
  rw [e] at hl
  have hlt : l < s.heap.objs.size := by obtain ⟨_, q, _⟩ := id hl; exact Heap.lt_size q
  refine call_sum_walkG (wpAny_pyIter_tuple (show s.heap.IsTuple l (intItems xs) from hl) ?_)
  have ht : s.heap.IsTuple l (intItems xs) := hl
  refine ⟨_, _, _, _, _, _, numAt xs, rfl, Walks.tuple (A := A.in1) hh s.heap.objs.size l (Nat.ne_of_lt hlt) (intItems xs), ⟨⟨_, Heap.get?_push_size _ rfl, rfl, rfl⟩, ht.push _⟩, fun b hb => ?_, (fun _ _ => intItems_at), fun h' tk t' hk => ?_⟩
  · show b < (s.heap.push _).objs.size
    rw [Heap.size_push]
    simp only [List.mem_cons, List.not_mem_nil, or_false] at hb
    rcases hb with rfl | rfl
    · exact Nat.lt_succ_self _
    · exact Nat.lt_succ_of_lt hlt
  · have := h h' tk t' fun b o q => hk b o (fun hm => by
      rw [List.mem_singleton.mp hm] at q
      exact Nat.lt_irrefl _ (Heap.lt_size q)) (Heap.get?_push_of_some _ q)
    rw [show (intItems xs).size = xs.size by simp [intItems], preSum_eq, List.take_of_length_le (by simp), hn]
    exact this
end
def rSumT (K : PySem.W.Frag) : List V → Hp → VK → Prop := fun vs H Q => ∃ (a : Addr) (ns : List Int), vs = [V.ref a] ∧ SqT K H a (ns.map V.int) ∧ Q (.int ns.sum) H
theorem cr_sumT {X : Cx} (hc : X.calm = true) : CallR X (.builtin "sum") (rSumT X.K) := by
  intro pins s σ H vs us Q I r h
  obtain ⟨a, ns, rfl, hs, q⟩ := h
  obtain ⟨its, rv, hl, _⟩ := I.tuple hs
  rw [Vals.ref1 r]
  exact sum_tup (I.ok.hd hc) hl rv.ints fun h' tk t' hk => ⟨.int _, H, I.kept hk, ⟨_, rfl⟩, q⟩
end Ev

set_option maxHeartbeats 2000000
namespace Ev
open PySem PySem.Spec PyProof.Rows L2

/-! ### a def's promise where nothing is being shown -/
structure FnG (P : Program) (w : World) (K : PySem.W.Frag) (mg : Str → Option Value) (base : Heap) (k : Nat) (f : Addr) (fd : FuncData) (ps : List Str) (sp : Sp) : Prop where
  len : ∀ vs H Q E, sp vs H Q E → vs.length = ps.length
  run : ∀ (A : Around) (outer : List Env) (s : Shared) (H : Hp) (args : Args) (us : List Value) (vs : List V) (Q : VK) (E : XK), A.guards = some [] → Room k A → Env0 P w K mg base A outer s H → BindsTo s fd args (ps.zip us) → Vals vs us → sp vs H Q E →
    codeAny (model P w) A (.call (.ref f) args) (CR CX0 outer P w H s Q E) s
theorem FnG.mono {P : Program} {w : World} {K : PySem.W.Frag} {mg : Str → Option Value} {base : Heap} {j k : Nat} {f : Addr} {fd : FuncData} {ps : List Str} {sp : Sp} (F : FnG P w K mg base j f fd ps sp) (h : j ≤ k) : FnG P w K mg base k f fd ps sp :=
  ⟨F.len, fun A outer s H args us vs Q E hg hr => F.run A outer s H args us vs Q E hg (hr.mono h)⟩
section
variable {X : Cx} {k : Nat} {f : Addr} {fd : FuncData} {ps : List Str} {sp : Sp} {x : Str} {p pos : Pos} {e : Expr} {es : List Expr} {t : TA}
theorem runG {pins : List (Addr × Obj)} {σ : L2.St} {H : Hp} {s : Shared} {Q : VK} {us : List Value} {vs : List V} (F : FnG X.prog X.w X.K X.mg X.base k f fd ps sp) (hg : X.A.guards = some []) (hr : Room k X.A) (hb : Binds X.K fd ps [])
    (I : Inv X pins σ H s) (r : Vals vs us) (h : sp vs H Q E0) : wpAny (model X.prog X.w) X.A (call (.ref f) us) (EP X pins σ Q) X.xe s := by
  have hl : (us ++ []).length = ps.length := by rw [List.append_nil, ← r.length]; exact F.len _ _ _ _ h
  have hbb := hb s us I.kIn hl
  rw [List.append_nil] at hbb
  refine wpAny_call (codeAny_mono (F.run X.A X.stack s H ⟨us, []⟩ us vs Q E0 hg hr I.env0 hbb r h) fun res s' hq => ?_)
  match res, hq with
  | .ok (.ret u), hq => exact I.after hq
  | .error e, hq => exact False.elim hq
theorem pe_callG (F : FnG X.prog X.w X.K X.mg X.base k f fd ps sp) (hgu : X.A.guards = some []) (hr : Room k X.A) (hg : Gl X x) (hm : X.mg x = some (.ref f)) (hk : PySem.W.keepIn X.K (.ref f) = true) (hb : Binds X.K fd ps []) (ha : PA X (e :: es) t)
    (hdb : (x == ("__debug__" : Str)) = false) (he : starEach (e :: es) X.env = (false, eval e X.env) :: starEach es X.env) (hpl : (backTo pos (starEach es X.env)).any (·.1) = false) :
    PE X (.Call (.Name x p) (e :: es) [] pos) (fun σ H Q => t σ H fun vs H1 => sp vs H1 Q E0) :=
  ⟨fun pins s σ H Q I h => wpAny_Call_Name_kw (ld_glob I hg hm (PySem.W.callWith_K (h₀ := X.base) I.ok.mod.kin hk
    (thn (ha.run pos pins s σ H _ I h) fun us s1 ⟨vs, H1, I1, r, q⟩ => ⟨I1.kIn, runG F hgu hr hb I1 r q⟩) he hpl) hdb)⟩
theorem pe_callG0 (F : FnG X.prog X.w X.K X.mg X.base k f fd ps sp) (hgu : X.A.guards = some []) (hr : Room k X.A) (hg : Gl X x) (hm : X.mg x = some (.ref f)) (hk : PySem.W.keepIn X.K (.ref f) = true) (hb : Binds X.K fd ps [])
    (hdb : (x == ("__debug__" : Str)) = false) : PE X (.Call (.Name x p) [] [] pos) (fun σ H Q => sp [] H Q E0) :=
  ⟨fun pins s σ H Q I h => wpAny_Call_Name_kw (ld_glob I hg hm (PySem.W.callWith_K0 I.kIn hk (runG (us := []) F hgu hr hb I .nil h)) hdb)⟩
end

/-- a def by its body -/
theorem fnG_of {P : Program} {w : World} {K : PySem.W.Frag} {mg : Str → Option Value} {base : Heap} {k : Nat} {x qual : Str} {st : Stmt} {f : Addr} {fd : FuncData} {N ps : List Str} {sp : Sp} (F : Fun K x qual st f fd) (S : FnScope N ps (defScope st)) (len : ∀ vs H Q E, sp vs H Q E → vs.length = ps.length)
    (hbody : ∀ (cdv : Value) (A : Around) (outer : List Env) (s : Shared) (H : Hp) (vs : List V) (Q : VK) (E : XK), fd.code = cdv → A.guards = some [] → Room k (A.deeper (envOfC qual (defScope st) s.heap.objs.size f cdv)) → sp vs H Q E →
      PSs (cxOf CX0 P w K mg base N qual (defScope st) f cdv A outer s H E).nox (defBody st) (fun D σ H' => σ = start N vs ∧ H' = H ∧ D.rt = Q ∧ D.nx = fun _ H' => Q .non H')) : FnG P w K mg base (k + 1) f fd ps sp := by
  obtain ⟨oc, od, kV, doc, pm, an, cdv, ct, osl, rfl, lk, hcd⟩ := F.ex
  refine ⟨len, fun A outer s H args us vs Q E hgu hr e0 hb r hsp => ?_⟩
  have hl := len _ _ _ _ hsp
  have KX : K.In s.heap := e0.mod.kin.keeps fun b o e => (e0.bs b o e).1
  have lim : s.heap.NoLimit := e0.mod.nolimit.keeps fun b o e => (e0.bs b o e).1
  refine codeAny_call_function hr.depth (KX _ _ lk) rfl S.co S.gen rfl (PySem.W.codeRec_of KX hcd) (hb _ _ _ _ ?_)
  refine wpAny_newFunctionEnv_cells S.kind (fun ⟨n, v⟩ hy => ?_) fun env he s1 xx => ?_
  · exact (S.par n (List.of_mem_zip hy).1).imp id fun q => ⟨q, PySem.W.cellsFrom_some _ _ _ (.inl q)⟩
  subst he
  refine ⟨lim.keeps xx.toInCall.keep, codeAny_func ?_⟩
  have ht := (hbody cdv A outer s H vs Q E rfl hgu (hr.deeper _) hsp).nox
  have I : Inv (cxOf CX0 P w K mg base N qual (defScope st) f cdv A outer s H E) [] (start N vs) H s1 := inv_start S hr.hd e0 hl r xx
  refine wpAny_mono (ht.run [] s1 (start N vs) H { nx := fun _ H' => Q .non H', rt := Q } I ⟨rfl, rfl, rfl, rfl⟩) (fun fl s' hs => ?_) fun e s' hs => hs
  match fl, hs with
  | .ret u, ⟨v, σ', H', J, rv, q⟩ => exact ⟨v, H', J.os, J.bare, J.base, J.hok, rv, q⟩
  | .next, ⟨σ', H', J, q⟩ => exact ⟨V.non, H', J.os, J.bare, J.base, J.hok, rfl, q⟩
  | .brk, ⟨_, _, _, q⟩ => exact False.elim q
  | .cont, ⟨_, _, _, q⟩ => exact False.elim q
end Ev

namespace Ev
open PySem PySem.Spec PyProof.Rows L2
/-! ### the law's own call -/
theorem lawG {P : Program} {w : World} {K : PySem.W.Frag} {mg mb : Str → Option Value} {k : Nat} {fa a : Addr} {fd : FuncData} {x : Str} {sp : Sp} {s₁ : Shared} {vs : List Value} {ns : List Int}
    (KX : K.In s₁.heap) (hns : s₁.heap.Ns mainGlobals mg) (hb : s₁.heap.Ns builtinsNs mb) (hbb : ∀ x : Str, x ≠ "__name__" → mb x = bootBuiltins x) (hlim : s₁.heap.NoLimit) (hg : s₁.gens = #[])
    (ha : s₁.heap.get? a = some { cls := .type "list", data := .seq vs.toArray }) (hi : IntsAre vs ns) (hl : ns.length ≤ sizeLine) (hr : Room k callerA)
    (F : ∀ base : Heap, K.In base → base.Ns mainGlobals mg → FnG P w K mg base k fa fd [x] sp) (hbind : ∀ (s : Shared) (u : Value), BindsTo s fd ⟨[u], []⟩ [(x, u)])
    (hK : K.lookup a = none)
    (hsp : ∀ H : Hp, (∀ b u, H b = some u → b = a ∧ ∃ o, u = .frz o (.lst (ns.map V.int))) → Rd H a (.lst (ns.map V.int)) → sp [.ref a] H (fun v _ => v = .bl true) E0) :
    codeAny (model P w) callerA (.call (.ref fa) ⟨[.ref a], []⟩) (fun r s' => r = .ok (.ret (.bool true)) ∧ OldK s₁.heap s'.heap ∧ s'.os = s₁.os ∧ AllBare s'.gens) s₁ := by
  obtain ⟨G, hG⟩ : ∃ G : HO, G = .frz { cls := .type "list", data := .seq vs.toArray } (.lst (ns.map V.int)) := ⟨_, rfl⟩
  obtain ⟨H, hH⟩ : ∃ H : Hp, H = upd (fun _ => none) a G := ⟨_, rfl⟩
  have hHa : H a = some G := by rw [hH, upd_same]
  have hHb : ∀ b, b ≠ a → H b = none := fun b e => by rw [hH, upd_ne e]
  have hok : HOk P w H s₁.heap := fun b u e => by
    have hba : b = a := Classical.byContradiction fun z => by rw [hHb b z] at e; cases e
    subst hba
    rw [hHa, hG] at e
    cases e
    exact ⟨ha, by rw [List.length_map]; exact hl, vs, _, vals_ints hi, ha⟩
  have lend : ∀ {b : Addr} {o : Obj} {es : Array DictEntry} {ep : Nat}, s₁.heap.get? b = some o → o.data = .dict es ep → H b = none := fun {b o es ep} e d => by
    refine hHb b fun z => ?_
    rw [z, ha] at e
    cases e
    cases (show Data.seq vs.toArray _ = Data.dict es ep from d)
  have nsK : ∀ {b : Addr} {m : Str → Option Value}, s₁.heap.Ns b m → (hidT s₁.heap H).Ns b m := fun {b m} ⟨o, es, ep, e, d, r⟩ => ⟨o, es, ep, hidT_get e (lend e d), d, r⟩
  have hKb : K.In (hidT s₁.heap H) := fun b o e => hidT_get (KX b o e) (hHb b fun z => by rw [z, hK] at e; cases e)
  have hM : Mod K mg (hidT s₁.heap H) := ⟨hKb, nsK hns, ⟨mb, nsK hb, hbb⟩, let ⟨mc, h1, h2⟩ := hlim; ⟨mc, nsK h1, h2⟩⟩
  have e0 : Env0 P w K mg (hidT s₁.heap H) callerA [] s₁ H :=
    { frames := rfl, mod := hM, bs := fun b o e => of_hidT e, bsz := Nat.le_of_eq (hidT_size _ _), funs := trivial, frf := (fun b hb => by simp [frs] at hb), hok := hok, bare := .of_eq hg }
  have hrd : Rd H a (.lst (ns.map V.int)) := .inr ⟨_, by rw [hHa, hG]⟩
  have hall : ∀ b u, H b = some u → b = a ∧ ∃ o, u = .frz o (.lst (ns.map V.int)) := fun b u e => by
    have hba : b = a := Classical.byContradiction fun z => by rw [hHb b z] at e; cases e
    subst hba
    rw [hHa, hG] at e
    cases e
    exact ⟨rfl, _, rfl⟩
  refine codeAny_mono ((F _ hKb (nsK hns)).run callerA [] s₁ H ⟨[.ref a], []⟩ [.ref a] [.ref a] _ _ rfl hr e0 (hbind s₁ (.ref a)) (.cons rfl .nil) (hsp H hall hrd)) fun r s' h => ?_
  match r, h with
  | .error e, h => exact False.elim h
  | .ok (.ret u), ⟨v, H', os, bare, un, hok', r', q⟩ =>
    obtain rfl : v = .bl true := q
    obtain rfl : u = Value.bool true := r'
    refine ⟨rfl, OldK.of_keep fun b o e => ?_, os, bare⟩
    by_cases z : b = a
    · subst z
      rw [ha] at e
      cases e
      have z2 := un.frzs b _ _ (hHa.trans (by rw [hG]))
      exact (hok' b _ z2).1
    · exact un.keep b o e (hHb b z) (by simp [frs]) (by simp)
/-- without what stands at a -/
def dropK (a : Addr) (K : PySem.W.Frag) : PySem.W.Frag := K.filter fun p => !(p.1 == a)
theorem dropK_lookup {a b : Addr} : ∀ {K : PySem.W.Frag}, b ≠ a → (dropK a K).lookup b = K.lookup b
  | [], _ => rfl
  | (c, o) :: K, h => by
    have ih := dropK_lookup (K := K) h
    unfold dropK at ih ⊢
    by_cases hc : c = a
    · subst hc
      rw [List.filter_cons_of_neg (by simp), ih, List.lookup_cons]
      have : (b == c) = false := by simpa using h
      rw [this]
    · rw [List.filter_cons_of_pos (by simpa using hc), List.lookup_cons, List.lookup_cons, ih]
theorem dropK_self {a : Addr} : ∀ {K : PySem.W.Frag}, (dropK a K).lookup a = none
  | [] => rfl
  | (c, o) :: K => by
    have ih := dropK_self (a := a) (K := K)
    unfold dropK at ih ⊢
    by_cases hc : c = a
    · subst hc
      rw [List.filter_cons_of_neg (by simp)]
      exact ih
    · rw [List.filter_cons_of_pos (by simpa using hc), List.lookup_cons]
      have : (a == c) = false := by simpa using fun e => hc e.symm
      rw [this]
      exact ih
theorem dropK_in {a : Addr} {K : PySem.W.Frag} {h : Heap} (X : K.In h) : (dropK a K).In h := fun b o e => by
  by_cases hb : b = a
  · subst hb
    rw [dropK_self] at e
    cases e
  · rw [dropK_lookup hb] at e
    exact X b o e
/-- the goal that the head leaves -/
theorem walkG {l : PySem.W.OpenLaw} {n k : Nat} {q : Program} {loose : List Str} {XP : (Str → Option Value) → Heap → Prop} {YP : World → Heap → Prop} {d : DefRec} {K : Params → PySem.W.Frag} {sp : PySem.W.Frag → Sp} {x : Str}
    (hn : l.most = some n) (hn2 : n ≤ sizeLine) (hdf : d.params.defaults = []) (hr : Room k callerA)
    (hY : ∀ (w : World) (h : Heap), YP w h → (K w.params).In h)
    (F : ∀ (w : World) (mg : Str → Option Value) (fa : Addr) (h : Heap), (K w.params).In h → h.Ns mainGlobals mg → mg d.name = some (.ref fa) → ∀ (a : Addr) (vs : Array Value), h.get? a = some { cls := .type "list", data := .seq vs } →
      ∃ fd : FuncData, (∀ (s : Shared) (u : Value), BindsTo s fd ⟨[u], []⟩ [(x, u)]) ∧
        ∀ base : Heap, FnG l.prog w (dropK a (K w.params)) mg base k fa fd [x] (sp (dropK a (K w.params))))
    (hsp : ∀ (K' : PySem.W.Frag) (H : Hp) (a : Addr) (ns : List Int), ns.length ≤ n → (∀ k ∈ ns, Builtin.Int.intBits k ≤ 1048576) → (∀ b u, H b = some u → b = a ∧ ∃ o, u = .frz o (.lst (ns.map V.int))) → Rd H a (.lst (ns.map V.int)) → sp K' [.ref a] H (fun v _ => v = .bl true) E0) :
    PySem.W.WalkO q loose XP YP l.row.toRowW d [] (fun f vs => PySem.call f vs) := by
  refine Att.attach_callB hn hdf fun w s₀ s₁ mg mb fa o pm cd doc a vs ns G Y ho hd hcd hmg hobj hints hlen hbits hg => ?_
  have KX := hY w _ Y
  obtain ⟨fd, hb, hF⟩ := F w mg fa _ KX G.T.g hmg a _ hobj
  exact lawG (dropK_in (a := a) KX) G.T.g G.T.b G.T.builtins G.T.nolimit hg hobj hints (Nat.le_trans hlen hn2) hr (fun base _ _ => hF base) hb dropK_self fun H h1 h2 => hsp _ H a ns hlen hbits h1 h2
end Ev

set_option maxHeartbeats 2000000
namespace Ev
open PySem PySem.Spec PyProof.Rows L2

/-! ### weakest readings -/
def WE (X : Cx) (e : Expr) : TE := fun σ H Q => ∀ (pins : List (Addr × Obj)) (s : Shared), Inv X pins σ H s → wpAny (model X.prog X.w) X.A (eval e X.env) (EP X pins σ Q) X.xe s
def WT (X : Cx) (e : Expr) : TT := fun σ H Q => ∀ (pins : List (Addr × Obj)) (s : Shared), Inv X pins σ H s → wpAny (model X.prog X.w) X.A (isTrue e X.env (eval e X.env)) (TP X pins σ Q) X.xe s
def WA (X : Cx) (es : List Expr) : TA := fun σ H Q => ∀ (pos : Pos) (pins : List (Addr × Obj)) (s : Shared), Inv X pins σ H s → wpAny (model X.prog X.w) X.A (spliced (backTo pos (starEach es X.env))) (AP X pins σ Q) X.xe s
def WS (X : Cx) (st : Stmt) : TS := fun D σ H => ∀ (pins : List (Addr × Obj)) (s : Shared), Inv X pins σ H s → wpAny (model X.prog X.w) X.A (exec st X.env) (SP X pins D) X.xe s
def WSs (X : Cx) (st : List Stmt) : TS := fun D σ H => ∀ (pins : List (Addr × Obj)) (s : Shared), Inv X pins σ H s → wpAny (model X.prog X.w) X.A (execs st X.env) (SP X pins D) X.xe s
def WG (X : Cx) (tg : Expr) : TG := fun v σ H Q => ∀ (pins : List (Addr × Obj)) (s : Shared) (u : Value), Inv X pins σ H s → RelV v u → wpAny (model X.prog X.w) X.A (assign tg X.env u) (fun _ s' => ∃ σ' H', Inv X pins σ' H' s' ∧ Q σ' H') X.xe s
section
variable {X : Cx} {e : Expr} {es : List Expr} {st : Stmt} {sts : List Stmt} {σ : St} {H : Hp}
theorem pe_we (X : Cx) (e : Expr) : PE X e (WE X e) := ⟨fun pins s σ H Q I h => h pins s I⟩
theorem pt_wt (X : Cx) (e : Expr) : PT X e (WT X e) := ⟨fun pins s σ H Q I h => h pins s I⟩
theorem pa_wa (X : Cx) (es : List Expr) : PA X es (WA X es) := ⟨fun pos pins s σ H Q I h => h pos pins s I⟩
theorem ps_ws (X : Cx) (st : Stmt) : PS X st (WS X st) := ⟨fun pins s σ H D I h => h pins s I⟩
theorem pss_wss (X : Cx) (st : List Stmt) : PSs X st (WSs X st) := ⟨fun pins s σ H D I h => h pins s I⟩
theorem pg_wg (X : Cx) (e : Expr) : PG X e (WG X e) := ⟨fun pins s σ H v u Q I r h => h pins s u I r⟩
theorem we_of {t : TE} {Q : VK} (h : PE X e t) (q : t σ H Q) : WE X e σ H Q := fun pins s I => h.run pins s σ H Q I q
theorem wt_of {t : TT} {Q : Bool → Hp → Prop} (h : PT X e t) (q : t σ H Q) : WT X e σ H Q := fun pins s I => h.run pins s σ H Q I q
theorem wa_of {t : TA} {Q : List V → Hp → Prop} (h : PA X es t) (q : t σ H Q) : WA X es σ H Q := fun pos pins s I => h.run pos pins s σ H Q I q
theorem ws_of {t : TS} {D : Ends} (h : PS X st t) (q : t D σ H) : WS X st D σ H := fun pins s I => h.run pins s σ H D I q
theorem wss_of {t : TS} {D : Ends} (h : PSs X sts t) (q : t D σ H) : WSs X sts D σ H := fun pins s I => h.run pins s σ H D I q
theorem wg_of {t : TG} {v : V} {Q : St → Hp → Prop} (h : PG X e t) (q : t v σ H Q) : WG X e v σ H Q := fun pins s u I r => h.run pins s σ H v u Q I r q
theorem WE.mono {Q Q' : VK} (h : WE X e σ H Q) (m : ∀ x H', Q x H' → Q' x H') : WE X e σ H Q' := fun pins s I => thn (h pins s I) fun u s' ⟨v, H', a, b, c⟩ => ⟨v, H', a, b, m _ _ c⟩
theorem WT.mono {Q Q' : Bool → Hp → Prop} (h : WT X e σ H Q) (m : ∀ x H', Q x H' → Q' x H') : WT X e σ H Q' := fun pins s I => thn (h pins s I) fun u s' ⟨H', a, b⟩ => ⟨H', a, m _ _ b⟩
end

/-! ### a value that is read now -/
inductive Vw (K : PySem.W.Frag) (F H : Hp) : V → D → Prop
  | non : Vw K F H .non .none
  | bl (b : Bool) : Vw K F H (.bl b) (.bool b)
  | int (i : Int) : Vw K F H (.int i) (.int i)
  | str (x : Str) : Vw K F H (.str x) (.str x)
  | lst {a : Addr} {xs : List V} {ds : List D} : Rd H a (.lst xs) → RpAll K F xs ds → Vw K F H (.ref a) (.list ds)
  | tup {a : Addr} {xs : List V} {ds : List D} : SqT K F a xs → RpAll K F xs ds → Vw K F H (.ref a) (.tuple ds)
section
variable {K : PySem.W.Frag} {tb : List Addr} {pa : Nat → Addr} {B F F' : Hp} {σ : St} {H H' : Hp} {ρ ρ' : En} {x : V} {op : Op} {d : D} {ds : List D} {i : Nat} {p : Addr}
theorem Vw.of_rp (h : Sm F H) : Rp K F x d → Vw K F H x d
  | .non => .non
  | .bl b => .bl b
  | .int i => .int i
  | .str x => .str x
  | .lst a b => .lst (Rd.mono h a) b
  | .tup a b => .tup a b
theorem Vw.rp (h : Sm F H) : Vw K F H x d → Rp K H x d
  | .non => .non
  | .bl b => .bl b
  | .int i => .int i
  | .str x => .str x
  | .lst a b => .lst a (RpAll.mono h b)
  | .tup a b => .tup (SqT.mono h a) (RpAll.mono h b)
theorem vw_ok (r : Rel K tb pa B F σ H ρ) (h : OpR K B F H σ ρ x op) (e : viewOp ρ op = some d) : Vw K F H x d := by
  cases op with
  | val d' => cases e; exact Vw.of_rp r.wf.fz h
  | new ds =>
    cases e
    obtain ⟨p, vs, rfl, hp, hf, hb, off, dp⟩ := h
    exact .lst (.inl hp) dp
  | slot i =>
    simp only [viewOp] at e
    have h : σ[i]? = some (some x) := h
    split at e
    · rename_i d' hd
      cases e
      obtain ⟨y, a, b⟩ := r.sl i _ hd
      rw [h] at a; cases a
      exact Vw.of_rp r.wf.fz b
    · rename_i mt ds hd
      cases e
      obtain ⟨p, vs, a, m, b, c, e', f⟩ := r.sl i _ hd
      rw [h] at a; cases a
      exact .lst (.inl b) f
    · cases e
theorem Vw.intE {x : V} {i : Int} (h : Vw K F H x (.int i)) : x = .int i := by cases h; rfl
theorem Vw.boolE {x : V} {b : Bool} (h : Vw K F H x (.bool b)) : x = .bl b := by cases h; rfl
theorem Vw.lstE {x : V} (h : Vw K F H x (.list ds)) : ∃ p vs, x = .ref p ∧ Rd H p (.lst vs) ∧ RpAll K F vs ds := by cases h with | lst a b => exact ⟨_, _, rfl, a, b⟩
theorem Vw.tupE {x : V} (h : Vw K F H x (.tuple ds)) : ∃ p vs, x = .ref p ∧ SqT K F p vs ∧ RpAll K F vs ds := by cases h with | tup a b => exact ⟨_, _, rfl, a, b⟩
end

/-! ### what a def promises -/
def SpP (K : PySem.W.Frag) (tb : List Addr) (n : Nat) (f : List D → Option D) : Sp := fun vs H Q _ => vs.length = n ∧ ∃ B F ds r, Wf tb B F H ∧ RpAll K F vs ds ∧ f ds = some r ∧
  ∀ v F' H', Sm F F' → Wf tb B F' H' → Rp K F' v r → Q v H'
def SpW (K : PySem.W.Frag) (tb : List Addr) (n : Nat) (f : List D → List D → Option (D × List D)) : Sp := fun vs H Q _ => vs.length = n ∧ ∃ B F p vr vs0 ds0 ds r es, vs = .ref p :: vr ∧ Wf tb B F H ∧ H p = some (.lst vs0) ∧ F p = none ∧ B p = none ∧
  RpAll K F vs0 ds0 ∧ RpAll K F vr ds ∧ f ds0 ds = some (r, es) ∧ ∀ v F' H' ws, Sm F F' → Wf tb B F' H' → H' p = some (.lst ws) → F' p = none → RpAll K F' ws es → Rp K F' v r → Q v H'
def SpM (K : PySem.W.Frag) (tb : List Addr) (n : Nat) (f : List D → Option (List D)) : Sp := fun vs H Q _ => vs.length = n ∧ ∃ B F ds r, Wf tb B F H ∧ RpAll K F vs ds ∧ f ds = some r ∧
  ∀ p ws F' H', Sm F F' → Wf tb B F' H' → H' p = some (.lst ws) → F' p = none → B p = none → RpAll K F' ws r → Q (.ref p) H'
def SpOf (K : PySem.W.Frag) (tb : List Addr) : FS → Sp
  | .p n f => SpP K tb n f
  | .w n f => SpW K tb n f
  | .m n f => SpM K tb n f
structure Can (P : Program) (w : World) (K : PySem.W.Frag) (mg : Str → Option Value) (base : Heap) (tb : List Addr) (k : Nat) (x : Str) (fs : FS) : Prop where
  ex : (∃ (f : Addr) (fd : FuncData) (ps : List Str), FnG P w K mg base k f fd ps (SpOf K tb fs) ∧ mg x = some (.ref f) ∧ PySem.W.keepIn K (.ref f) = true ∧ Binds K fd ps []) ∨
    ∃ id : String, mg x = some (.builtin id) ∧ (∀ H Q E, ¬ SpOf K tb fs [] H Q E) ∧ ∀ X : Cx, X.K = K → CallR X (.builtin id) fun vs H Q => SpOf K tb fs vs H Q E0
/-- which parameters a call's places and keywords fill -/
def KB (K : PySem.W.Frag) (fd : FuncData) (ps : List Str) (n : Nat) (ks : List Str) (pm : List Nat) : Prop := ∀ (s : Shared) (us ws : List Value), K.In s.heap → us.length = n → ws.length = ks.length → BindsTo s fd ⟨us, ks.zip ws⟩ (ps.zip (permL pm (us ++ ws)))
structure CanK (P : Program) (w : World) (K : PySem.W.Frag) (mg : Str → Option Value) (base : Heap) (tb : List Addr) (k : Nat) (x : Str) (n : Nat) (ks : List Str) (pm : List Nat) (fs : FS) : Prop where
  ex : ∃ (f : Addr) (fd : FuncData) (ps : List Str), FnG P w K mg base k f fd ps (SpOf K tb fs) ∧ mg x = some (.ref f) ∧ PySem.W.keepIn K (.ref f) = true ∧ KB K fd ps n ks pm
/-- the built-in names that the small language knows -/
def bnames : List Str := ["len", "abs", "int", "max", "min", "divmod", "tuple", "list", "sum", "repr", "all", "any", "sorted", "range", "enumerate", "zip", "isinstance", "bool", "str", "dict", "float"]
structure XOk (T : Tb) (tb : List Addr) (k : Nat) (s : Sc) (X : Cx) : Prop where
  fns : ∀ f fs, T.fs f = some fs → Can X.prog X.w X.K X.mg X.base tb k f fs
  kws : ∀ f n ks pm fs, T.ks f n ks = some pm → T.fs f = some fs → CanK X.prog X.w X.K X.mg X.base tb k f n ks pm fs
  gls : ∀ x d, T.gl x = some d → ∃ v u, X.mg x = some u ∧ RelV v u ∧ ∀ F, Rp X.K F v d
  blt : ∀ x ∈ bnames, X.mg x = none
  nm : X.N = s.N
  nd : X.N.Nodup
  sc : X.env.scope = s.sc
  fn : ∀ x, s.fn x = true → X.fn x = true
  calm : X.calm = true
  room8 : Room (if s.gd then k + 8 else k) X.A
  tab : s.gd = true → ∃ c P, X.env.code = .ref c ∧ GxR.TabB X.base X.mg c P ∧ P ∈ tb
  grd : X.A.guards = some []
  own : PassesOwn (model X.prog X.w) X.A X.env X.xe

theorem XOk.room {T : Tb} {tb : List Addr} {k : Nat} {s : Sc} {X : Cx} (o : XOk T tb k s X) : Room k X.A := by
  refine o.room8.mono ?_
  split <;> omega
theorem XOk.room5 {T : Tb} {tb : List Addr} {k : Nat} {s : Sc} {X : Cx} (o : XOk T tb k s X) (h : s.gd = true) : Room (k + 8) X.A := by
  have := o.room8
  rw [h, if_pos rfl] at this
  exact this
/-! ### the judgements -/
section
variable (T : Tb) (tb : List Addr) (X : Cx)
def SE (e : Expr) (ρ : En) (op : Op) (ρ' : En) : Prop := ∀ pa B F σ H, Rel X.K tb pa B F σ H ρ → ∀ Q : VK, (∀ x F' H', Sm F F' → Rel X.K tb pa B F' σ H' ρ' → OpR X.K B F' H' σ ρ' x op → Q x H') → WE X e σ H Q
def ST (e : Expr) (ρ : En) (b : Bool) (ρ' : En) : Prop := ∀ pa B F σ H, Rel X.K tb pa B F σ H ρ → ∀ Q : Bool → Hp → Prop, (∀ F' H', Sm F F' → Rel X.K tb pa B F' σ H' ρ' → Q b H') → WT X e σ H Q
end
/-- values held together -/
def NewIn (B1 : Hp) (x : V) (o : Op) : Prop := ∀ p ds, o = .new ds → x = .ref p → B1 p ≠ none
def OpRs (K : PySem.W.Frag) (tb : List Addr) (pa : Nat → Addr) (F H : Hp) (σ : St) (ρ : En) : Hp → List V → List Op → Prop
  | _, [], [] => True
  | B, x :: xs, o :: os => OpR K B F H σ ρ x o ∧ ∃ B1, Sm B B1 ∧ NewIn B1 x o ∧ Rel K tb pa B1 F σ H ρ ∧ OpRs K tb pa F H σ ρ B1 xs os
  | _, _, _ => False
section
variable {K : PySem.W.Frag} {tb : List Addr} {pa : Nat → Addr} {B B1 F F' : Hp} {σ : St} {H H' : Hp} {ρ ρ' ρ1 : En} {x : V} {o : Op} {os : List Op} {xs : List V} {d : D} {ds : List D} {i : Nat} {p : Addr}
theorem sm_none (h : Sm B B1) (e : B1 p = none) : B p = none := by
  cases q : B p with
  | none => rfl
  | some o => rw [h _ _ q] at e; cases e
theorem OpR.less (h : OpR K B1 F H σ ρ x o) (s : Sm B B1) : OpR K B F H σ ρ x o := by
  cases o with
  | val d => exact h
  | slot i => exact h
  | new ds =>
    obtain ⟨p, vs, a, b, c, e, f⟩ := h
    exact ⟨p, vs, a, b, c, sm_none s e, f⟩
theorem OpR.back (h : OpR K B F H σ ρ x o) (nw : NewIn B1 x o) (sB : Sm B B1) (r1 : Rel K tb pa B1 F σ H ρ) (s : Sm F F') (r' : Rel K tb pa B1 F' σ H' ρ') : OpR K B F' H' σ ρ' x o := by
  cases o with
  | val d => exact Rp.mono s h
  | slot i => exact h
  | new ds =>
    obtain ⟨p, vs, rfl, hp, hf, hb, off, dp⟩ := h
    have n1 := nw p ds rfl rfl
    obtain ⟨u, hu⟩ : ∃ u, B1 p = some u := by
      cases q : B1 p with
      | none => exact absurd q n1
      | some u => exact ⟨u, rfl⟩
    have e1 := (r1.wf.bg p u hu).1
    rw [hp] at e1; cases e1
    obtain ⟨a, b⟩ := r'.wf.bg p _ hu
    refine ⟨p, vs, rfl, a, b, hb, fun j t e ho z => ?_, RpAll.mono s dp⟩
    have q := r'.sl j t e
    cases t with
    | u => cases ho
    | v d => cases ho
    | o mt ds =>
      obtain ⟨p', vs', a', m, b', c', e', f'⟩ := q
      rw [a'] at z; cases z
      exact n1 e'
theorem OpR.hold1 (r : Rel K tb pa B F σ H ρ) (h : OpR K B F H σ ρ x o) : ∃ B1, Sm B B1 ∧ NewIn B1 x o ∧ Rel K tb pa B1 F σ H ρ := by
  cases o with
  | val d => exact ⟨B, Sm.refl _, (fun p ds e _ => by cases e), r⟩
  | slot i => exact ⟨B, Sm.refl _, (fun p ds e _ => by cases e), r⟩
  | new ds =>
    obtain ⟨p, vs, rfl, hp, hf, hb, off, dp⟩ := h
    refine ⟨upd B p (.lst vs), Sm.upd hb, fun q es _ e => ?_, r.more hp (fun ps z => by cases z) hf off⟩
    cases e
    rw [upd_same]; exact fun z => by cases z
/-- .. persist -/
theorem OpRs.hold : ∀ {xs : List V} {os : List Op} {B : Hp}, Rel K tb pa B F σ H ρ → OpRs K tb pa F H σ ρ B xs os →
    ∃ B2, Sm B B2 ∧ Rel K tb pa B2 F σ H ρ ∧ ∀ F' H' ρ', Sm F F' → Rel K tb pa B2 F' σ H' ρ' → Rel K tb pa B F' σ H' ρ' ∧ OpRs K tb pa F' H' σ ρ' B xs os
  | [], [], B, r, _ => ⟨B, Sm.refl _, r, fun F' H' ρ' _ r' => ⟨r', trivial⟩⟩
  | x :: xs, o :: os, B, r, ⟨h, B1, s1, n1, r1, hs⟩ => by
    obtain ⟨B2, s2, r2, back⟩ := OpRs.hold r1 hs
    refine ⟨B2, s1.trans s2, r2, fun F' H' ρ' s r' => ?_⟩
    obtain ⟨a, b⟩ := back F' H' ρ' s r'
    exact ⟨a.less s1, h.back n1 s1 r1 s a, B1, s1, n1, a, b⟩
  | [], _ :: _, _, _, h => h.elim
  | _ :: _, [], _, _, h => h.elim
theorem OpRs.length : ∀ {xs : List V} {os : List Op} {B : Hp}, OpRs K tb pa F H σ ρ B xs os → xs.length = os.length
  | [], [], _, _ => rfl
  | x :: xs, o :: os, _, ⟨_, B1, _, _, _, hs⟩ => by rw [List.length_cons, List.length_cons, OpRs.length hs]
  | [], _ :: _, _, h => h.elim
  | _ :: _, [], _, h => h.elim
inductive VwAll (K : PySem.W.Frag) (F H : Hp) : List V → List D → Prop
  | nil : VwAll K F H [] []
  | cons {v : V} {vs : List V} {d : D} {ds : List D} : Vw K F H v d → VwAll K F H vs ds → VwAll K F H (v :: vs) (d :: ds)
theorem viewL_ok : ∀ {xs : List V} {os : List Op} {ds : List D} {B : Hp}, Rel K tb pa B F σ H ρ → OpRs K tb pa F H σ ρ B xs os → viewL ρ os = some ds → VwAll K F H xs ds
  | [], [], ds, B, r, _, e => by cases e; exact .nil
  | x :: xs, o :: os, ds, B, r, ⟨h, B1, s1, n1, r1, hs⟩, e => by
    simp only [viewL, Option.bind_eq_some_iff, Option.map_eq_some_iff] at e
    obtain ⟨d, e1, ds', e2, rfl⟩ := e
    exact .cons (vw_ok r h e1) (viewL_ok r1 hs e2)
  | [], _ :: _, _, _, _, h, _ => h.elim
  | _ :: _, [], _, _, _, h, _ => h.elim
theorem keepL_ok : ∀ {xs : List V} {os : List Op} {ds : List D} {B : Hp} {ρ' : En}, Rel K tb pa B F σ H ρ → OpRs K tb pa F H σ ρ B xs os → keepL ρ os = some (ds, ρ') → ∃ F', Sm F F' ∧ Rel K tb pa B F' σ H ρ' ∧ RpAll K F' xs ds
  | [], [], ds, B, ρ', r, _, e => by cases e; exact ⟨F, Sm.refl _, r, .nil⟩
  | x :: xs, o :: os, ds, B, ρ', r, ⟨h, B1, s1, n1, r1, hs⟩, e => by
    simp only [keepL, Option.bind_eq_some_iff, Option.map_eq_some_iff] at e
    obtain ⟨⟨ds', ρ1⟩, e1, ⟨d, ρ2⟩, e2, e3⟩ := e
    cases e3
    obtain ⟨F1, sF, rF, dp⟩ := keepL_ok r1 hs e1
    obtain ⟨F2, sF2, rF2, dp2⟩ := keep_ok (rF.less s1) (h.back n1 s1 r1 sF rF) e2
    exact ⟨F2, sF.trans sF2, rF2, .cons dp2 (RpAll.mono sF2 dp)⟩
  | [], _ :: _, _, _, _, _, h, _ => h.elim
  | _ :: _, [], _, _, _, _, h, _ => h.elim

/-! ### all own slots go behind -/
open Classical in
noncomputable def bgAll (B : Hp) (σ : St) (H : Hp) (ρ : En) (P : Nat → Prop) : Hp := fun q => if (∃ (j : Nat) (s : Sl), P j ∧ ρ[j]? = some s ∧ s.own = true ∧ σ[j]? = some (some (.ref q))) then H q else B q
theorem bgAll_sm (r : Rel K tb pa B F σ H ρ) (P : Nat → Prop) : Sm B (bgAll B σ H ρ P) := fun q o e => by
  unfold bgAll
  rw [if_neg]
  · exact e
  · rintro ⟨j, s, _, h1, h2, h3⟩
    have z := r.sl j s h1
    cases s with
    | u => cases h2
    | v d => cases h2
    | o mt ds =>
      obtain ⟨p', vs', a', m, b', c', e', f'⟩ := z
      rw [a'] at h3; cases h3
      rw [e] at e'; cases e'
theorem bgAll_at (r : Rel K tb pa B F σ H ρ) {P : Nat → Prop} {j : Nat} {s : Sl} (hP : P j) (h : ρ[j]? = some s) (ho : s.own = true) (hσ : σ[j]? = some (some (.ref p))) : bgAll B σ H ρ P p = H p := by
  unfold bgAll
  rw [if_pos ⟨j, s, hP, h, ho, hσ⟩]
theorem bgAll_wf (r : Rel K tb pa B F σ H ρ) (P : Nat → Prop) : Wf tb (bgAll B σ H ρ P) F H := by
  refine ⟨r.wf.fz, fun q o e => ?_, fun Q hQ => ?_⟩
  · unfold bgAll at e
    split at e
    · rename_i hx
      obtain ⟨j, s, _, h1, h2, h3⟩ := hx
      have z := r.sl j s h1
      cases s with
      | u => cases h2
      | v d => cases h2
      | o mt ds =>
        obtain ⟨p', vs', a', m, b', c', e', f'⟩ := z
        rw [a'] at h3; cases h3
        exact ⟨e, c'⟩
    · exact r.wf.bg q o e
  · obtain ⟨t, b, c⟩ := r.wf.tabs Q hQ
    refine ⟨t, b, ?_⟩
    unfold bgAll
    rw [if_neg]
    · exact c
    · rintro ⟨j, s, _, h1, h2, h3⟩
      have z := r.sl j s h1
      cases s with
      | u => cases h2
      | v d => cases h2
      | o mt ds =>
        obtain ⟨p', vs', a', m, b', c', e', f'⟩ := z
        rw [a'] at h3; cases h3
        obtain ⟨ps, e2, _⟩ := t
        rw [e2] at b'; cases b'
/-- what is lent: still while the callee runs -/
theorem lend1 (r : Rel K tb pa B F σ H ρ) (h : OpR K B F H σ ρ x o) (e : viewOp ρ o = some d) : ∃ F', Sm F F' ∧ (∃ ρ', Rel K tb pa B F' σ H ρ' ∧ ρ'.length = ρ.length ∧ (∀ (j : Nat) (s : Sl), ρ[j]? = some s → s.own = true → ρ'[j]? = some s ∨ ∃ p o, σ[j]? = some (some (.ref p)) ∧ F' p = some o ∧ H p = some o)) ∧ Rp K F' x d := by
  cases o with
  | val d' => cases e; exact ⟨F, Sm.refl _, ⟨ρ, r, rfl, fun j s h _ => .inl h⟩, h⟩
  | new ds =>
    cases e
    obtain ⟨p, vs, rfl, hp, hf, hb, off, dp⟩ := h
    exact ⟨upd F p (.lst vs), Sm.upd hf, ⟨ρ, r.freeze hp (fun ps z => by cases z) hf hb off, rfl, fun j s h _ => .inl h⟩, .lst (.inl upd_same) (RpAll.mono (Sm.upd hf) dp)⟩
  | slot i =>
    simp only [viewOp] at e
    have h : σ[i]? = some (some x) := h
    split at e
    · rename_i d' hd
      cases e
      obtain ⟨y, a, b⟩ := r.sl i _ hd
      rw [h] at a; cases a
      exact ⟨F, Sm.refl _, ⟨ρ, r, rfl, fun j s h _ => .inl h⟩, b⟩
    · rename_i mt ds hd
      cases e
      obtain ⟨p, vs, a, m, b, c, e', f⟩ := r.sl i _ hd
      rw [h] at a; cases a
      have dq : Rp K (upd F p (.lst vs)) (.ref p) (.list ds) := .lst (.inl upd_same) (RpAll.mono (Sm.upd c) f)
      refine ⟨upd F p (.lst vs), Sm.upd c, ⟨ρ.set i (.v (.list ds)), ⟨r.wf.freeze b (fun ps z => by cases z) e', by rw [List.length_set]; exact r.len, fun j t ht => ?_, fun j k s t hjk hs ht os ot => ?_⟩, by rw [List.length_set], fun j s hj hs => ?_⟩, dq⟩
      · rcases set_get_cases ht with ⟨rfl, rfl⟩ | ⟨hj, ht⟩
        · exact ⟨_, h, dq⟩
        · refine (r.sl j t ht).same (Sm.upd c) fun q w z => ⟨fun u z => z, fun y => ?_⟩
          rw [upd_ne]; exact y
          rintro rfl
          exact r.ne j i t _ hj ht hd w rfl (z.trans h.symm)
      · rcases set_get_cases hs with ⟨rfl, rfl⟩ | ⟨hj, hs⟩
        · cases os
        · rcases set_get_cases ht with ⟨rfl, rfl⟩ | ⟨hk, ht⟩
          · cases ot
          · exact r.ne j k s t hjk hs ht os ot
      · by_cases z : j = i
        · subst z
          exact .inr ⟨p, .lst vs, h, upd_same, b⟩
        · exact .inl (by rw [List.getElem?_set_ne (Ne.symm z)]; exact hj)
    · cases e
end
end Ev

set_option maxHeartbeats 2000000
namespace Ev
open PySem PySem.Spec PyProof.Rows L2

section
variable {K : PySem.W.Frag} {tb : List Addr} {pa : Nat → Addr} {B B1 F F' : Hp} {σ : St} {H H' : Hp} {ρ ρ' ρ1 : En} {x : V} {o : Op} {os : List Op} {xs : List V} {d : D} {ds : List D} {i : Nat} {p : Addr}
theorem view_frozen {ρ : En} {i : Nat} {mt : Bool} {ds : List D} (h : ρ[i]? = some (.o mt ds)) (o : Op) : viewOp (ρ.set i (.v (.list ds))) o = viewOp ρ o := by
  cases o with
  | val d => rfl
  | new ds => rfl
  | slot j =>
    simp only [viewOp]
    by_cases e : j = i
    · subst e
      have hl : j < ρ.length := (List.getElem?_eq_some_iff.mp h).1
      rw [List.getElem?_set_self hl, h]
    · rw [List.getElem?_set_ne (Ne.symm e)]
/-- what is lent: still while the callee runs -/
def Lent (σ : St) (F' H : Hp) (ρ ρ' : En) : Prop := (∀ (j : Nat) (s : Sl), ρ[j]? = some s → s.own = true → ρ'[j]? = some s ∨ ∃ p o, σ[j]? = some (some (.ref p)) ∧ F' p = some o ∧ H p = some o) ∧ ∀ o, viewOp ρ' o = viewOp ρ o
theorem lend_one (r : Rel K tb pa B F σ H ρ) (h : OpR K B F H σ ρ x o) (e : viewOp ρ o = some d) : ∃ F' ρ', Sm F F' ∧ Rel K tb pa B F' σ H ρ' ∧ Lent σ F' H ρ ρ' ∧ Rp K F' x d := by
  cases o with
  | val d' => cases e; exact ⟨F, ρ, Sm.refl _, r, ⟨fun j s h _ => .inl h, fun o => rfl⟩, h⟩
  | new ds =>
    cases e
    obtain ⟨p, vs, rfl, hp, hf, hb, off, dp⟩ := h
    exact ⟨upd F p (.lst vs), ρ, Sm.upd hf, r.freeze hp (fun ps z => by cases z) hf hb off, ⟨fun j s h _ => .inl h, fun o => rfl⟩, .lst (.inl upd_same) (RpAll.mono (Sm.upd hf) dp)⟩
  | slot i =>
    simp only [viewOp] at e
    have h : σ[i]? = some (some x) := h
    split at e
    · rename_i d' hd
      cases e
      obtain ⟨y, a, b⟩ := r.sl i _ hd
      rw [h] at a; cases a
      exact ⟨F, ρ, Sm.refl _, r, ⟨fun j s h _ => .inl h, fun o => rfl⟩, b⟩
    · rename_i mt ds hd
      cases e
      obtain ⟨p, vs, a, m, b, c, e', f⟩ := r.sl i _ hd
      rw [h] at a; cases a
      have dq : Rp K (upd F p (.lst vs)) (.ref p) (.list ds) := .lst (.inl upd_same) (RpAll.mono (Sm.upd c) f)
      refine ⟨upd F p (.lst vs), ρ.set i (.v (.list ds)), Sm.upd c, ⟨r.wf.freeze b (fun ps z => by cases z) e', by rw [List.length_set]; exact r.len, fun j t ht => ?_, fun j k s t hjk hs ht os ot => ?_⟩, ⟨fun j s hj hs => ?_, view_frozen hd⟩, dq⟩
      · rcases set_get_cases ht with ⟨rfl, rfl⟩ | ⟨hj, ht⟩
        · exact ⟨_, h, dq⟩
        · refine (r.sl j t ht).same (Sm.upd c) fun q w z => ⟨fun u z => z, fun y => ?_⟩
          rw [upd_ne]; exact y
          rintro rfl
          exact r.ne j i t _ hj ht hd w rfl (z.trans h.symm)
      · rcases set_get_cases hs with ⟨rfl, rfl⟩ | ⟨hj, hs⟩
        · cases os
        · rcases set_get_cases ht with ⟨rfl, rfl⟩ | ⟨hk, ht⟩
          · cases ot
          · exact r.ne j k s t hjk hs ht os ot
      · by_cases z : j = i
        · subst z
          exact .inr ⟨p, .lst vs, h, upd_same, b⟩
        · exact .inl (by rw [List.getElem?_set_ne (Ne.symm z)]; exact hj)
    · cases e
theorem lend_all : ∀ {xs : List V} {os : List Op} {ds : List D} {B : Hp}, Rel K tb pa B F σ H ρ → OpRs K tb pa F H σ ρ B xs os → viewL ρ os = some ds → ∃ F' ρ', Sm F F' ∧ Rel K tb pa B F' σ H ρ' ∧ Lent σ F' H ρ ρ' ∧ RpAll K F' xs ds
  | [], [], ds, B, r, _, e => by cases e; exact ⟨F, ρ, Sm.refl _, r, ⟨fun j s h _ => .inl h, fun o => rfl⟩, .nil⟩
  | x :: xs, o :: os, ds, B, r, ⟨h, B1, s1, n1, r1, hs⟩, e => by
    simp only [viewL, Option.bind_eq_some_iff, Option.map_eq_some_iff] at e
    obtain ⟨d, e1, ds', e2, rfl⟩ := e
    obtain ⟨F1, ρ1, sF, rF, ⟨l1, l2⟩, dp⟩ := lend_all r1 hs e2
    have e1' : viewOp ρ1 o = some d := by rw [l2]; exact e1
    obtain ⟨F2, ρ2, sF2, rF2, ⟨m1, m2⟩, dp2⟩ := lend_one (rF.less s1) (h.back n1 s1 r1 sF rF) e1'
    refine ⟨F2, ρ2, sF.trans sF2, rF2, ⟨fun j s hj hs => ?_, fun o => (m2 o).trans (l2 o)⟩, .cons dp2 (RpAll.mono sF2 dp)⟩
    rcases l1 j s hj hs with z | ⟨p, ob, a, b, c⟩
    · rcases m1 j s z hs with z | z
      · exact .inl z
      · exact .inr z
    · exact .inr ⟨p, ob, a, sF2 _ _ b, c⟩
  | [], _ :: _, _, _, _, h, _ => h.elim
  | _ :: _, [], _, _, _, h, _ => h.elim
end

/-! ### argument lists -/
def noStar : Expr → Bool
  | .Starred .. => false
  | _ => true
theorem noStar_eq {e : Expr} (h : noStar e = true) (es : List Expr) (env : Env) : starEach (e :: es) env = (false, eval e env) :: starEach es env := by
  cases e <;> first | rfl | cases h
theorem noStar_any : ∀ {es : List Expr} (env : Env) (pos : Pos), (∀ e ∈ es, noStar e = true) → (backTo pos (starEach es env)).any (·.1) = false
  | [], _, _, _ => rfl
  | e :: es, env, pos, h => by
    rw [noStar_eq (h e List.mem_cons_self)]
    have ih := noStar_any env pos fun e' he => h e' (List.mem_cons_of_mem _ he)
    unfold backTo at ih ⊢
    rw [List.map_cons, List.any_cons, ih]
    rfl
theorem chE_ns {s : Sc} {ir : IE} {e : Expr} (h : chE s ir e = true) : noStar e = true := by
  cases e <;> first | rfl | (cases ir <;> simp [chE] at h)
theorem chEs_ns {s : Sc} : ∀ {irs : IEs} {es : List Expr}, chEs s irs es = true → ∀ e ∈ es, noStar e = true
  | .nil, [], _, e, he => by simp at he
  | .nil, _ :: _, h, _, _ => by simp [chEs] at h
  | .cons ir irs, [], h, _, _ => by simp [chEs] at h
  | .cons ir irs, e' :: es, h, e, he => by
    simp only [chEs, Bool.and_eq_true] at h
    rcases List.mem_cons.mp he with rfl | he
    · exact chE_ns h.1
    · exact chEs_ns h.2 e he

section
variable {T : Tb} {tb : List Addr} {k : Nat} {s : Sc} {X : Cx} {a b c e : Expr} {es : List Expr} {ρ ρ1 ρ2 ρ3 : En} {oa ob oc : Op} {pa : Nat → Addr} {B F H : Hp} {σ : St}
def SA (tb : List Addr) (X : Cx) (es : List Expr) (ρ : En) (ops : List Op) (ρ' : En) : Prop := ∀ pa B F σ H, Rel X.K tb pa B F σ H ρ → ∀ Q : List V → Hp → Prop, (∀ xs F' H', Sm F F' → Rel X.K tb pa B F' σ H' ρ' → OpRs X.K tb pa F' H' σ ρ' B xs ops → Q xs H') → WA X es σ H Q
theorem sa_nil : SA tb X [] ρ [] ρ := fun pa B F σ H r Q h => wa_of pa_nil (h [] F H (Sm.refl _) r trivial)
theorem sa_cons {ops : List Op} (hn : noStar e = true) (ha : SE tb X e ρ oa ρ1) (hb : SA tb X es ρ1 ops ρ2) : SA tb X (e :: es) ρ (oa :: ops) ρ2 := by
  intro pa B F σ H r Q h
  refine wa_of (pa_cons (pe_we X e) (pa_wa X es) (noStar_eq hn _ _)) ?_
  refine ha pa B F σ H r _ fun x F1 H1 s1 r1 o1 => ?_
  obtain ⟨B1, sB, nB, rB⟩ := OpR.hold1 r1 o1
  refine hb pa B1 F1 σ H1 rB _ fun xs F2 H2 s2 r2 os => ?_
  exact h (x :: xs) F2 H2 (s1.trans s2) (r2.less sB) ⟨o1.back nB sB rB s2 r2, B1, sB, nB, r2, os⟩
/-- two expressions in a row -/
theorem SE.two (ha : SE tb X a ρ oa ρ1) (hb : SE tb X b ρ1 ob ρ2) (r : Rel X.K tb pa B F σ H ρ) {R : V → V → Hp → Prop}
    (h : ∀ x y F' H' B1, Sm F F' → Sm B B1 → Rel X.K tb pa B F' σ H' ρ2 → OpR X.K B F' H' σ ρ2 x oa → NewIn B1 x oa → Rel X.K tb pa B1 F' σ H' ρ2 → OpR X.K B1 F' H' σ ρ2 y ob → R x y H') : WE X a σ H fun x H1 => WE X b σ H1 fun y H2 => R x y H2 := by
  refine ha pa B F σ H r _ fun x F1 H1 s1 r1 o1 => ?_
  obtain ⟨B1, sB, nB, rB⟩ := OpR.hold1 r1 o1
  refine hb pa B1 F1 σ H1 rB _ fun y F2 H2 s2 r2 o2 => ?_
  exact h x y F2 H2 B1 (s1.trans s2) sB (r2.less sB) (o1.back nB sB rB s2 r2) nB r2 o2
theorem SE.two' (ha : SE tb X a ρ oa ρ1) (hb : SE tb X b ρ1 ob ρ2) (r : Rel X.K tb pa B F σ H ρ) {R : V → V → Hp → Prop} {da db : D} (ea : viewOp ρ2 oa = some da) (eb : viewOp ρ2 ob = some db)
    (h : ∀ x y F' H', Sm F F' → Rel X.K tb pa B F' σ H' ρ2 → Vw X.K F' H' x da → Vw X.K F' H' y db → R x y H') : WE X a σ H fun x H1 => WE X b σ H1 fun y H2 => R x y H2 :=
  SE.two ha hb r fun x y F' H' B1 s1 sB r1 o1 nB rB o2 => h x y F' H' s1 r1 (vw_ok r1 o1 ea) (vw_ok rB o2 eb)

/-! ### names, constants -/
theorem visB_ok {sc : Scope} {x : Str} (h : visB sc x = true) : Vis sc x := by
  unfold visB at h
  split at h
  · exact .inl (by assumption)
  · exact .inr (.inl (by assumption))
  · exact .inr (.inr (by assumption))
  · cases h
theorem glB_ok (o : XOk T tb k s X) {x : Str} (h : glB s.sc x = true) : Gl X x := by
  unfold glB at h
  split at h
  · unfold Gl Env.kindOf
    rw [o.sc]; assumption
  · cases h
theorem okN_ok {x : Str} (h : okN x = true) : (x == ("__debug__" : Str)) = false ∧ (x == ("__classdict__" : Str)) = false ∧ x ≠ "__name__" := by
  unfold okN at h
  simp only [Bool.and_eq_true, Bool.not_eq_true'] at h
  refine ⟨h.1.1, h.1.2, fun e => ?_⟩
  rw [e] at h
  exact absurd h.2 (by decide)
theorem se_var (o : XOk T tb k s X) {i : Nat} {x : Str} {pos : Pos} (hN : s.N[i]? = some x) (hv : visB s.sc x = true) (hk : okN x = true) {sl : Sl} (h : ρ[i]? = some sl) (hu : sl ≠ .u) : SE tb X (.Name x pos) ρ (.slot i) ρ := by
  intro pa B F σ H r Q q
  obtain ⟨h1, h2, _⟩ := okN_ok hk
  refine we_of (pe_var (i := i) (by rw [o.nm]; exact hN) (by rw [o.sc]; exact visB_ok hv) h1 h2) ?_
  have z := r.sl i sl h
  cases sl with
  | u => exact absurd rfl hu
  | v d => obtain ⟨y, a, _⟩ := z; exact ⟨y, a, q y F H (Sm.refl _) r a⟩
  | o mt ds => obtain ⟨p, vs, a, _⟩ := z; exact ⟨.ref p, a, q _ F H (Sm.refl _) r a⟩
theorem se_cst {c : Const} {j : Nat} {pos : Pos} {d : D} (h : ofC c = some d) : SE tb X (.Constant c j pos) ρ (.val d) ρ := by
  intro pa B F σ H r Q q
  cases c with
  | none => cases h; exact we_of pe_non (q _ F H (Sm.refl _) r .non)
  | bool b => cases h; exact we_of pe_bl (q _ F H (Sm.refl _) r (.bl b))
  | int i => cases h; exact we_of pe_int (q _ F H (Sm.refl _) r (.int i))
  | str x => cases h; exact we_of pe_str (q _ F H (Sm.refl _) r (.str x))
  | _ => cases h
theorem se_glb (o : XOk T tb k s X) {x : Str} {pos : Pos} {d : D} (hg : glB s.sc x = true) (hk : okN x = true) (h : T.gl x = some d) : SE tb X (.Name x pos) ρ (.val d) ρ := by
  intro pa B F σ H r Q q
  obtain ⟨v, u, a, b, c⟩ := o.gls x d h
  exact we_of (pe_glob (glB_ok o hg) a b (okN_ok hk).1) (q v F H (Sm.refl _) r (c F))

/-! ### operators -/
theorem se_bin {op : Operator} {pos : Pos} {rr : R2} {res : Op} {da db : D} (ho : L2.OpR X (binaryOp op) rr) (ha : SE tb X a ρ oa ρ1) (hb : SE tb X b ρ1 ob ρ2) (ea : viewOp ρ2 oa = some da) (eb : viewOp ρ2 ob = some db)
    (h : ∀ pa B F σ H x y, Rel X.K tb pa B F σ H ρ2 → Vw X.K F H x da → Vw X.K F H y db → ∀ Q : VK, (∀ v F' H', Sm F F' → Rel X.K tb pa B F' σ H' ρ2 → OpR X.K B F' H' σ ρ2 v res → Q v H') → rr x y H Q) : SE tb X (.BinOp a op b pos) ρ res ρ2 := by
  intro pa B F σ H r Q q
  refine we_of (pe_op ho (pe_we X a) (pe_we X b)) ?_
  refine SE.two' ha hb r ea eb fun x y F' H' s1 r1 v1 v2 => ?_
  exact h pa B F' σ H' x y r1 v1 v2 Q fun v F2 H2 s2 r2 o2 => q v F2 H2 (s1.trans s2) r2 o2
theorem op_ints {op : Operator} {i j m : Int} (h : binI op i j = some m) : ∃ rr, L2.OpR X (binaryOp op) rr ∧ ∀ H (Q : VK), Q (.int m) H → rr (.int i) (.int j) H Q := by
  cases op with
  | Add => cases h; exact ⟨_, op_add, fun H Q q => ⟨i, j, rfl, rfl, q⟩⟩
  | Sub => cases h; exact ⟨_, op_sub, fun H Q q => ⟨i, j, rfl, rfl, q⟩⟩
  | Mult =>
    simp only [binI] at h
    split at h
    · rename_i hm
      cases h
      unfold mulOk at hm
      simp only [Bool.or_eq_true, decide_eq_true_eq] at hm
      rcases hm with z | z | z
      · exact ⟨_, op_mul, fun H Q q => ⟨i, j, rfl, rfl, .inl z, q⟩⟩
      · exact ⟨_, op_mul, fun H Q q => ⟨i, j, rfl, rfl, .inr z, q⟩⟩
      · exact ⟨_, op_mulW, fun H Q q => ⟨i, j, rfl, rfl, z, q⟩⟩
    · cases h
  | FloorDiv =>
    simp only [binI] at h
    split at h
    · rename_i hm
      cases h
      unfold divOk at hm
      have hm : 0 < j ∧ j.natAbs.log2 < 9000 := of_decide_eq_true hm
      exact ⟨_, op_fdivW, fun H Q q => ⟨i, j, rfl, rfl, hm, q⟩⟩
    · cases h
  | Mod =>
    simp only [binI] at h
    split at h
    · rename_i hm
      cases h
      exact ⟨_, op_mod, fun H Q q => ⟨i, j, rfl, rfl, of_decide_eq_true hm, q⟩⟩
    · cases h
  | Pow =>
    simp only [binI] at h
    split at h
    · rename_i hm
      cases h
      unfold powOk at hm
      have hm : 0 ≤ j ∧ j ≤ 1000000 ∧ i.natAbs < 2 ^ 64 := of_decide_eq_true hm
      exact ⟨_, op_pow, fun H Q q => ⟨i, j, rfl, rfl, hm, q⟩⟩
    · cases h
  | LShift =>
    simp only [binI] at h
    split at h
    · rename_i hm
      cases h
      unfold powOk at hm
      have hm : 0 ≤ j ∧ j ≤ 1000000 ∧ i.natAbs < 2 ^ 64 := of_decide_eq_true hm
      exact ⟨_, op_shl, fun H Q q => ⟨i, j, rfl, rfl, hm, q⟩⟩
    · cases h
  | RShift =>
    simp only [binI] at h
    split at h
    · rename_i hm
      cases h
      exact ⟨_, op_shr, fun H Q q => ⟨i, j, rfl, rfl, of_decide_eq_true hm, q⟩⟩
    · cases h
  | _ => cases h
end
end Ev

set_option maxHeartbeats 2000000
namespace Ev
open PySem PySem.Spec PyProof.Rows L2

section
variable {X : Cx} {pins : List (Addr × Obj)} {σ : St} {H : Hp} {s : Shared}
theorem lstR (I : Inv X pins σ H s) {l : Addr} {xs : List V} (hH : Rd H l (.lst xs)) : ∃ (its : List Value) (n : Nat), Vals xs its ∧ xs.length = its.length ∧ xs.length ≤ sizeLine ∧ s.heap.get? l = some { cls := .type "list", data := .seq its.toArray n } := by
  obtain ⟨z, its, n, r, e⟩ := hH.ok I.hok
  exact ⟨its, n, r, r.length, z, e⟩
def rCatR : R2 := fun x y H Q => ∃ l b xs zs, x = .ref l ∧ y = .ref b ∧ Rd H l (.lst xs) ∧ Rd H b (.lst zs) ∧ xs.length + zs.length ≤ sizeLine ∧ ∀ p, H p = none → Q (.ref p) (upd H p (.lst (xs ++ zs)))
theorem op_catR : L2.OpR X (binaryOp .Add) rCatR := by
  intro pins s σ H x y v u Q I rx ry h
  obtain ⟨l, b, xs, zs, rfl, rfl, hH, hB, hz, q⟩ := h
  cases rx
  cases ry
  obtain ⟨its, n, r, hl, z, e⟩ := lstR I hH
  obtain ⟨its2, n2, r2, hl2, z2, e2⟩ := lstR I hB
  refine PySem.P.add_list e e2 ?_ (by rw [List.size_toArray, List.size_toArray]; omega)
  have ea : its.toArray ++ its2.toArray = (its ++ its2).toArray := by simp
  rw [ea]
  exact ⟨.ref _, _, I.lnew (t' := s.toks) (r.append r2) (by rw [List.length_append]; omega), rfl, q _ I.fresh⟩
def rRepR : R2 := fun x y H Q => ∃ l k xs, x = .ref l ∧ y = .int k ∧ Rd H l (.lst xs) ∧ -(2 ^ 63) ≤ k ∧ k < 2 ^ 63 ∧ xs.length * k.toNat ≤ sizeLine ∧
  ∀ p, H p = none → Q (.ref p) (upd H p (.lst (List.replicate k.toNat xs).flatten))
theorem op_repR : L2.OpR X (binaryOp .Mult) rRepR := by
  intro pins s σ H x y v u Q I rx ry h
  obtain ⟨l, k, xs, rfl, rfl, hH, h1, h2, hz, q⟩ := h
  cases rx
  obtain ⟨t, rfl⟩ := ry
  obtain ⟨its, n, r, hl, z, e⟩ := lstR I hH
  have hlen : its.toArray.size * k.toNat ≤ sizeLine := by rw [List.size_toArray, ← hl]; exact hz
  have hcap : ¬ its.toArray.size * k.toNat > (2 ^ 63 - 1) / 8 := by
    have : (sizeLine : Nat) ≤ (2 ^ 63 - 1) / 8 := by decide
    omega
  have hfit : ¬ (!Builtin.List.listFitsIndex k) = true := by
    rw [fitsIndex_both h1 h2]
    exact Bool.false_ne_true
  have hlong : ¬ Builtin.List.listTooLong (its.toArray.size * k.toNat) = true := by
    rw [notLongL hlen]
    exact Bool.false_ne_true
  have hnew : List.foldl (fun x1 x2 => x1 ++ x2) #[] (List.replicate (if its.toArray.isEmpty = true then 0 else k.toNat) its.toArray) = (List.replicate k.toNat its).flatten.toArray := by
    have f0 : ∀ m : Nat, List.foldl (fun x1 x2 => x1 ++ x2) #[] (List.replicate m its.toArray) = (List.replicate m its).flatten.toArray := fun m => by
      have := foldl_rep its m []
      rw [List.nil_append] at this
      exact this
    rw [f0]
    cases its with
    | nil => simp
    | cons a r' => rw [if_neg (by simp)]
  refine wpAny_binaryOp_repeat_ref (T := "list") (U := "int") (by decide) ⟨_, e, rfl⟩ (fun s' => typeIs_int s' k t) noFill_list_mul F.fills_int_mul F.slot_int_rmul repeat_list F.slot_int_index.lookup
    (call_meets F.slot_int_rmul (typeIs_int s k t) F.entry_int_rmul (F.args_int_rmul_2 _ _) (int___rmul___int_list k t l its.toArray n)
      ⟨e, rfl, ⟨_, e, rfl⟩, call_meets F.slot_list_mul ⟨_, e, rfl⟩ F.entry_list_mul (F.args_list_mul_2 _ _) (AutoListH.list___mul___list_int_3 l its.toArray n k t hfit hcap hlong) ⟨e, ?_⟩⟩)
  rw [hnew]
  exact ⟨.ref _, _, I.lnew (t' := s.toks) (r.rep k.toNat) (by rw [PyProof.Rows.lm_len_rep_flat, Nat.mul_comm]; exact hz), rfl, q _ I.fresh⟩
/-- xs[i], by values -/
def gGetL (K : PySem.W.Frag) : V → V → Hp → VK → Prop := fun o i H Q => ∃ p xs k j x, o = .ref p ∧ i = .int k ∧ SqL K H p xs ∧ ixN xs.length k = some j ∧ xs[j]? = some x ∧ Q x H
theorem pget_list : PGet X (gGetL X.K) := by
  intro pins s σ H o i ov iv Q I ro ri h
  obtain ⟨p, xs, k, j, x, rfl, rfl, hq, hj, hx, q⟩ := h
  cases ro
  obtain ⟨t, rfl⟩ := ri
  obtain ⟨its, r, pl, hz⟩ := I.list hq
  obtain ⟨h1, h2, h3, h4⟩ := ixN_seq hj
  obtain ⟨w, ew, rw'⟩ := r.get hx
  have hl := r.length
  have hn := line63
  have fin : EP X pins σ Q w s := ⟨x, H, I, rw', q⟩
  by_cases h0 : 0 ≤ k
  · have hk : k.toNat = j := by
      rw [seqIndex_of h0 h4] at h1
      exact Option.some.inj h1
    exact wpAny_getItem_list pl.isList h0 (by omega) (by rw [hk]; simpa using ew) fin
  · have hk : (k + (its.toArray.size : Int)).toNat = j := by
      rw [seqIndex_neg (by omega) h3] at h1
      rw [List.size_toArray, ← hl]
      exact Option.some.inj h1
    exact wpAny_getItem_list_neg pl.isList (by omega) (by rw [List.size_toArray] <;> omega) (by omega) (by rw [hk]; simpa using ew) fin
end

section
variable {T : Tb} {tb : List Addr} {k : Nat} {s : Sc} {X : Cx} {a b c e : Expr} {es : List Expr} {ρ ρ1 ρ2 ρ3 : En} {oa ob oc : Op} {pa : Nat → Addr} {B F H : Hp} {σ : St} {pos : Pos}
/-- a new list -/
theorem new_ok (r : Rel X.K tb pa B F σ H ρ) {vs : List V} {ds : List D} (dp : RpAll X.K F vs ds) {p : Addr} (hp : H p = none) : Rel X.K tb pa B F σ (upd H p (.lst vs)) ρ ∧ OpR X.K B F (upd H p (.lst vs)) σ ρ (.ref p) (.new ds) := by
  obtain ⟨a, b⟩ := r.wf.none hp
  exact ⟨r.laid hp _, p, vs, rfl, upd_same, a, b, r.off_none hp, dp⟩
/-- a new tuple, still -/
theorem newT_ok (r : Rel X.K tb pa B F σ H ρ) {vs : List V} {ds : List D} (dp : RpAll X.K F vs ds) {p : Addr} (hp : H p = none) : ∃ F', Sm F F' ∧ Rel X.K tb pa B F' σ (upd H p (.tup vs)) ρ ∧ Rp X.K F' (.ref p) (.tuple ds) := by
  obtain ⟨a, b⟩ := r.wf.none hp
  refine ⟨upd F p (.tup vs), Sm.upd a, (r.laid hp (.tup vs)).freeze upd_same (fun ps z => by cases z) a b (r.off_none hp), .tup (SqT.of upd_same) (RpAll.mono (Sm.upd a) dp)⟩
theorem se_binD {op : Operator} {da db : D} {res : Op} (ha : SE tb X a ρ oa ρ1) (hb : SE tb X b ρ1 ob ρ2) (ea : viewOp ρ2 oa = some da) (eb : viewOp ρ2 ob = some db) (h : binD op da db = some res) : SE tb X (.BinOp a op b pos) ρ res ρ2 := by
  cases da with
  | int i =>
    cases db with
    | int j =>
      simp only [binD, Option.map_eq_some_iff] at h
      obtain ⟨m, h, rfl⟩ := h
      obtain ⟨rr, ho, hq⟩ := op_ints (X := X) h
      refine se_bin ho ha hb ea eb fun pa B F σ H x y r v1 v2 Q q => ?_
      rw [v1.intE, v2.intE]
      exact hq H Q (q _ F H (Sm.refl _) r (.int m))
    | _ => cases h
  | list xs =>
    cases db with
    | list ys =>
      cases op with
      | Add =>
        simp only [binD] at h
        split at h
        · rename_i hl
          cases h
          refine se_bin op_catR ha hb ea eb fun pa B F σ H x y r v1 v2 Q q => ?_
          obtain ⟨p, vs, rfl, a1, b1⟩ := v1.lstE
          obtain ⟨p2, ws, rfl, a2, b2⟩ := v2.lstE
          refine ⟨p, p2, vs, ws, rfl, rfl, a1, a2, ?_, fun l hl' => ?_⟩
          · rw [RpAll.length b1, RpAll.length b2]; exact of_decide_eq_true hl
          · obtain ⟨r2, o2⟩ := new_ok r (RpAll.append b1 b2) hl'
            exact q _ F _ (Sm.refl _) r2 o2
        · cases h
      | _ => cases h
    | int k =>
      cases op with
      | Mult =>
        simp only [binD] at h
        split at h
        · rename_i hl
          cases h
          simp only [Bool.and_eq_true, decide_eq_true_eq] at hl
          obtain ⟨⟨h1, h2⟩, h3⟩ := hl
          refine se_bin op_repR ha hb ea eb fun pa B F σ H x y r v1 v2 Q q => ?_
          obtain ⟨p, vs, rfl, a1, b1⟩ := v1.lstE
          rw [v2.intE]
          refine ⟨p, k, vs, rfl, rfl, a1, h1, h2, ?_, fun l hl' => ?_⟩
          · rw [RpAll.length b1]; exact of_decide_eq_true h3
          · obtain ⟨r2, o2⟩ := new_ok r (RpAll.rep b1 k.toNat) hl'
            exact q _ F _ (Sm.refl _) r2 o2
        · cases h
      | _ => cases h
    | _ => cases h
  | tuple xs =>
    cases db with
    | tuple ys =>
      cases op with
      | Add =>
        simp only [binD] at h
        split at h
        · rename_i hl
          cases h
          refine se_bin op_catA ha hb ea eb fun pa B F σ H x y r v1 v2 Q q => ?_
          obtain ⟨p, vs, rfl, a1, b1⟩ := v1.tupE
          obtain ⟨p2, ws, rfl, a2, b2⟩ := v2.tupE
          have l1 := RpAll.length b1
          have l2 := RpAll.length b2
          have m := r.wf.fz
          refine ⟨p, p2, vs, ws, rfl, rfl, SqT.mono m a1, SqT.mono m a2, by rw [l1, l2]; exact of_decide_eq_true hl, fun e => ?_, fun e e2 => ?_, fun e e2 l hl' => ?_⟩
          · subst e
            have : xs = [] := by cases b1; rfl
            subst this
            exact q _ F _ (Sm.refl _) r (show Rp X.K F _ _ from .tup a2 b2)
          · subst e2
            have : ys = [] := by cases b2; rfl
            subst this
            rw [List.append_nil] at q
            exact q _ F _ (Sm.refl _) r (show Rp X.K F _ _ from .tup a1 b1)
          · obtain ⟨F', s', r2, o2⟩ := newT_ok r (RpAll.append b1 b2) hl'
            exact q _ F' _ s' r2 o2
        · cases h
      | _ => cases h
    | _ => cases h
  | _ => cases h

/-! ### comparisons -/
theorem un_of (o : XOk T tb k s X) : X.A.units + 65 < cLine := by have := o.room.un; omega
theorem cmp_ok (o : XOk T tb k s X) {op : CmpOp} {da db : D} {res : Bool} (h : cmpD op da db = some res) : ∃ rr, L2.OpR X (compareOp op) rr ∧
    ∀ pa B F σ H ρ x y, Rel X.K tb pa B F σ H ρ → Vw X.K F H x da → Vw X.K F H y db → ∀ Q : VK, Q (.bl res) H → rr x y H Q := by
  have hu := un_of o
  have hu' : X.A.units + 64 < cLine := by omega
  cases op with
  | Eq =>
    simp only [cmpD] at h
    split at h
    · rename_i hs
      cases h
      rw [Bool.and_eq_true] at hs
      exact ⟨_, op_eqD hu', fun pa B F σ H ρ x y r v1 v2 Q q => ⟨da, db, (v1.rp r.wf.fz).dp, (v2.rp r.wf.fz).dp, hs.1, hs.2, q⟩⟩
    · cases h
  | NotEq =>
    simp only [cmpD] at h
    split at h
    · rename_i hs
      cases h
      rw [Bool.and_eq_true] at hs
      exact ⟨_, op_neD hu', fun pa B F σ H ρ x y r v1 v2 Q q => ⟨da, db, (v1.rp r.wf.fz).dp, (v2.rp r.wf.fz).dp, hs.1, hs.2, q⟩⟩
    · cases h
  | Is =>
    simp only [cmpD] at h
    split at h
    · cases h
      refine ⟨_, op_isN, fun pa B F σ H ρ x y r v1 v2 Q q => ⟨by cases v2; rfl, ?_⟩⟩
      cases v1 <;> exact q
    · cases h
      exact ⟨_, op_is_bl, fun pa B F σ H ρ x y r v1 v2 Q q => ⟨_, _, v1.boolE, v2.boolE, q⟩⟩
    · cases h
  | IsNot =>
    simp only [cmpD] at h
    split at h
    · cases h
      refine ⟨_, op_notN, fun pa B F σ H ρ x y r v1 v2 Q q => ⟨by cases v2; rfl, ?_⟩⟩
      cases v1 <;> exact q
    · cases h
      exact ⟨_, op_isnot_bl, fun pa B F σ H ρ x y r v1 v2 Q q => ⟨_, _, v1.boolE, v2.boolE, q⟩⟩
    · cases h
  | In =>
    simp only [cmpD] at h
    split at h
    · split at h
      · rename_i hs
        cases h
        unfold inOk at hs
        rw [Bool.and_eq_true] at hs
        exact ⟨_, op_inD hu, fun pa B F σ H ρ x y r v1 v2 Q q => ⟨da, _, (v1.rp r.wf.fz).dp, (v2.rp r.wf.fz).dp, hs.1, hs.2, q⟩⟩
      · cases h
    · cases h
  | NotIn =>
    simp only [cmpD] at h
    split at h
    · split at h
      · rename_i hs
        cases h
        unfold inOk at hs
        rw [Bool.and_eq_true] at hs
        exact ⟨_, op_notInD hu, fun pa B F σ H ρ x y r v1 v2 Q q => ⟨da, _, (v1.rp r.wf.fz).dp, (v2.rp r.wf.fz).dp, hs.1, hs.2, q⟩⟩
      · cases h
    · cases h
  | Lt =>
    simp only [cmpD] at h
    split at h
    · cases h
      exact ⟨_, op_lt, fun pa B F σ H ρ x y r v1 v2 Q q => ⟨_, _, v1.intE, v2.intE, q⟩⟩
    · cases h
  | LtE =>
    simp only [cmpD] at h
    split at h
    · cases h
      exact ⟨_, op_le, fun pa B F σ H ρ x y r v1 v2 Q q => ⟨_, _, v1.intE, v2.intE, q⟩⟩
    · cases h
  | Gt =>
    simp only [cmpD] at h
    split at h
    · cases h
      exact ⟨_, op_gt, fun pa B F σ H ρ x y r v1 v2 Q q => ⟨_, _, v1.intE, v2.intE, q⟩⟩
    · cases h
  | GtE =>
    simp only [cmpD] at h
    split at h
    · cases h
      exact ⟨_, op_ge, fun pa B F σ H ρ x y r v1 v2 Q q => ⟨_, _, v1.intE, v2.intE, q⟩⟩
    · cases h
def noSet : Expr → Bool
  | .Set .. => false
  | _ => true
theorem chE_set {s : Sc} {ir : IE} {e : Expr} (h : chE s ir e = true) : noSet e = true := by
  cases e <;> first | rfl | (cases ir <;> simp [chE] at h)
theorem noSet_ok {op : CmpOp} {e : Expr} (h : noSet e = true) : behindInMarks op e = false := by
  cases e <;> first | rfl | cases h
theorem se_cmp (o : XOk T tb k s X) {op : CmpOp} {da db : D} {res : Bool} (hs : noSet b = true) (ha : SE tb X a ρ oa ρ1) (hb : SE tb X b ρ1 ob ρ2) (ea : viewOp ρ2 oa = some da) (eb : viewOp ρ2 ob = some db) (h : cmpD op da db = some res) :
    SE tb X (.Compare a [op] [b] pos) ρ (.val (.bool res)) ρ2 := by
  obtain ⟨rr, ho, hq⟩ := cmp_ok o h
  intro pa B F σ H r Q q
  refine we_of (pe_cmpR ho (pe_we X a) (pe_we X b) (noSet_ok hs)) ?_
  refine SE.two' ha hb r ea eb fun x y F' H' s1 r1 v1 v2 => ?_
  exact hq pa B F' σ H' ρ2 x y r1 v1 v2 Q (q _ F' H' s1 r1 (.bl res))
theorem st_cmp (o : XOk T tb k s X) {op : CmpOp} {da db : D} {res : Bool} (hs : noSet b = true) (ha : SE tb X a ρ oa ρ1) (hb : SE tb X b ρ1 ob ρ2) (ea : viewOp ρ2 oa = some da) (eb : viewOp ρ2 ob = some db) (h : cmpD op da db = some res) :
    ST tb X (.Compare a [op] [b] pos) ρ res ρ2 := by
  obtain ⟨rr, ho, hq⟩ := cmp_ok o h
  intro pa B F σ H r Q q
  refine wt_of (pt_cmpR ho (pe_we X a) (pe_we X b) (noSet_ok hs)) ?_
  refine SE.two' ha hb r ea eb fun x y F' H' s1 r1 v1 v2 => ?_
  exact hq pa B F' σ H' ρ2 x y r1 v1 v2 _ ⟨res, rfl, q F' H' s1 r1⟩
/-- a < b < c: the second one is not asked -/
theorem chain_ok (o : XOk T tb k s X) {op op2 : CmpOp} {da db : D} {res : Bool} {db' dc : D} {res2 : Bool} {Q : VK} {res' : Bool} {ρ' : En} (ha : SE tb X a ρ oa ρ1) (hb : SE tb X b ρ1 ob ρ2) (ea : viewOp ρ2 oa = some da) (eb : viewOp ρ2 ob = some db) (h : cmpD op da db = some res)
    (h2 : (res = false ∧ res' = false ∧ ρ' = ρ2) ∨ (res = true ∧ ∃ oc, SE tb X c ρ2 oc ρ3 ∧ viewOp ρ3 ob = some db' ∧ viewOp ρ3 oc = some dc ∧ cmpD op2 db' dc = some res' ∧ ρ' = ρ3)) :
    ∃ rr rr2, L2.OpR X (compareOp op) rr ∧ L2.OpR X (compareOp op2) rr2 ∧ ∀ pa B F σ H, Rel X.K tb pa B F σ H ρ → ∀ Q : VK, (∀ F' H', Sm F F' → Rel X.K tb pa B F' σ H' ρ' → Q (.bl res') H') → tChain rr rr2 (WE X a) (WE X b) (WE X c) σ H Q := by
  obtain ⟨rr, ho, hq⟩ := cmp_ok o h
  rcases h2 with ⟨rfl, rfl, rfl⟩ | ⟨rfl, oc, hc, eb', ec, h2, rfl⟩
  · refine ⟨rr, fun _ _ _ _ => False, ho, fun _ _ _ _ _ _ _ _ _ _ _ _ h => h.elim, fun pa B F σ H r Q q => ?_⟩
    refine SE.two' ha hb r ea eb fun x y F' H' s1 r1 v1 v2 => ?_
    refine hq pa B F' σ H' _ x y r1 v1 v2 _ ⟨false, rfl, ?_⟩
    rw [if_neg Bool.false_ne_true]
    exact q F' H' s1 r1
  · obtain ⟨rr2, ho2, hq2⟩ := cmp_ok o h2
    refine ⟨rr, rr2, ho, ho2, fun pa B F σ H r Q q => ?_⟩
    refine SE.two ha hb r fun x y F' H' B1 s1 sB r1 o1 nB rB o2 => ?_
    refine hq pa B F' σ H' _ x y r1 (vw_ok r1 o1 ea) (vw_ok rB o2 eb) _ ⟨true, rfl, ?_⟩
    rw [if_pos rfl]
    obtain ⟨B2, s2, n2, r2⟩ := OpR.hold1 rB o2
    refine hc pa B2 F' σ H' r2 _ fun z F3 H3 s3 r3 o3 => ?_
    have o2' := o2.back n2 s2 r2 s3 r3
    refine hq2 pa B2 F3 σ H3 _ y z r3 ?_ (vw_ok r3 o3 ec) Q (q F3 H3 (s1.trans s3) ((r3.less s2).less sB))
    exact vw_ok (r3.less s2) o2' eb'
end
end Ev

set_option maxHeartbeats 2000000
namespace Ev
open PySem PySem.Spec PyProof.Rows L2

section
variable {T : Tb} {tb : List Addr} {k : Nat} {s : Sc} {X : Cx} {a b c e : Expr} {es : List Expr} {ρ ρ1 ρ2 ρ3 : En} {oa ob oc op : Op} {pa : Nat → Addr} {B F H : Hp} {σ : St} {pos : Pos} {r1 r2 : Bool}
theorem last_ok {op op2 : CmpOp} (h : noSet c = true) : lastMarks [op, op2] [b, c] = false := noSet_ok h
theorem SE.use (ha : SE tb X a ρ oa ρ1) (r : Rel X.K tb pa B F σ H ρ) {d : D} (ea : viewOp ρ1 oa = some d) {Q : VK} (h : ∀ x F' H', Sm F F' → Rel X.K tb pa B F' σ H' ρ1 → Vw X.K F' H' x d → Q x H') : WE X a σ H Q :=
  ha pa B F σ H r Q fun x F' H' s' r' o' => h x F' H' s' r' (vw_ok r' o' ea)
theorem se_neg {i : Int} (ha : SE tb X a ρ oa ρ1) (ea : viewOp ρ1 oa = some (.int i)) : SE tb X (.UnaryOp .USub a pos) ρ (.val (.int (-i))) ρ1 := by
  intro pa B F σ H r Q q
  refine we_of (pe_un un_neg (pe_we X a)) (ha.use r ea fun x F' H' s' r' v => ⟨i, v.intE, q _ F' H' s' r' (.int _)⟩)
theorem se_not {c : Bool} (ha : SE tb X a ρ oa ρ1) (ea : viewOp ρ1 oa = some (.bool c)) : SE tb X (.UnaryOp .Not a pos) ρ (.val (.bool (!c))) ρ1 := by
  intro pa B F σ H r Q q
  refine we_of (pe_not (pe_we X a)) (ha.use r ea fun x F' H' s' r' v => ⟨c, v.boolE, q _ F' H' s' r' (.bl _)⟩)
theorem se_andT {rest : List Expr} (ha : SE tb X a ρ oa ρ1) (ea : viewOp ρ1 oa = some (.bool true)) (hb : SE tb X (.BoolOp .And (b :: rest) pos) ρ1 ob ρ2) : SE tb X (.BoolOp .And (a :: b :: rest) pos) ρ ob ρ2 := by
  intro pa B F σ H r Q q
  refine we_of (pe_and (pe_we X a) (pe_we X _)) (ha.use r ea fun x F' H' s' r' v => ⟨true, v.boolE, ?_⟩)
  rw [if_pos rfl]
  exact hb pa B F' σ H' r' Q fun y F2 H2 s2 r2 o2 => q y F2 H2 (s'.trans s2) r2 o2
theorem se_andF {rest : List Expr} (ha : SE tb X a ρ oa ρ1) (ea : viewOp ρ1 oa = some (.bool false)) : SE tb X (.BoolOp .And (a :: b :: rest) pos) ρ (.val (.bool false)) ρ1 := by
  intro pa B F σ H r Q q
  refine we_of (pe_and (pe_we X a) (pe_we X _)) (ha.use r ea fun x F' H' s' r' v => ⟨false, v.boolE, ?_⟩)
  rw [if_neg Bool.false_ne_true]
  exact q _ F' H' s' r' (.bl _)
theorem se_orF {rest : List Expr} (ha : SE tb X a ρ oa ρ1) (ea : viewOp ρ1 oa = some (.bool false)) (hb : SE tb X (.BoolOp .Or (b :: rest) pos) ρ1 ob ρ2) : SE tb X (.BoolOp .Or (a :: b :: rest) pos) ρ ob ρ2 := by
  intro pa B F σ H r Q q
  refine we_of (pe_or (pe_we X a) (pe_we X _)) (ha.use r ea fun x F' H' s' r' v => ⟨false, v.boolE, ?_⟩)
  rw [if_neg Bool.false_ne_true]
  exact hb pa B F' σ H' r' Q fun y F2 H2 s2 r2 o2 => q y F2 H2 (s'.trans s2) r2 o2
theorem se_orT {rest : List Expr} (ha : SE tb X a ρ oa ρ1) (ea : viewOp ρ1 oa = some (.bool true)) : SE tb X (.BoolOp .Or (a :: b :: rest) pos) ρ (.val (.bool true)) ρ1 := by
  intro pa B F σ H r Q q
  refine we_of (pe_or (pe_we X a) (pe_we X _)) (ha.use r ea fun x F' H' s' r' v => ⟨true, v.boolE, ?_⟩)
  rw [if_pos rfl]
  exact q _ F' H' s' r' (.bl _)
theorem se_one {op : BoolOp} (ha : SE tb X a ρ oa ρ1) : SE tb X (.BoolOp op [a] pos) ρ oa ρ1 := by
  intro pa B F σ H r Q q
  exact we_of (pe_one (pe_we X a)) (ha pa B F σ H r Q q)
theorem se_iteT (hc : ST tb X c ρ true ρ1) (ha : SE tb X a ρ1 oa ρ2) : SE tb X (.IfExp c a b pos) ρ oa ρ2 := by
  intro pa B F σ H r Q q
  refine we_of (pe_ifExp (pt_wt X c) (pe_we X a) (pe_we X b)) (hc pa B F σ H r _ fun F' H' s' r' => ?_)
  rw [if_pos rfl]
  exact ha pa B F' σ H' r' Q fun y F2 H2 s2 r2 o2 => q y F2 H2 (s'.trans s2) r2 o2
theorem se_iteF (hc : ST tb X c ρ false ρ1) (hb : SE tb X b ρ1 ob ρ2) : SE tb X (.IfExp c a b pos) ρ ob ρ2 := by
  intro pa B F σ H r Q q
  refine we_of (pe_ifExp (pt_wt X c) (pe_we X a) (pe_we X b)) (hc pa B F σ H r _ fun F' H' s' r' => ?_)
  rw [if_neg Bool.false_ne_true]
  exact hb pa B F' σ H' r' Q fun y F2 H2 s2 r2 o2 => q y F2 H2 (s'.trans s2) r2 o2
theorem se_chain (o : XOk T tb k s X) {op op2 : CmpOp} {da db db' dc : D} {res res' : Bool} {ρ' : En} (hn : noSet c = true) (ha : SE tb X a ρ oa ρ1) (hb : SE tb X b ρ1 ob ρ2) (ea : viewOp ρ2 oa = some da) (eb : viewOp ρ2 ob = some db) (h : cmpD op da db = some res)
    (h2 : (res = false ∧ res' = false ∧ ρ' = ρ2) ∨ (res = true ∧ ∃ oc, SE tb X c ρ2 oc ρ3 ∧ viewOp ρ3 ob = some db' ∧ viewOp ρ3 oc = some dc ∧ cmpD op2 db' dc = some res' ∧ ρ' = ρ3)) :
    SE tb X (.Compare a [op, op2] [b, c] pos) ρ (.val (.bool res')) ρ' := by
  obtain ⟨rr, rr2, ho, ho2, hq⟩ := chain_ok (Q := fun _ _ => True) (res2 := true) o ha hb ea eb h h2
  intro pa B F σ H r Q q
  refine we_of (pe_chain ho ho2 (pe_we X a) (pe_we X b) (pe_we X c) (last_ok hn)) ?_
  exact hq pa B F σ H r Q fun F' H' s' r' => q _ F' H' s' r' (.bl _)
theorem st_chain (o : XOk T tb k s X) {op op2 : CmpOp} {da db db' dc : D} {res res' : Bool} {ρ' : En} (hn : noSet c = true) (ha : SE tb X a ρ oa ρ1) (hb : SE tb X b ρ1 ob ρ2) (ea : viewOp ρ2 oa = some da) (eb : viewOp ρ2 ob = some db) (h : cmpD op da db = some res)
    (h2 : (res = false ∧ res' = false ∧ ρ' = ρ2) ∨ (res = true ∧ ∃ oc, SE tb X c ρ2 oc ρ3 ∧ viewOp ρ3 ob = some db' ∧ viewOp ρ3 oc = some dc ∧ cmpD op2 db' dc = some res' ∧ ρ' = ρ3)) :
    ST tb X (.Compare a [op, op2] [b, c] pos) ρ res' ρ' := by
  obtain ⟨rr, rr2, ho, ho2, hq⟩ := chain_ok (Q := fun _ _ => True) (res2 := true) o ha hb ea eb h h2
  intro pa B F σ H r Q q
  refine wt_of (pt_chain ho ho2 (pe_we X a) (pe_we X b) (pe_we X c) (last_ok hn)) ?_
  exact hq pa B F σ H r _ fun F' H' s' r' => ⟨res', rfl, q F' H' s' r'⟩

/-! ### displays -/
theorem se_tup {ops : List Op} {ds : List D} {j : Nat} (ha : SA tb X es ρ ops ρ1) (hk : keepL ρ1 ops = some (ds, ρ2)) (hl : lenOk ds.length = true) : SE tb X (.Tuple es j pos) ρ (.val (.tuple ds)) ρ2 := by
  intro pa B F σ H r Q q
  refine we_of (pe_tup (pa_wa X es)) (ha pa B F σ H r _ fun xs F' H' s' r' os => ?_)
  obtain ⟨F2, s2, r2, dp⟩ := keepL_ok r' os hk
  refine ⟨by rw [RpAll.length dp]; exact of_decide_eq_true hl, fun p hp => ?_⟩
  obtain ⟨F3, s3, r3, o3⟩ := newT_ok r2 dp hp
  exact q _ F3 _ ((s'.trans s2).trans s3) r3 o3
theorem se_lst {ops : List Op} {ds : List D} (ha : SA tb X es ρ ops ρ1) (hk : keepL ρ1 ops = some (ds, ρ2)) (hl : lenOk ds.length = true) : SE tb X (.List es pos) ρ (.new ds) ρ2 := by
  intro pa B F σ H r Q q
  refine we_of (pe_lst (pa_wa X es)) (ha pa B F σ H r _ fun xs F' H' s' r' os => ?_)
  obtain ⟨F2, s2, r2, dp⟩ := keepL_ok r' os hk
  refine ⟨by rw [RpAll.length dp]; exact of_decide_eq_true hl, fun p hp => ?_⟩
  obtain ⟨r3, o3⟩ := new_ok r2 dp hp
  exact q _ F2 _ (s'.trans s2) r3 o3

/-! ### items, slices -/
def noSlice : Expr → Bool
  | .Slice .. => false
  | _ => true
theorem plainIx {b : Expr} (h : noSlice b = true) : PlainIx b := by
  cases b <;> first | (intro o i; rfl) | cases h
theorem chE_slice {s : Sc} {ir : IE} {e : Expr} (h : chE s ir e = true) : noSlice e = true := by
  cases e <;> first | rfl | (cases ir <;> simp [chE] at h)
theorem atI_rp {K : PySem.W.Frag} {F : Hp} {xs : List V} {ds : List D} {i : Int} {d : D} (r : RpAll K F xs ds) (h : atI ds i = some d) : ∃ x, atI xs i = some x ∧ Rp K F x d := by
  unfold atI at h ⊢
  rw [RpAll.length r]
  rw [Option.bind_eq_some_iff] at h
  obtain ⟨j, h1, h2⟩ := h
  obtain ⟨x, h3, h4⟩ := RpAll.get r h2
  exact ⟨x, by rw [h1]; exact h3, h4⟩
theorem se_idx {da di d : D} (hs : noSlice b = true) (ha : SE tb X a ρ oa ρ1) (hb : SE tb X b ρ1 ob ρ2) (ea : viewOp ρ2 oa = some da) (eb : viewOp ρ2 ob = some di) (h : idxD da di = some d) : SE tb X (.Subscript a b pos) ρ (.val d) ρ2 := by
  unfold idxD at h
  split at h
  · intro pa B F σ H r Q q
    refine we_of (pe_ix ix_list (pe_we X a) (pe_we X b) (plainIx hs)) ?_
    refine SE.two' ha hb r ea eb fun x y F' H' s1 r1 v1 v2 => ?_
    obtain ⟨p, vs, rfl, a1, b1⟩ := v1.lstE
    obtain ⟨z, e1, e2⟩ := atI_rp b1 h
    exact ⟨p, vs, _, z, rfl, v2.intE, .inl a1, e1, q _ F' H' s1 r1 e2⟩
  · intro pa B F σ H r Q q
    refine we_of (pe_ix ix_tup (pe_we X a) (pe_we X b) (plainIx hs)) ?_
    refine SE.two' ha hb r ea eb fun x y F' H' s1 r1 v1 v2 => ?_
    obtain ⟨p, vs, rfl, a1, b1⟩ := v1.tupE
    obtain ⟨z, e1, e2⟩ := atI_rp b1 h
    exact ⟨p, vs, _, z, rfl, v2.intE, SqT.mono r1.wf.fz a1, e1, q _ F' H' s1 r1 e2⟩
  · cases h
def WO (X : Cx) (o : Option Expr) : TO := fun σ H Q => ∀ (pins : List (Addr × Obj)) (s : Shared), Inv X pins σ H s → wpAny (model X.prog X.w) X.A (evalPart o X.env) (fun u s' => ∃ o H', Inv X pins σ H' s' ∧ IsPart u o ∧ Q o H') X.xe s
theorem po_wo (X : Cx) (o : Option Expr) : PO X o (WO X o) := ⟨fun pins s σ H Q I h => h pins s I⟩
def SO (tb : List Addr) (X : Cx) (o : Option Expr) (ρ : En) (i : Option Int) (ρ' : En) : Prop := ∀ pa B F σ H, Rel X.K tb pa B F σ H ρ → ∀ Q : Option Int → Hp → Prop, (∀ F' H', Sm F F' → Rel X.K tb pa B F' σ H' ρ' → Q i H') → WO X o σ H Q
theorem so_no : SO tb X none ρ none ρ := fun pa B F σ H r Q q pins s I => po_none.run pins s σ H Q I (q F H (Sm.refl _) r)
theorem so_so {i : Int} (ha : SE tb X a ρ oa ρ1) (ea : viewOp ρ1 oa = some (.int i)) : SO tb X (some a) ρ (some i) ρ1 := fun pa B F σ H r Q q pins s I =>
  (po_some (pe_we X a)).run pins s σ H Q I (ha.use r ea fun x F' H' s' r' v => ⟨i, v.intE, q F' H' s' r'⟩)
theorem cut_rp {K : PySem.W.Frag} {F : Hp} {xs : List V} {ds : List D} {lo hi : Option Int} (r : RpAll K F xs ds) : RpAll K F (cutV xs lo hi) (cutD ds lo hi) := by
  unfold cutV cutD
  rw [RpAll.length r]
  exact RpAll.take _ (RpAll.drop _ r)
theorem se_slc {lo hi : Option Expr} {p2 : Pos} {da : D} {i j : Option Int} {res : Op} (ha : SE tb X a ρ oa ρ1) (hl : SO tb X lo ρ1 i ρ2) (hh : SO tb X hi ρ2 j ρ3) (ea : viewOp ρ3 oa = some da) (h : slcD da i j = some res) :
    SE tb X (.Subscript a (.Slice lo hi none p2) pos) ρ res ρ3 := by
  have key : ∀ {rr : V → Option Int → Option Int → Hp → VK → Prop}, SlR X rr → (∀ pa B F σ H x, Rel X.K tb pa B F σ H ρ3 → Vw X.K F H x da → ∀ Q : VK, (∀ v F' H', Sm F F' → Rel X.K tb pa B F' σ H' ρ3 → OpR X.K B F' H' σ ρ3 v res → Q v H') → rr x i j H Q) →
      SE tb X (.Subscript a (.Slice lo hi none p2) pos) ρ res ρ3 := by
    intro rr hr hq pa B F σ H r Q q
    refine we_of (pe_slice hr (pe_we X a) (po_wo X lo) (po_wo X hi)) ?_
    refine ha pa B F σ H r _ fun x F1 H1 s1 r1 o1 => ?_
    obtain ⟨B1, sB, nB, rB⟩ := OpR.hold1 r1 o1
    refine hl pa B1 F1 σ H1 rB _ fun F2 H2 s2 r2 => ?_
    refine hh pa B1 F2 σ H2 r2 _ fun F3 H3 s3 r3 => ?_
    have o3 := o1.back nB sB rB (s2.trans s3) r3
    have r3' := r3.less sB
    exact hq pa B F3 σ H3 x r3' (vw_ok r3' o3 ea) Q fun v F4 H4 s4 r4 o4 => q v F4 H4 (((s1.trans s2).trans s3).trans s4) r4 o4
  unfold slcD at h
  split at h
  · cases h
    refine key sl_list fun pa B F σ H x r v Q q => ?_
    obtain ⟨p, vs, rfl, a1, b1⟩ := v.lstE
    refine ⟨p, vs, rfl, .inl a1, fun l hl => ?_⟩
    obtain ⟨r3, o3⟩ := new_ok r (cut_rp (lo := i) (hi := j) b1) hl
    exact q _ F _ (Sm.refl _) r3 o3
  · cases h
    refine key sl_tupA fun pa B F σ H x r v Q q => ?_
    obtain ⟨p, vs, rfl, a1, b1⟩ := v.tupE
    refine ⟨p, vs, rfl, SqT.mono r.wf.fz a1, fun hw => ?_, fun hw l hl => ?_⟩
    · refine q _ F _ (Sm.refl _) r (show Rp X.K F _ _ from .tup a1 ?_)
      have e : cutV vs i j = vs := by
        unfold cutV
        rw [hw.1, hw.2, List.drop_zero, Nat.sub_zero, List.take_length]
      have z := cut_rp (lo := i) (hi := j) b1
      rw [e] at z
      exact z
    · obtain ⟨F2, s2, r3, o3⟩ := newT_ok r (cut_rp (lo := i) (hi := j) b1) hl
      exact q _ F2 _ s2 r3 o3
  · cases h
end
end Ev

set_option maxHeartbeats 2000000
namespace Ev
open PySem PySem.Spec PyProof.Rows L2

section
variable {T : Tb} {tb : List Addr} {k : Nat} {s : Sc} {X : Cx} {a b c e : Expr} {es : List Expr} {ρ ρ1 ρ2 ρ3 : En} {oa ob oc op : Op} {ops : List Op} {pa : Nat → Addr} {B F H : Hp} {σ : St} {pos : Pos} {r1 r2 : Bool}

/-! ### calls of defs -/
theorem we_call {x : Str} {fs : FS} {P : Pos} (o : XOk T tb k s X) (hg : glB s.sc x = true) (hk : okN x = true) (hc : Can X.prog X.w X.K X.mg X.base tb k x fs) (hn : ∀ e' ∈ e :: es, noStar e' = true) {Q : VK}
    (h : WA X (e :: es) σ H fun xs H1 => SpOf X.K tb fs xs H1 Q E0) : WE X (.Call (.Name x P) (e :: es) [] pos) σ H Q := by
  obtain ⟨h1, _, _⟩ := okN_ok hk
  rcases hc.ex with ⟨f, fd, ps, hf, hm, hkp, hb⟩ | ⟨id, hm, _, hr⟩
  · refine we_of (pe_callG hf o.grd o.room (glB_ok o hg) hm hkp hb (pa_wa X (e :: es)) h1 (noStar_eq (hn e List.mem_cons_self) _ _) (noStar_any _ _ fun e' he => hn e' (List.mem_cons_of_mem _ he))) ?_
    exact h
  · refine we_of (pe_callBfun (hr X rfl) (glB_ok o hg) hm (pa_wa X (e :: es)) h1 (noStar_eq (hn e List.mem_cons_self) _ _) (noStar_any _ _ fun e' he => hn e' (List.mem_cons_of_mem _ he))) ?_
    exact h
theorem we_call0 {x : Str} {fs : FS} {P : Pos} (o : XOk T tb k s X) (hg : glB s.sc x = true) (hk : okN x = true) (hc : Can X.prog X.w X.K X.mg X.base tb k x fs) {Q : VK}
    (h : SpOf X.K tb fs [] H Q E0) : WE X (.Call (.Name x P) [] [] pos) σ H Q := by
  obtain ⟨h1, _, _⟩ := okN_ok hk
  rcases hc.ex with ⟨f, fd, ps, hf, hm, hkp, hb⟩ | ⟨id, hm, hno, hr⟩
  · exact we_of (pe_callG0 hf o.grd o.room (glB_ok o hg) hm hkp hb h1) h
  · exact absurd h (hno _ _ _)

theorem keepOp_view {d : D} (h : keepOp ρ oa = some (d, ρ1)) : viewOp ρ oa = some d ∧ ∀ o', viewOp ρ1 o' = viewOp ρ o' := by
  cases oa with
  | val d' => cases h; exact ⟨rfl, fun _ => rfl⟩
  | new ds => cases h; exact ⟨rfl, fun _ => rfl⟩
  | slot i =>
    simp only [keepOp] at h
    simp only [viewOp]
    split at h
    · rename_i d' hd
      cases h
      rw [hd]
      exact ⟨rfl, fun _ => rfl⟩
    · rename_i ds hd
      cases h
      rw [hd]
      exact ⟨rfl, view_frozen hd⟩
    · cases h
theorem keepL_view : ∀ {ops : List Op} {ds : List D} {ρ ρ1 : En}, keepL ρ ops = some (ds, ρ1) → viewL ρ ops = some ds ∧ ∀ o', viewOp ρ1 o' = viewOp ρ o'
  | [], ds, ρ, ρ1, h => by cases h; exact ⟨rfl, fun _ => rfl⟩
  | o :: os, ds, ρ, ρ1, h => by
    simp only [keepL, Option.bind_eq_some_iff, Option.map_eq_some_iff] at h
    obtain ⟨⟨ds', ρ2⟩, h1, ⟨d, ρ3⟩, h2, e⟩ := h
    cases e
    obtain ⟨a1, a2⟩ := keepL_view h1
    obtain ⟨b1, b2⟩ := keepOp_view h2
    refine ⟨?_, fun o' => (b2 o').trans (a2 o')⟩
    simp only [viewL, a1]
    rw [← a2 o, b1]
    rfl

theorem callP_ok {n : Nat} {f : List D → Option D} {res : Op} (r : Rel X.K tb pa B F σ H ρ) {xs : List V} (os : OpRs X.K tb pa F H σ ρ B xs ops) (hl : ops.length = n) (h : callP f ops ρ = some (res, ρ1)) {Q : VK}
    (q : ∀ x F' H', Sm F F' → Rel X.K tb pa B F' σ H' ρ1 → OpR X.K B F' H' σ ρ1 x res → Q x H') : SpP X.K tb n f xs H Q E0 := by
  unfold callP at h
  simp only [Option.bind_eq_some_iff] at h
  obtain ⟨ds, hv, rr, hf, h⟩ := h
  have hlx := OpRs.length os
  split at h
  · rename_i hfl
    cases h
    obtain ⟨F1, ρc, s1, rc, ⟨l1, l2⟩, dp⟩ := lend_all r os hv
    refine ⟨by omega, bgAll B σ H ρc (fun _ => True), F1, ds, rr, bgAll_wf rc _, dp, hf, fun v F' H' s2 w2 rv => ?_⟩
    refine q v F H' (Sm.refl _) ?_ (rpFlat rv hfl)
    have sB := bgAll_sm rc (fun _ => True)
    refine ⟨⟨fun p o e => w2.fz _ _ (s2 _ _ (s1 _ _ e)), fun p o e => ⟨(w2.bg p o (sB p o e)).1, (r.wf.bg p o e).2⟩, fun P hP => ?_⟩, r.len, fun i sl hi => ?_, r.ne⟩
    · obtain ⟨a, b, c⟩ := w2.tabs P hP
      exact ⟨a, (r.wf.tabs P hP).2⟩
    · have z := r.sl i sl hi
      cases sl with
      | u => trivial
      | v d => exact z
      | o mt ds =>
        obtain ⟨p, vs, a', m, b', c', e', f'⟩ := z
        refine ⟨p, vs, a', m, ?_, c', e', f'⟩
        rcases l1 i _ hi rfl with z | ⟨p2, ob, z1, z2, z3⟩
        · have e2 := bgAll_at rc (P := fun _ => True) trivial z rfl a'
          exact (w2.bg p _ (e2.trans b')).1
        · rw [a'] at z1
          cases z1
          rw [b'] at z3
          cases z3
          exact w2.fz _ _ (s2 _ _ z2)
  · simp only [Option.map_eq_some_iff] at h
    obtain ⟨⟨ds', ρk⟩, hk, e⟩ := h
    cases e
    obtain ⟨F1, s1, rk, dp⟩ := keepL_ok r os hk
    have eds : ds' = ds := by
      have := (keepL_view hk).1
      rw [hv] at this
      cases this; rfl
    subst eds
    refine ⟨by omega, bgAll B σ H ρk (fun _ => True), F1, ds', rr, bgAll_wf rk _, dp, hf, fun v F' H' s2 w2 rv => ?_⟩
    refine q v F' H' (s1.trans s2) ?_ rv
    have sB := bgAll_sm rk (fun _ => True)
    refine ⟨⟨w2.fz, fun p o e => w2.bg p o (sB p o e), fun P hP => ?_⟩, rk.len, fun i sl hi => ?_, rk.ne⟩
    · obtain ⟨a, b, c⟩ := w2.tabs P hP
      exact ⟨a, b, (rk.wf.tabs P hP).2.2⟩
    · have z := rk.sl i sl hi
      cases sl with
      | u => trivial
      | v d => obtain ⟨y, a, b⟩ := z; exact ⟨y, a, Rp.mono s2 b⟩
      | o mt ds =>
        obtain ⟨p, vs, a', m, b', c', e', f'⟩ := z
        have e2 := bgAll_at rk (P := fun _ => True) trivial hi rfl a'
        obtain ⟨z1, z2⟩ := w2.bg p _ (e2.trans b')
        exact ⟨p, vs, a', m, z1, z2, e', RpAll.mono s2 f'⟩

theorem callW_ok {n : Nat} {f : List D → List D → Option (D × List D)} {res : Op} (r : Rel X.K tb pa B F σ H ρ) {xs : List V} (os : OpRs X.K tb pa F H σ ρ B xs ops) (hl : ops.length = n) (h : callW f ops ρ = some (res, ρ1)) {Q : VK}
    (q : ∀ x F' H', Sm F F' → Rel X.K tb pa B F' σ H' ρ1 → OpR X.K B F' H' σ ρ1 x res → Q x H') : SpW X.K tb n f xs H Q E0 := by
  have hlx := OpRs.length os
  unfold callW at h
  split at h
  · rename_i i rest
    split at h
    · rename_i mt ds0 hi
      simp only [Option.bind_eq_some_iff] at h
      obtain ⟨⟨ds', ρk⟩, hk, h⟩ := h
      dsimp only at h
      split at h
      · rename_i mt2 es hi2
        split at h
        · rename_i hmt
          have hmt : mt = mt2 := by simpa using hmt
          subst hmt
          simp only [Option.map_eq_some_iff] at h
          obtain ⟨⟨rr, es2⟩, hf, e⟩ := h
          cases e
          match xs, os with
          | x :: xr, ⟨ox, B1, sB, nB, rB, ot⟩ =>
            obtain ⟨F1, s1, rk, dp⟩ := keepL_ok rB ot hk
            have rk' := rk.less sB
            obtain ⟨p, vs0, a', m, b', c', e', f'⟩ := rk'.sl i _ hi2
            have ox : σ[i]? = some (some x) := ox
            rw [a'] at ox
            cases ox
            have sBc := bgAll_sm rk' (fun j => j ≠ i)
            have hBc : bgAll B σ H ρk (fun j => j ≠ i) p = none := by
              unfold bgAll
              rw [if_neg]
              · exact e'
              · rintro ⟨j, sl, h1, h2, h3, h4⟩
                exact rk'.ne j i sl _ h1 h2 hi2 h3 rfl (h4.trans a'.symm)
            refine ⟨by omega, bgAll B σ H ρk (fun j => j ≠ i), F1, p, xr, vs0, es, ds', rr, es2, rfl, bgAll_wf rk' _, b', c', hBc, f', dp, hf, fun v F' H' ws s2 w2 hp hfp dpw rv => ?_⟩
            refine q v F' H' (s1.trans s2) ?_ rv
            refine ⟨⟨w2.fz, fun p o e => w2.bg p o (sBc p o e), fun P hP => ?_⟩, by rw [List.length_set]; exact rk.len, fun j sl hj => ?_, fun j1 j2 t1 t2 hj h1 h2 o1 o2 => ?_⟩
            · obtain ⟨a, b, c⟩ := w2.tabs P hP
              exact ⟨a, b, (rk'.wf.tabs P hP).2.2⟩
            · rcases set_get_cases hj with ⟨rfl, rfl⟩ | ⟨hji, hj⟩
              · exact ⟨p, ws, a', m, hp, hfp, e', dpw⟩
              · have z := rk'.sl j sl hj
                cases sl with
                | u => trivial
                | v d => obtain ⟨y, a, b⟩ := z; exact ⟨y, a, Rp.mono s2 b⟩
                | o mt ds =>
                  obtain ⟨p2, vs2, a2, m2, b2, c2, e2, f2⟩ := z
                  have e3 := bgAll_at rk' (P := fun j => j ≠ i) hji hj rfl a2
                  obtain ⟨z1, z2⟩ := w2.bg p2 _ (e3.trans b2)
                  exact ⟨p2, vs2, a2, m2, z1, z2, e2, RpAll.mono s2 f2⟩
            · have own : ∀ (j : Nat) (sl : Sl), (ρk.set i (.o mt es2))[j]? = some sl → sl.own = true → ∃ s', ρk[j]? = some s' ∧ s'.own = true := fun j sl hs os => by
                rcases set_get_cases hs with ⟨rfl, rfl⟩ | ⟨hj, hs⟩
                · exact ⟨_, hi2, rfl⟩
                · exact ⟨sl, hs, os⟩
              obtain ⟨s1', x1, x2⟩ := own j1 t1 h1 o1
              obtain ⟨s2', x3, x4⟩ := own j2 t2 h2 o2
              exact rk.ne j1 j2 s1' s2' hj x1 x3 x2 x4
        · cases h
      · cases h
    · cases h
  · rename_i ds0 rest
    simp only [Option.bind_eq_some_iff, Option.map_eq_some_iff] at h
    obtain ⟨⟨ds', ρk⟩, hk, ⟨rr, es2⟩, hf, e⟩ := h
    cases e
    match xs, os with
    | x :: xr, ⟨ox, B1, sB, nB, rB, ot⟩ =>
      obtain ⟨p, vs0, rfl, hp, hfp, hbp, off, dp0⟩ := ox
      obtain ⟨F1, s1, rk, dp⟩ := keepL_ok rB ot hk
      have n1 := nB p ds0 rfl rfl
      obtain ⟨u, hu⟩ : ∃ u, B1 p = some u := by
        cases q : B1 p with
        | none => exact absurd q n1
        | some u => exact ⟨u, rfl⟩
      have e1 := (rB.wf.bg p u hu).1
      rw [hp] at e1
      cases e1
      have hF1 := (rk.wf.bg p _ hu).2
      have offk : ∀ (j : Nat) (s : Sl), ρk[j]? = some s → s.own = true → σ[j]? ≠ some (some (.ref p)) := fun j s e ho z => by
        have q := rk.sl j s e
        cases s with
        | u => cases ho
        | v d => cases ho
        | o mt ds =>
          obtain ⟨p', vs, a, _, b, _, c, _⟩ := q
          rw [a] at z; cases z; rw [hu] at c; cases c
      have rk' := rk.less sB
      have hBp : bgAll B σ H ρk (fun _ => True) p = none := by
        unfold bgAll
        rw [if_neg]
        · exact hbp
        · rintro ⟨j, sl, h1, h2, h3, h4⟩
          exact offk j sl h2 h3 h4
      have sBk := bgAll_sm rk' (fun _ => True)
      refine ⟨by omega, bgAll B σ H ρk (fun _ => True), F1, p, xr, vs0, ds0, ds', rr, es2, rfl, bgAll_wf rk' _, hp, hF1, hBp, RpAll.mono s1 dp0, dp, hf, fun v F' H' ws s2 w2 _ _ _ rv => ?_⟩
      refine q v F' H' (s1.trans s2) ?_ rv
      refine ⟨⟨w2.fz, fun p o e => w2.bg p o (sBk p o e), fun P hP => ?_⟩, rk.len, fun i sl hi => ?_, rk.ne⟩
      · obtain ⟨a, b, c⟩ := w2.tabs P hP
        exact ⟨a, b, (rk'.wf.tabs P hP).2.2⟩
      · have z := rk'.sl i sl hi
        cases sl with
        | u => trivial
        | v d => obtain ⟨y, a, b⟩ := z; exact ⟨y, a, Rp.mono s2 b⟩
        | o mt ds =>
          obtain ⟨p2, vs2, a2, m2, b2, c2, e2, f2⟩ := z
          have e3 := bgAll_at rk' (P := fun _ => True) trivial hi rfl a2
          obtain ⟨z1, z2⟩ := w2.bg p2 _ (e3.trans b2)
          exact ⟨p2, vs2, a2, m2, z1, z2, e2, RpAll.mono s2 f2⟩
  · cases h
theorem callM_ok {n : Nat} {f : List D → Option (List D)} {res : Op} (r : Rel X.K tb pa B F σ H ρ) {xs : List V} (os : OpRs X.K tb pa F H σ ρ B xs ops) (hl : ops.length = n) (h : callM f ops ρ = some (res, ρ1)) {Q : VK}
    (q : ∀ x F' H', Sm F F' → Rel X.K tb pa B F' σ H' ρ1 → OpR X.K B F' H' σ ρ1 x res → Q x H') : SpM X.K tb n f xs H Q E0 := by
  have hlx := OpRs.length os
  unfold callM at h
  simp only [Option.bind_eq_some_iff, Option.map_eq_some_iff] at h
  obtain ⟨⟨ds', ρk⟩, hk, rr, hf, e⟩ := h
  cases e
  obtain ⟨F1, s1, rk, dp⟩ := keepL_ok r os hk
  have sB := bgAll_sm rk (fun _ => True)
  refine ⟨by omega, bgAll B σ H ρk (fun _ => True), F1, ds', rr, bgAll_wf rk _, dp, hf, fun p ws F' H' s2 w2 hp hfp hbp rv => ?_⟩
  have own : ∀ (i : Nat) (sl : Sl), ρk[i]? = some sl → SlOk X.K pa B F' σ H' i sl := fun i sl hi => by
    have z := rk.sl i sl hi
    cases sl with
    | u => trivial
    | v d => obtain ⟨y, a, b⟩ := z; exact ⟨y, a, Rp.mono s2 b⟩
    | o mt ds =>
      obtain ⟨p, vs, a', m, b', c', e', f'⟩ := z
      have e2 := bgAll_at rk (P := fun _ => True) trivial hi rfl a'
      obtain ⟨z1, z2⟩ := w2.bg p _ (e2.trans b')
      exact ⟨p, vs, a', m, z1, z2, e', RpAll.mono s2 f'⟩
  refine q (.ref p) F' H' (s1.trans s2) ⟨⟨w2.fz, fun p o e => w2.bg p o (sB p o e), fun P hP => ?_⟩, rk.len, own, rk.ne⟩ ⟨p, ws, rfl, hp, hfp, sm_none sB hbp, fun j s hs ho hσ => ?_, rv⟩
  · obtain ⟨a, b, c⟩ := w2.tabs P hP
    exact ⟨a, b, (rk.wf.tabs P hP).2.2⟩
  · have e2 := bgAll_at rk (P := fun _ => True) trivial hs ho hσ
    rw [hbp] at e2
    have z := rk.sl j s hs
    cases s with
    | u => cases ho
    | v d => cases ho
    | o mt ds =>
      obtain ⟨p', vs, a', m, b', c', e', f'⟩ := z
      rw [a'] at hσ
      cases hσ
      rw [b'] at e2
      cases e2
theorem callF_ok {fs : FS} {res : Op} (r : Rel X.K tb pa B F σ H ρ) {xs : List V} (os : OpRs X.K tb pa F H σ ρ B xs ops) (h : callF fs ops ρ = some (res, ρ1)) {Q : VK}
    (q : ∀ x F' H', Sm F F' → Rel X.K tb pa B F' σ H' ρ1 → OpR X.K B F' H' σ ρ1 x res → Q x H') : SpOf X.K tb fs xs H Q E0 := by
  unfold callF at h
  cases fs with
  | p n f =>
    dsimp only at h
    split at h
    · rename_i hn
      exact callP_ok r os (by simpa using hn) h q
    · cases h
  | w n f =>
    dsimp only at h
    split at h
    · rename_i hn
      exact callW_ok r os (by simpa using hn) h q
    · cases h
  | m n f =>
    dsimp only at h
    split at h
    · rename_i hn
      exact callM_ok r os (by simpa using hn) h q
    · cases h
theorem se_call {x : Str} {fs : FS} {P : Pos} {res : Op} (o : XOk T tb k s X) (hg : glB s.sc x = true) (hk : okN x = true) (hf : T.fs x = some fs) (hn : ∀ e' ∈ es, noStar e' = true) (ha : SA tb X es ρ ops ρ1) (h0 : es = [] → ops = [] ∧ ρ1 = ρ) (h : callF fs ops ρ1 = some (res, ρ2)) :
    SE tb X (.Call (.Name x P) es [] pos) ρ res ρ2 := by
  intro pa B F σ H r Q q
  cases es with
  | nil =>
    obtain ⟨rfl, rfl⟩ := h0 rfl
    exact we_call0 o hg hk (o.fns x fs hf) (callF_ok (xs := []) (ops := []) r (by trivial) h q)
  | cons e es =>
    refine we_call o hg hk (o.fns x fs hf) hn (ha pa B F σ H r _ fun xs F' H' s' r' os => ?_)
    exact callF_ok r' os h fun y F2 H2 s2 r2 o2 => q y F2 H2 (s'.trans s2) r2 o2
end
end Ev

set_option maxHeartbeats 4000000
namespace Ev
open PySem PySem.Spec PyProof.Rows L2

section
variable {T : Tb} {tb : List Addr} {k : Nat} {s : Sc} {X : Cx} {a b c e : Expr} {es : List Expr} {ρ ρ1 ρ2 ρ3 : En} {oa ob oc op res : Op} {ops : List Op} {ds : List D} {pa : Nat → Addr} {B F H : Hp} {σ : St} {pos : Pos} {r1 r2 : Bool}

/-! ### built-in functions -/
theorem bi_mg (o : XOk T tb k s X) {x : Str} (h : x ∈ bnames) : X.mg x = none := o.blt x h
/-- a built-in function by its rule -/
theorem se_biB {x : Str} {id : String} {rr : List V → Hp → VK → Prop} {P : Pos} (o : XOk T tb k s X) (hx : X.mg x = none) (hc : CallR X (.builtin id) rr) (hv : bootBuiltins x = some (.builtin id)) (hg : glB s.sc x = true) (hk : okN x = true) (hn : ∀ e' ∈ e :: es, noStar e' = true)
    (ha : SA tb X (e :: es) ρ ops ρ1) (hd : viewL ρ1 ops = some ds)
    (h : ∀ pa B F σ H xs, Rel X.K tb pa B F σ H ρ1 → VwAll X.K F H xs ds → ∀ Q : VK, (∀ v F' H', Sm F F' → Rel X.K tb pa B F' σ H' ρ1 → OpR X.K B F' H' σ ρ1 v res → Q v H') → rr xs H Q) : SE tb X (.Call (.Name x P) (e :: es) [] pos) ρ res ρ1 := by
  intro pa B F σ H r Q q
  obtain ⟨h1, _, h3⟩ := okN_ok hk
  refine we_of (pe_callB hc (glB_ok o hg) hx hv (pa_wa X (e :: es)) h3 h1 (noStar_eq (hn e List.mem_cons_self) _ _) (noStar_any _ _ fun e' he => hn e' (List.mem_cons_of_mem _ he))) ?_
  refine ha pa B F σ H r _ fun xs F' H' s' r' os => ?_
  exact h pa B F' σ H' xs r' (viewL_ok r' os hd) Q fun v F2 H2 s2 r2 o2 => q v F2 H2 (s'.trans s2) r2 o2
theorem se_biT {x : Str} {id : String} {rr : List V → Hp → VK → Prop} {P : Pos} (o : XOk T tb k s X) (hx : X.mg x = none) (hc : CallR X (.type id) rr) (hv : bootBuiltins x = some (.type id)) (hg : glB s.sc x = true) (hk : okN x = true) (hn : ∀ e' ∈ e :: es, noStar e' = true)
    (ha : SA tb X (e :: es) ρ ops ρ1) (hd : viewL ρ1 ops = some ds)
    (h : ∀ pa B F σ H xs, Rel X.K tb pa B F σ H ρ1 → VwAll X.K F H xs ds → ∀ Q : VK, (∀ v F' H', Sm F F' → Rel X.K tb pa B F' σ H' ρ1 → OpR X.K B F' H' σ ρ1 v res → Q v H') → rr xs H Q) : SE tb X (.Call (.Name x P) (e :: es) [] pos) ρ res ρ1 := by
  intro pa B F σ H r Q q
  obtain ⟨h1, _, h3⟩ := okN_ok hk
  refine we_of (pe_callTy hc (glB_ok o hg) hx hv (pa_wa X (e :: es)) h3 h1 (noStar_eq (hn e List.mem_cons_self) _ _) (noStar_any _ _ fun e' he => hn e' (List.mem_cons_of_mem _ he))) ?_
  refine ha pa B F σ H r _ fun xs F' H' s' r' os => ?_
  exact h pa B F' σ H' xs r' (viewL_ok r' os hd) Q fun v F2 H2 s2 r2 o2 => q v F2 H2 (s'.trans s2) r2 o2
theorem VwAll.one {K : PySem.W.Frag} {F H : Hp} {xs : List V} {d : D} (h : VwAll K F H xs [d]) : ∃ x, xs = [x] ∧ Vw K F H x d := by
  cases h with
  | cons a r => cases r; exact ⟨_, rfl, a⟩
theorem VwAll.two {K : PySem.W.Frag} {F H : Hp} {xs : List V} {d e : D} (h : VwAll K F H xs [d, e]) : ∃ x y, xs = [x, y] ∧ Vw K F H x d ∧ Vw K F H y e := by
  cases h with
  | cons a r =>
    cases r with
    | cons b r => cases r; exact ⟨_, _, rfl, a, b⟩
theorem boot_abs : bootBuiltins "abs" = some (.builtin "abs") := by decide +kernel
theorem boot_max : bootBuiltins "max" = some (.builtin "max") := by decide +kernel
theorem boot_min : bootBuiltins "min" = some (.builtin "min") := by decide +kernel
theorem boot_divmod : bootBuiltins "divmod" = some (.builtin "divmod") := by decide +kernel
theorem boot_len : bootBuiltins "len" = some (.builtin "len") := by decide +kernel
theorem boot_sum : bootBuiltins "sum" = some (.builtin "sum") := by decide +kernel
theorem boot_int : bootBuiltins "int" = some (.type "int") := by decide +kernel
theorem boot_tuple : bootBuiltins "tuple" = some (.type "tuple") := by decide +kernel
theorem boot_list : bootBuiltins "list" = some (.type "list") := by decide +kernel
theorem boot_repr : bootBuiltins "repr" = some (.builtin "repr") := by decide +kernel
theorem boot_isi : bootBuiltins "isinstance" = some (.builtin "isinstance") := by decide +kernel
theorem boot_sorted : bootBuiltins "sorted" = some (.builtin "sorted") := by decide +kernel
theorem boot_all : bootBuiltins "all" = some (.builtin "all") := by decide +kernel
theorem boot_any : bootBuiltins "any" = some (.builtin "any") := by decide +kernel
theorem boolsD_ok {K : PySem.W.Frag} {F : Hp} : ∀ {xs : List V} {ds : List D} {ns : List Bool}, RpAll K F xs ds → boolsD ds = some ns → xs = ns.map V.bl
  | _, _, ns, .nil, e => by cases e; rfl
  | _, _, ns, .cons a r, e => by
    cases a with
    | bl i =>
      simp only [boolsD, Option.map_eq_some_iff] at e
      obtain ⟨m, e1, rfl⟩ := e
      rw [boolsD_ok r e1]; rfl
    | _ => cases e
theorem intsD_ok {K : PySem.W.Frag} {F : Hp} : ∀ {xs : List V} {ds : List D} {ns : List Int}, RpAll K F xs ds → intsD ds = some ns → xs = ns.map V.int
  | _, _, ns, .nil, e => by cases e; rfl
  | _, _, ns, .cons a r, e => by
    cases a with
    | int i =>
      simp only [intsD, Option.map_eq_some_iff] at e
      obtain ⟨m, e1, rfl⟩ := e
      rw [intsD_ok r e1]; rfl
    | _ => cases e
/-- repr(x) of data -/
def rReprD (K : PySem.W.Frag) : List V → Hp → VK → Prop := fun xs H Q => ∃ (x : V) (d : PyData), xs = [x] ∧ Dp K H x d ∧ reprOk d = true ∧ Q (.str d.shown) H
theorem call_reprD (hu : X.A.units + 100 < cLine) (hg : X.A.guards = some []) : CallR X (.builtin "repr") (rReprD X.K) := by
  intro pins s σ H xs us Q I r h
  obtain ⟨x, d, rfl, hd, ho, q⟩ := h
  obtain ⟨u, rfl, rx⟩ := vals1 r
  simp only [reprOk, Bool.and_eq_true, Bool.not_eq_true', decide_eq_true_eq] at ho
  obtain ⟨⟨⟨h1, h2⟩, h3⟩, h4⟩ := ho
  have hs : d.shown.length ≤ sizeLine := by omega
  have far : ∀ a, Dp X.K H x d → RelV x (.ref a) → wpAny (model X.prog X.w) X.A (call (.builtin "repr") [.ref a]) (EP X pins σ Q) X.xe s := fun a hd ra => by
    obtain ⟨as, rd⟩ := Dp.reads I d x _ hd ra
    refine PySem.repr_of_reads' rd h1 (PyData.noDict_hsm h2) hg (by omega) (fun b o e => e) (fun h' u tk hk => ?_) hs
    exact ⟨.str d.shown, H, I.kept hk, ⟨_, rfl⟩, q⟩
  cases hd with
  | non =>
    cases rx
    exact PySem.P.repr_of_none ⟨.str _, H, I.tok _, ⟨_, rfl⟩, by rw [← PyData.shown_none]; exact q⟩
  | bl b =>
    cases rx
    refine PySem.P.repr_of_bool ⟨.str (PyData.bool b).shown, H, I.tok _, ?_, q⟩
    cases b <;> exact ⟨_, rfl⟩
  | int i =>
    obtain ⟨t, rfl⟩ := rx
    refine PySem.P.repr_of_int ?_ ⟨.str (PyData.int i).shown, H, I.tok _, ⟨_, rfl⟩, q⟩
    simpa [PyData.showable] using h1
  | str y =>
    obtain ⟨t, rfl⟩ := rx
    refine PySem.P.repr_of_str ⟨.str (PyData.str y).shown, H, I.tok _, ⟨_, rfl⟩, q⟩ hs
  | lst a b =>
    cases rx
    exact far _ (.lst a b) rfl
  | tup a b =>
    cases rx
    exact far _ (.tup a b) rfl
end
end Ev

set_option maxHeartbeats 4000000
namespace Ev
open PySem PySem.Spec PyProof.Rows L2

section
variable {T : Tb} {tb : List Addr} {k : Nat} {s : Sc} {X : Cx} {a b c e : Expr} {es : List Expr} {ρ ρ1 ρ2 ρ3 : En} {oa ob oc op res : Op} {ops : List Op} {ds : List D} {pa : Nat → Addr} {B F H : Hp} {σ : St} {pos : Pos} {r1 r2 : Bool}

theorem viewL_len : ∀ {ops : List Op} {ds : List D}, viewL ρ ops = some ds → ops.length = ds.length
  | [], ds, h => by cases h; rfl
  | o :: os, ds, h => by
    simp only [viewL, Option.bind_eq_some_iff, Option.map_eq_some_iff] at h
    obtain ⟨d, _, ds', e2, rfl⟩ := h
    rw [List.length_cons, List.length_cons, viewL_len e2]
theorem rpInts {K : PySem.W.Frag} {F : Hp} : ∀ ns : List Int, RpAll K F (ns.map V.int) (ns.map .int)
  | [] => .nil
  | n :: ns => .cons (.int n) (rpInts ns)
def biNames : List String := ["len", "abs", "int", "max", "min", "divmod", "tuple", "list", "sum", "sorted", "all", "any", "repr"]
/-- built-in functions of data -/
theorem se_bi (o : XOk T tb k s X) {f : String} {P : Pos} (hg : glB s.sc (Str.ofString f) = true) (hk : okN (Str.ofString f) = true) (hn : ∀ e' ∈ es, noStar e' = true) (h0 : es = [] → ops = [])
    (ha : SA tb X es ρ ops ρ1) (hd : viewL ρ1 ops = some ds) (h : biD f ds = some res) : SE tb X (.Call (.Name (Str.ofString f) P) es [] pos) ρ res ρ1 := by
  cases es with
  | nil =>
    rw [h0 rfl] at hd
    cases hd
    unfold biD at h
    split at h <;> first | (rename_i q; cases q) | cases h
  | cons e es =>
    have hc := o.calm
    unfold biD at h
    split at h
    · cases h
      refine se_biB o (o.blt _ (by decide)) call_len_seq boot_len hg hk hn ha hd fun pa B F σ H xs r va Q q => ?_
      obtain ⟨x, rfl, v⟩ := va.one
      obtain ⟨p, vs, rfl, a1, b1⟩ := v.lstE
      refine ⟨p, vs, rfl, .inl (.inl a1), ?_⟩
      rw [RpAll.length b1]
      exact q _ F H (Sm.refl _) r (.int _)
    · cases h
      refine se_biB o (o.blt _ (by decide)) call_len_seq boot_len hg hk hn ha hd fun pa B F σ H xs r va Q q => ?_
      obtain ⟨x, rfl, v⟩ := va.one
      obtain ⟨p, vs, rfl, a1, b1⟩ := v.tupE
      refine ⟨p, vs, rfl, .inr (SqT.mono r.wf.fz a1), ?_⟩
      rw [RpAll.length b1]
      exact q _ F H (Sm.refl _) r (.int _)
    · cases h
      refine se_biB o (o.blt _ (by decide)) call_abs boot_abs hg hk hn ha hd fun pa B F σ H xs r va Q q => ?_
      obtain ⟨x, rfl, v⟩ := va.one
      rw [v.intE]
      exact ⟨_, rfl, q _ F H (Sm.refl _) r (.int _)⟩
    · cases h
      refine se_biT o (o.blt _ (by decide)) call_int1 boot_int hg hk hn ha hd fun pa B F σ H xs r va Q q => ?_
      obtain ⟨x, rfl, v⟩ := va.one
      rw [v.intE]
      exact .inl ⟨_, rfl, q _ F H (Sm.refl _) r (.int _)⟩
    · cases h
      refine se_biT o (o.blt _ (by decide)) call_int1 boot_int hg hk hn ha hd fun pa B F σ H xs r va Q q => ?_
      obtain ⟨x, rfl, v⟩ := va.one
      cases v
      exact .inr ⟨_, rfl, q _ F H (Sm.refl _) r (.int _)⟩
    · cases h
      refine se_biB o (o.blt _ (by decide)) (call_max2 hc) boot_max hg hk hn ha hd fun pa B F σ H xs r va Q q => ?_
      obtain ⟨x, y, rfl, v, w⟩ := va.two
      rw [v.intE, w.intE]
      exact ⟨_, _, rfl, q _ F H (Sm.refl _) r (.int _)⟩
    · cases h
      refine se_biB o (o.blt _ (by decide)) (call_min2 hc) boot_min hg hk hn ha hd fun pa B F σ H xs r va Q q => ?_
      obtain ⟨x, y, rfl, v, w⟩ := va.two
      rw [v.intE, w.intE]
      exact ⟨_, _, rfl, q _ F H (Sm.refl _) r (.int _)⟩
    · split at h
      · rename_i hj
        cases h
        refine se_biB o (o.blt _ (by decide)) call_divmod boot_divmod hg hk hn ha hd fun pa B F σ H xs r va Q q => ?_
        obtain ⟨x, y, rfl, v, w⟩ := va.two
        rw [v.intE, w.intE]
        have hj' := of_decide_eq_true hj
        refine ⟨_, _, rfl, hj', fun p hp => ?_⟩
        obtain ⟨F', s', r', o'⟩ := newT_ok r (RpAll.cons (Rp.int _) (RpAll.cons (Rp.int _) RpAll.nil)) hp
        exact q _ F' _ s' r' o'
      · cases h
    · cases h
      refine se_biT o (o.blt _ (by decide)) call_tuple_of boot_tuple hg hk hn ha hd fun pa B F σ H xs r va Q q => ?_
      obtain ⟨x, rfl, v⟩ := va.one
      obtain ⟨p, vs, rfl, a1, b1⟩ := v.lstE
      refine ⟨p, vs, rfl, .inl ⟨.inl a1, fun l hl => ?_⟩⟩
      obtain ⟨F', s', r', o'⟩ := newT_ok r b1 hl
      exact q _ F' _ s' r' o'
    · cases h
      refine se_biT o (o.blt _ (by decide)) call_tuple_of boot_tuple hg hk hn ha hd fun pa B F σ H xs r va Q q => ?_
      obtain ⟨x, rfl, v⟩ := va.one
      obtain ⟨p, vs, rfl, a1, b1⟩ := v.tupE
      exact ⟨p, vs, rfl, .inr ⟨SqT.mono r.wf.fz a1, q _ F H (Sm.refl _) r (show Rp X.K F _ _ from .tup a1 b1)⟩⟩
    · cases h
      refine se_biT o (o.blt _ (by decide)) call_list_of boot_list hg hk hn ha hd fun pa B F σ H xs r va Q q => ?_
      obtain ⟨x, rfl, v⟩ := va.one
      obtain ⟨p, vs, rfl, a1, b1⟩ := v.lstE
      refine ⟨p, vs, rfl, .inl (.inl a1), fun l hl => ?_⟩
      obtain ⟨r', o'⟩ := new_ok r b1 hl
      exact q _ F _ (Sm.refl _) r' o'
    · cases h
      refine se_biT o (o.blt _ (by decide)) call_list_of boot_list hg hk hn ha hd fun pa B F σ H xs r va Q q => ?_
      obtain ⟨x, rfl, v⟩ := va.one
      obtain ⟨p, vs, rfl, a1, b1⟩ := v.tupE
      refine ⟨p, vs, rfl, .inr (SqT.mono r.wf.fz a1), fun l hl => ?_⟩
      obtain ⟨r', o'⟩ := new_ok r b1 hl
      exact q _ F _ (Sm.refl _) r' o'
    · simp only [Option.map_eq_some_iff] at h
      obtain ⟨ns, h1, e1⟩ := h
      cases e1
      refine se_biB o (o.blt _ (by decide)) (cr_sum hc) boot_sum hg hk hn ha hd fun pa B F σ H xs r va Q q => ?_
      obtain ⟨x, rfl, v⟩ := va.one
      obtain ⟨p, vs, rfl, a1, b1⟩ := v.lstE
      rw [intsD_ok b1 h1] at a1
      exact ⟨p, ns, rfl, .inl a1, q _ F H (Sm.refl _) r (.int _)⟩
    · simp only [Option.map_eq_some_iff] at h
      obtain ⟨ns, h1, e1⟩ := h
      cases e1
      refine se_biB o (o.blt _ (by decide)) (cr_sumT hc) boot_sum hg hk hn ha hd fun pa B F σ H xs r va Q q => ?_
      obtain ⟨x, rfl, v⟩ := va.one
      obtain ⟨p, vs, rfl, a1, b1⟩ := v.tupE
      rw [intsD_ok b1 h1] at a1
      exact ⟨p, ns, rfl, SqT.mono r.wf.fz a1, q _ F H (Sm.refl _) r (.int _)⟩
    · simp only [Option.map_eq_some_iff] at h
      obtain ⟨ns, h1, e1⟩ := h
      cases e1
      refine se_biB o (o.blt _ (by decide)) cr_sortedLT boot_sorted hg hk hn ha hd fun pa B F σ H xs r va Q q => ?_
      obtain ⟨x, rfl, v⟩ := va.one
      obtain ⟨p, vs, rfl, a1, b1⟩ := v.lstE
      rw [intsD_ok b1 h1] at a1
      refine ⟨p, ns, rfl, .inl (.inl a1), fun l hl => ?_⟩
      obtain ⟨r', o'⟩ := new_ok r (rpInts (sortI ns)) hl
      exact q _ F _ (Sm.refl _) r' o'
    · simp only [Option.map_eq_some_iff] at h
      obtain ⟨ns, h1, e1⟩ := h
      cases e1
      refine se_biB o (o.blt _ (by decide)) cr_sortedLT boot_sorted hg hk hn ha hd fun pa B F σ H xs r va Q q => ?_
      obtain ⟨x, rfl, v⟩ := va.one
      obtain ⟨p, vs, rfl, a1, b1⟩ := v.tupE
      rw [intsD_ok b1 h1] at a1
      refine ⟨p, ns, rfl, .inr (SqT.mono r.wf.fz a1), fun l hl => ?_⟩
      obtain ⟨r', o'⟩ := new_ok r (rpInts (sortI ns)) hl
      exact q _ F _ (Sm.refl _) r' o'
    · simp only [Option.map_eq_some_iff] at h
      obtain ⟨bs, h1, e1⟩ := h
      cases e1
      refine se_biB o (o.blt _ (by decide)) (cr_all hc) boot_all hg hk hn ha hd fun pa B F σ H xs r va Q q => ?_
      obtain ⟨x, rfl, v⟩ := va.one
      obtain ⟨p, vs, rfl, a1, b1⟩ := v.lstE
      rw [boolsD_ok b1 h1] at a1
      exact ⟨p, bs, rfl, .inl a1, q _ F H (Sm.refl _) r (.bl _)⟩
    · simp only [Option.map_eq_some_iff] at h
      obtain ⟨bs, h1, e1⟩ := h
      cases e1
      refine se_biB o (o.blt _ (by decide)) (cr_any hc) boot_any hg hk hn ha hd fun pa B F σ H xs r va Q q => ?_
      obtain ⟨x, rfl, v⟩ := va.one
      obtain ⟨p, vs, rfl, a1, b1⟩ := v.lstE
      rw [boolsD_ok b1 h1] at a1
      exact ⟨p, bs, rfl, .inl a1, q _ F H (Sm.refl _) r (.bl _)⟩
    · simp only [Option.bind_eq_some_iff, Option.map_eq_some_iff] at h
      obtain ⟨ns, h1, m, h2, e1⟩ := h
      cases e1
      refine se_biB o (o.blt _ (by decide)) (cr_min hc) boot_min hg hk hn ha hd fun pa B F σ H xs r va Q q => ?_
      obtain ⟨x, rfl, v⟩ := va.one
      obtain ⟨p, vs, rfl, a1, b1⟩ := v.lstE
      rw [intsD_ok b1 h1] at a1
      have h3 := List.min?_eq_some_iff.mp h2
      refine ⟨p, ns, rfl, .inl a1, List.length_pos_of_mem h3.1, fun m' hm' hle => ?_⟩
      have : m' = m := Int.le_antisymm (hle m h3.1) (h3.2 m' hm')
      rw [this]
      exact q _ F H (Sm.refl _) r (.int _)
    · simp only [Option.bind_eq_some_iff, Option.map_eq_some_iff] at h
      obtain ⟨ns, h1, m, h2, e1⟩ := h
      cases e1
      refine se_biB o (o.blt _ (by decide)) (cr_max hc) boot_max hg hk hn ha hd fun pa B F σ H xs r va Q q => ?_
      obtain ⟨x, rfl, v⟩ := va.one
      obtain ⟨p, vs, rfl, a1, b1⟩ := v.lstE
      rw [intsD_ok b1 h1] at a1
      have h3 := List.max?_eq_some_iff.mp h2
      refine ⟨p, ns, rfl, .inl a1, List.length_pos_of_mem h3.1, fun m' hm' hle => ?_⟩
      have : m' = m := Int.le_antisymm (h3.2 m' hm') (hle m h3.1)
      rw [this]
      exact q _ F H (Sm.refl _) r (.int _)
    · split at h
      · rename_i hj
        cases h
        have hu := o.room.un
        refine se_biB o (o.blt _ (by decide)) (call_reprD (by omega) o.grd) boot_repr hg hk hn ha hd fun pa B F σ H xs r va Q q => ?_
        obtain ⟨x, rfl, v⟩ := va.one
        exact ⟨x, _, rfl, (v.rp r.wf.fz).dp, hj, q _ F H (Sm.refl _) r (.str _)⟩
      · cases h
    · cases h

/-! ### isinstance -/
theorem tyx_ok {K : PySem.W.Frag} {x : V} {d : D} (v : Vw K F H x d) (m : Sm F H) : TyX K H x (.type (tyD d)) := by
  cases v with
  | non => exact .base .non
  | bl b => exact .base (.bl b)
  | int i => exact .base (.int i)
  | str y => exact .base (.str y)
  | lst h _ =>
    rcases h with h | ⟨o, h⟩
    · exact .base (.lst h)
    · exact .base (.frz h)
  | tup h _ =>
    rcases h with h | ⟨o, its, n, h1, h2, _⟩
    · rcases h with h | ⟨o, h⟩
      · exact .base (.tup (m _ _ h))
      · exact .fTuple (m _ _ h)
    · exact .kTuple h1 h2
theorem boot_ty {t : String} (h : t ∈ tyNames) : bootBuiltins (Str.ofString t) = some (.type t) ∧ Str.ofString t ∈ bnames := by
  simp only [tyNames, List.mem_cons, List.not_mem_nil, or_false] at h
  rcases h with rfl | rfl | rfl | rfl | rfl | rfl | rfl <;> exact ⟨by decide +kernel, by decide⟩
theorem se_isi (o : XOk T tb k s X) {t : String} {P P2 : Pos} {d : D} {r : Bool} (ht : t ∈ tyNames) (hg : glB s.sc (Str.ofString "isinstance") = true) (hg2 : glB s.sc (Str.ofString t) = true) (hk2 : okN (Str.ofString t) = true) (hn : noStar a = true)
    (ha : SE tb X a ρ oa ρ1) (hd : viewOp ρ1 oa = some d) (h : kitB (tyD d) t = some r) : SE tb X (.Call (.Name (Str.ofString "isinstance") P) [a, .Name (Str.ofString t) P2] [] pos) ρ (.val (.bool r)) ρ1 := by
  intro pa B F σ H rr Q q
  obtain ⟨b1, b2⟩ := boot_ty ht
  obtain ⟨h1, h2, h3⟩ := okN_ok hk2
  refine we_of (pe_callB call_isi (glB_ok o hg) (o.blt _ (by decide)) boot_isi (pa_cons (pe_we X a) (pa_cons (pe_bltn (glB_ok o hg2) (o.blt _ b2) b1 (show RelV (V.ty t) (.type t) from rfl) h3 h1) pa_nil (noStar_eq rfl _ _)) (noStar_eq hn _ _)) (by decide) (by decide) (noStar_eq hn _ _) (noStar_any _ _ fun e' he => by
    rcases List.mem_cons.mp he with rfl | he
    · rfl
    · cases he)) ?_
  refine ha.use rr hd fun x F' H' s' r' v => ?_
  exact ⟨x, .ty t, _, _, r, rfl, .ty t, tyx_ok v r'.wf.fz, kit_ty h, q _ F' H' s' r' (.bl _)⟩
end
end Ev

set_option maxHeartbeats 4000000
namespace Ev
open PySem PySem.Spec PyProof.Rows L2

/-! ### calls with keywords -/
def WK (X : Cx) (kws : List Keyword) : TA := fun σ H Q => ∀ (pos : Pos) (pins : List (Addr × Obj)) (s : Shared), Inv X pins σ H s → wpAny (model X.prog X.w) X.A (evalAll ((backToKw pos (keywordEach kws X.env)).map (·.2))) (AP X pins σ Q) X.xe s
section
variable {T : Tb} {tb : List Addr} {k : Nat} {s : Sc} {X : Cx} {a b c e : Expr} {es : List Expr} {ρ ρ1 ρ2 ρ3 : En} {oa ob oc op res : Op} {ops : List Op} {ds : List D} {d : D} {pa : Nat → Addr} {B F H : Hp} {σ : St} {pos : Pos} {r1 r2 : Bool}
theorem pk_wk (X : Cx) (kws : List Keyword) : PK X kws (WK X kws) := ⟨fun pos pins s σ H Q I h => h pos pins s I⟩
theorem wk_of {kws : List Keyword} {t : TA} {Q : List V → Hp → Prop} (h : PK X kws t) (q : t σ H Q) : WK X kws σ H Q := fun pos pins s I => h.run pos pins s σ H Q I q
/-- expressions in a row -/
inductive SEs (tb : List Addr) (X : Cx) : List Expr → En → List Op → En → Prop
  | nil {ρ : En} : SEs tb X [] ρ [] ρ
  | cons {e : Expr} {es : List Expr} {ρ ρ1 ρ2 : En} {o : Op} {os : List Op} : noStar e = true → SE tb X e ρ o ρ1 → SEs tb X es ρ1 os ρ2 → SEs tb X (e :: es) ρ (o :: os) ρ2
theorem sk_of : ∀ {kws : List Keyword} {ρ ρ' : En} {ops : List Op}, SEs tb X (kws.map (·.value)) ρ ops ρ' → ∀ pa B F σ H, Rel X.K tb pa B F σ H ρ → ∀ Q : List V → Hp → Prop, (∀ xs F' H', Sm F F' → Rel X.K tb pa B F' σ H' ρ' → OpRs X.K tb pa F' H' σ ρ' B xs ops → Q xs H') → WK X kws σ H Q
  | [], ρ, ρ', ops, h => by
    cases h
    exact fun pa B F σ H r Q q => wk_of pk_nil (q [] F H (Sm.refl _) r trivial)
  | ⟨nm, e, kp⟩ :: kws, ρ, ρ', ops, h => by
    cases h with
    | cons hn h1 h2 =>
      intro pa B F σ H r Q q
      refine wk_of (pk_cons (pe_we X e) (pk_wk X kws)) (h1 pa B F σ H r _ fun x F1 H1 s1 r1 o1 => ?_)
      obtain ⟨B1, sB, nB, rB⟩ := OpR.hold1 r1 o1
      refine sk_of h2 pa B1 F1 σ H1 rB _ fun xs F2 H2 s2 r2 os => ?_
      exact q (x :: xs) F2 H2 (s1.trans s2) (r2.less sB) ⟨o1.back nB sB rB s2 r2, B1, sB, nB, r2, os⟩
theorem sak_of : ∀ {es : List Expr} {kws : List Keyword} {ρ ρ' : En} {ops : List Op}, SEs tb X (es ++ kws.map (·.value)) ρ ops ρ' → ∀ pa B F σ H, Rel X.K tb pa B F σ H ρ → ∀ Q : List V → List V → Hp → Prop, (∀ xs zs F' H', xs.length = es.length → zs.length = kws.length → Sm F F' → Rel X.K tb pa B F' σ H' ρ' → OpRs X.K tb pa F' H' σ ρ' B (xs ++ zs) ops → Q xs zs H') →
    WA X es σ H fun xs H1 => WK X kws σ H1 fun zs H2 => Q xs zs H2
  | [], kws, ρ, ρ', ops, h => by
    intro pa B F σ H r Q q
    refine wa_of pa_nil (sk_of h pa B F σ H r _ fun zs F' H' s' r' os => ?_)
    have hl : zs.length = kws.length := by
      have h1 := OpRs.length os
      have h2 : ∀ {es : List Expr} {ρ ρ' : En} {ops : List Op}, SEs tb X es ρ ops ρ' → ops.length = es.length := by
        intro es ρ ρ' ops h
        induction h with
        | nil => rfl
        | cons _ _ _ ih => rw [List.length_cons, List.length_cons, ih]
      rw [h1, h2 h]; simp
    exact q [] zs F' H' rfl hl s' r' os
  | e :: es, kws, ρ, ρ', ops, h => by
    rw [List.cons_append] at h
    cases h with
    | cons hn h1 h2 =>
      intro pa B F σ H r Q q
      refine wa_of (pa_cons (pe_we X e) (pa_wa X es) (noStar_eq hn _ _)) (h1 pa B F σ H r _ fun x F1 H1 s1 r1 o1 => ?_)
      obtain ⟨B1, sB, nB, rB⟩ := OpR.hold1 r1 o1
      refine sak_of h2 pa B1 F1 σ H1 rB (fun xs zs H2 => Q (x :: xs) zs H2) fun xs zs F2 H2 l1 l2 s2 r2 os => ?_
      exact q (x :: xs) zs F2 H2 (by rw [List.length_cons, List.length_cons, l1]) l2 (s1.trans s2) (r2.less sB) ⟨o1.back nB sB rB s2 r2, B1, sB, nB, r2, os⟩
theorem permL_rp {K : PySem.W.Frag} {F : Hp} {xs : List V} {ds : List D} (h : RpAll K F xs ds) : ∀ pm : List Nat, RpAll K F (permL pm xs) (permL pm ds)
  | [] => .nil
  | i :: pm => by
    have ih := permL_rp h pm
    unfold permL at ih ⊢
    rw [List.filterMap_cons, List.filterMap_cons]
    cases hd : ds[i]? with
    | none =>
      have : xs[i]? = none := by
        rw [List.getElem?_eq_none_iff] at hd ⊢
        rw [RpAll.length h]; exact hd
      rw [this]
      exact ih
    | some d =>
      obtain ⟨x, e1, e2⟩ := RpAll.get h hd
      rw [e1]
      exact .cons e2 ih
theorem permL_vals {xs : List V} {us : List Value} (h : Vals xs us) : ∀ pm : List Nat, Vals (permL pm xs) (permL pm us)
  | [] => .nil
  | i :: pm => by
    have ih := permL_vals h pm
    unfold permL at ih ⊢
    rw [List.filterMap_cons, List.filterMap_cons]
    cases hd : xs[i]? with
    | none =>
      have : us[i]? = none := by
        rw [List.getElem?_eq_none_iff] at hd ⊢
        rw [← h.length]; exact hd
      rw [this]
      exact ih
    | some x =>
      obtain ⟨u, e1, e2⟩ := h.get hd
      rw [e1]
      exact .cons e2 ih
theorem rp_ops : ∀ {xs : List V} {ds : List D} {B : Hp}, Rel X.K tb pa B F σ H ρ → RpAll X.K F xs ds → OpRs X.K tb pa F H σ ρ B xs (ds.map .val)
  | _, _, _, r, .nil => trivial
  | _, _, _, r, .cons a rr => ⟨a, _, Sm.refl _, (fun p ds e _ => by cases e), r, rp_ops r rr⟩
theorem runGK {k : Nat} {f : Addr} {fd : FuncData} {ps ks : List Str} {sp : Sp} {n : Nat} {pm : List Nat} {pins : List (Addr × Obj)} {s : Shared} {Q : VK} {us ws : List Value} {vs zs : List V} (F : FnG X.prog X.w X.K X.mg X.base k f fd ps sp) (hg : X.A.guards = some []) (hr : Room k X.A) (hb : KB X.K fd ps n ks pm)
    (I : Inv X pins σ H s) (r : Vals vs us) (rz : Vals zs ws) (hl : vs.length = n) (hlz : zs.length = ks.length) (h : sp (permL pm (vs ++ zs)) H Q E0) : wpAny (model X.prog X.w) X.A (call (.ref f) us (ks.zip ws)) (EP X pins σ Q) X.xe s := by
  have hbb := hb s us ws I.kIn (by rw [← r.length]; exact hl) (by rw [← rz.length]; exact hlz)
  refine wpAny_call (codeAny_mono (F.run X.A X.stack s H ⟨us, ks.zip ws⟩ (permL pm (us ++ ws)) (permL pm (vs ++ zs)) Q E0 hg hr I.env0 hbb (permL_vals (r.append rz) pm) h) fun res s' hq => ?_)
  match res, hq with
  | .ok (.ret u), hq => exact I.after hq
  | .error e, hq => exact False.elim hq
theorem kw_facts : ∀ {kws : List Keyword} {ks : List Str} (pos : Pos) (env : Env), kws.map (·.arg) = ks.map some → (backToKw pos (keywordEach kws env)).all (·.1.isSome) = true ∧ (backToKw pos (keywordEach kws env)).filterMap (·.1) = ks ∧ (backToKw pos (keywordEach kws env)).any (·.1.isNone) = false
  | [], [], pos, env, h => ⟨rfl, rfl, rfl⟩
  | [], _ :: _, pos, env, h => by cases h
  | ⟨a, v, p⟩ :: kws, [], pos, env, h => by cases h
  | ⟨a, v, p⟩ :: kws, x :: ks, pos, env, h => by
    rw [List.map_cons, List.map_cons] at h
    injection h with h1 h2
    obtain ⟨q1, q2, q3⟩ := kw_facts pos env h2
    cases h1
    unfold backToKw at q1 q2 q3 ⊢
    refine ⟨?_, ?_, ?_⟩
    · show ((some x).isSome && _) = true
      rw [q1]; rfl
    · show x :: _ = x :: ks
      rw [q2]
    · show ((some x).isNone || _) = false
      rw [q3]; rfl
theorem se_calk {x : Str} {fs : FS} {P : Pos} {kws : List Keyword} {ks : List Str} {n : Nat} {pm : List Nat} (o : XOk T tb k s X) (hg : glB s.sc x = true) (hk : okN x = true) (hks : T.ks x n ks = some pm) (hf : T.fs x = some fs) (hn : ∀ e' ∈ es, noStar e' = true) (hl : es.length = n) (hkw : kws.map (·.arg) = ks.map some)
    (ha : SEs tb X (es ++ kws.map (·.value)) ρ ops ρ1) (hkp : keepL ρ1 ops = some (ds, ρ2)) (h : callF fs ((permL pm ds).map .val) ρ2 = some (res, ρ3)) :
    SE tb X (.Call (.Name x P) es kws pos) ρ res ρ3 := by
  intro pa B F σ H r Q q pins s0 I
  obtain ⟨h1, _, _⟩ := okN_ok hk
  obtain ⟨f, fd, ps, hF, hm, hkpn, hb⟩ := (o.kws x n ks pm fs hks hf).ex
  obtain ⟨k1, k2, k3⟩ := kw_facts pos X.env hkw
  have hkl : ks.length = kws.length := by
    have := congrArg List.length hkw
    simpa using this.symm
  have body : WA X es σ H fun xs H1 => WK X kws σ H1 fun zs H2 => xs.length = n ∧ zs.length = ks.length ∧ SpOf X.K tb fs (permL pm (xs ++ zs)) H2 Q E0 := by
    refine sak_of ha pa B F σ H r _ fun xs zs F1 H1 l1 l2 s1 r1 os => ⟨l1.trans hl, l2.trans hkl.symm, ?_⟩
    obtain ⟨F2, s2, r2, dp⟩ := keepL_ok r1 os hkp
    exact callF_ok r2 (rp_ops r2 (permL_rp dp pm)) h fun y F3 H3 s3 r3 o3 => q y F3 H3 ((s1.trans s2).trans s3) r3 o3
  refine wpAny_Call_Name_kw (ld_glob I (glB_ok o hg) hm ?_ h1)
  have body := body pos pins s0 I
  have hend : ∀ {vs : List V} {H1 : Hp} {us : List Value} {s1 : Shared}, Inv X pins σ H1 s1 → Vals vs us → (WK X kws σ H1 fun zs H2 => vs.length = n ∧ zs.length = ks.length ∧ SpOf X.K tb fs (permL pm (vs ++ zs)) H2 Q E0) →
      wpAny (model X.prog X.w) X.A (evalAll ((backToKw pos (keywordEach kws X.env)).map (·.2))) (fun ws s₂ => X.K.In s₂.heap ∧ wpAny (model X.prog X.w) X.A (call (.ref f) ([] ++ us) (((backToKw pos (keywordEach kws X.env)).filterMap (·.1)).zip ws)) (EP X pins σ Q) X.xe s₂) X.xe s1 := fun {vs H1 us s1} I1 rv hw => by
    refine thn (hw pos pins s1 I1) fun ws s2 ⟨zs, H2, I2, rz, l1, l2, q2⟩ => ⟨I2.kIn, ?_⟩
    rw [k2]
    exact runGK hF o.grd o.room hb I2 rv rz l1 l2 q2
  cases es with
  | nil =>
    refine PySem.W.callWith_KW0 (h₀ := X.base) I.ok.mod.kin hkpn k1 ?_ (by rw [k3]; rfl)
    refine hend I .nil ?_
    intro pos' pins' s' I'
    have b2 : WA X [] σ H fun xs H1 => WK X kws σ H1 fun zs H2 => xs.length = n ∧ zs.length = ks.length ∧ SpOf X.K tb fs (permL pm (xs ++ zs)) H2 Q E0 := by
      refine sak_of ha pa B F σ H r _ fun xs zs F1 H1 l1 l2 s1 r1 os => ⟨l1.trans hl, l2.trans hkl.symm, ?_⟩
      obtain ⟨F2, s2, r2, dp⟩ := keepL_ok r1 os hkp
      exact callF_ok r2 (rp_ops r2 (permL_rp dp pm)) h fun y F3 H3 s3 r3 o3 => q y F3 H3 ((s1.trans s2).trans s3) r3 o3
    have b3 := sk_of ha pa B F σ H r (fun zs H2 => ([] : List V).length = n ∧ zs.length = ks.length ∧ SpOf X.K tb fs (permL pm ([] ++ zs)) H2 Q E0) fun zs F1 H1 s1 r1 os => by
      have l2 : zs.length = kws.length := by
        have z1 := OpRs.length os
        have z2 : ∀ {es : List Expr} {ρ ρ' : En} {ops : List Op}, SEs tb X es ρ ops ρ' → ops.length = es.length := by
          intro es ρ ρ' ops h
          induction h with
          | nil => rfl
          | cons _ _ _ ih => rw [List.length_cons, List.length_cons, ih]
        rw [z1, z2 ha]; simp
      refine ⟨hl, l2.trans hkl.symm, ?_⟩
      obtain ⟨F2, s2, r2, dp⟩ := keepL_ok r1 os hkp
      exact callF_ok r2 (rp_ops r2 (permL_rp dp pm)) h fun y F3 H3 s3 r3 o3 => q y F3 H3 ((s1.trans s2).trans s3) r3 o3
    exact b3 pos' pins' s' I'
  | cons e es =>
    have hst := noStar_eq (hn e List.mem_cons_self) es X.env
    have hpl := noStar_any X.env pos fun e' he => hn e' (List.mem_cons_of_mem _ he)
    refine PySem.W.callWith_KW (h₀ := X.base) I.ok.mod.kin hkpn k1 (thn body fun us s1 ⟨vs, H1, I1, rv, hw⟩ => hend I1 rv hw) ?_ hst
    rw [k3, hst]
    show ((false || (backTo pos (starEach es X.env)).any (·.1)) || false) = false
    rw [hpl]; rfl
end
end Ev

set_option maxHeartbeats 4000000
namespace Ev
open PySem PySem.Spec PyProof.Rows L2

/-! ### wiping -/
section
variable {K : PySem.W.Frag} {tb : List Addr} {pa : Nat → Addr} {B B1 F F' : Hp} {σ σ' : St} {H H' : Hp} {ρ ρ' ρ0 ρ1 : En} {x : V} {op : Op} {d : D} {ds : List D} {i : Nat} {p : Addr}
theorem wipeE_length (ρ : En) : ∀ vs : List Nat, (wipeE ρ vs).length = ρ.length
  | [] => rfl
  | v :: vs => by unfold wipeE; rw [List.length_set, wipeE_length ρ vs]
theorem wipeE_out : ∀ {vs : List Nat}, i ∉ vs → (wipeE ρ vs)[i]? = ρ[i]?
  | [], _ => rfl
  | v :: vs, h => by
    simp only [List.mem_cons, not_or] at h
    unfold wipeE
    rw [List.getElem?_set_ne (fun e => h.1 e.symm), wipeE_out h.2]
theorem wipe_out : ∀ {vs : List Nat}, i ∉ vs → (wipe σ vs)[i]? = σ[i]?
  | [], _ => rfl
  | v :: vs, h => by
    simp only [List.mem_cons, not_or] at h
    unfold wipe
    rw [List.getElem?_set_ne (fun e => h.1 e.symm), wipe_out h.2]
theorem wipeE_in {s : Sl} : ∀ {vs : List Nat}, i ∈ vs → (wipeE ρ vs)[i]? = some s → s = .u
  | [], h, _ => by cases h
  | v :: vs, h, e => by
    unfold wipeE at e
    rcases set_get_cases e with ⟨_, z⟩ | ⟨hi, z⟩
    · exact z
    · rcases List.mem_cons.mp h with q | q
      · exact absurd q hi
      · exact wipeE_in q z
theorem wipe_set {v : Option V} : ∀ {vs : List Nat}, i ∈ vs → wipe (σ.set i v) vs = wipe σ vs
  | [], h => by cases h
  | w :: vs, h => by
    unfold wipe
    by_cases hi : i ∈ vs
    · rw [wipe_set hi]
    · rcases List.mem_cons.mp h with q | q
      · subst q
        have : ∀ {us : List Nat}, i ∉ us → wipe (σ.set i v) us = (wipe σ us).set i v := by
          intro us hu
          induction us with
          | nil => rfl
          | cons u us ih =>
            simp only [List.mem_cons, not_or] at hu
            unfold wipe
            rw [ih hu.2, List.set_comm _ _ hu.1]
        rw [this hi, List.set_set]
      · exact absurd q hi
theorem Rel.drop (r : Rel K tb pa B F σ H ρ) (i : Nat) : Rel K tb pa B F (σ.set i none) H (ρ.set i .u) := by
  refine ⟨r.wf, by rw [List.length_set, List.length_set]; exact r.len, fun j t ht => ?_, fun j k s t hjk hs ht os ot => ?_⟩
  · rcases set_get_cases ht with ⟨rfl, rfl⟩ | ⟨hj, ht⟩
    · trivial
    · have q := r.sl j t ht
      cases t with
      | u => trivial
      | v d' => obtain ⟨y, a, b⟩ := q; exact ⟨y, by rw [List.getElem?_set_ne (Ne.symm hj)]; exact a, b⟩
      | o mt ds => obtain ⟨p, vs, a, b⟩ := q; exact ⟨p, vs, by rw [List.getElem?_set_ne (Ne.symm hj)]; exact a, b⟩
  · rcases set_get_cases hs with ⟨rfl, rfl⟩ | ⟨hj, hs⟩
    · cases os
    · rcases set_get_cases ht with ⟨rfl, rfl⟩ | ⟨hk, ht⟩
      · cases ot
      · rw [List.getElem?_set_ne (Ne.symm hj), List.getElem?_set_ne (Ne.symm hk)]
        exact r.ne j k s t hjk hs ht os ot
theorem Rel.wipe (r : Rel K tb pa B F σ H ρ) : ∀ vs : List Nat, Rel K tb pa B F (wipe σ vs) H (wipeE ρ vs)
  | [] => r
  | v :: vs => (Rel.wipe r vs).drop v
theorem backE_length (ρ ρ' : En) : ∀ vs : List Nat, (backE ρ ρ' vs).length = ρ'.length
  | [] => rfl
  | v :: vs => by unfold backE; rw [List.length_set, backE_length ρ ρ' vs]
theorem backE_out : ∀ {vs : List Nat}, i ∉ vs → (backE ρ0 ρ1 vs)[i]? = ρ1[i]?
  | [], _ => rfl
  | v :: vs, h => by
    simp only [List.mem_cons, not_or] at h
    unfold backE
    rw [List.getElem?_set_ne (fun e => h.1 e.symm), backE_out h.2]
theorem backE_in {s : Sl} : ∀ {vs : List Nat}, i ∈ vs → (backE ρ0 ρ1 vs)[i]? = some s → s = .u ∨ ∃ d, ρ0[i]? = some (.v d) ∧ s = .v d
  | [], h, _ => by cases h
  | v :: vs, h, e => by
    unfold backE at e
    rcases set_get_cases e with ⟨z1, z⟩ | ⟨hi, z⟩
    · subst z1
      split at z
      · rename_i d hd
        exact .inr ⟨d, hd, z⟩
      · exact .inl z
    · rcases List.mem_cons.mp h with q | q
      · exact absurd q hi
      · exact backE_in q z
theorem Rel.back {F0 H0 : Hp} {vs : List Nat} (r0 : Rel K tb pa B F0 σ H0 ρ0) (m : Sm F0 F) (r : Rel K tb pa B F (L2.wipe σ vs) H (wipeE ρ1 vs)) : Rel K tb pa B F σ H (backE ρ0 ρ1 vs) := by
  have own : ∀ (j : Nat) (s : Sl), (backE ρ0 ρ1 vs)[j]? = some s → s.own = true → j ∉ vs ∧ (wipeE ρ1 vs)[j]? = some s := fun j s hs os => by
    by_cases hj : j ∈ vs
    · rcases backE_in hj hs with rfl | ⟨d, _, rfl⟩ <;> cases os
    · exact ⟨hj, by rw [wipeE_out hj, ← backE_out (ρ0 := ρ0) hj]; exact hs⟩
  refine ⟨r.wf, ?_, fun j t ht => ?_, fun j k s t hjk hs ht os ot => ?_⟩
  · have := r.len
    rw [wipe_length, wipeE_length] at this
    rw [backE_length]; exact this
  · by_cases hj : j ∈ vs
    · rcases backE_in hj ht with rfl | ⟨d, hd, rfl⟩
      · trivial
      · obtain ⟨y, a, b⟩ := r0.sl j _ hd
        exact ⟨y, a, Rp.mono m b⟩
    · have q := r.sl j t (by rw [wipeE_out hj, ← backE_out (ρ0 := ρ0) hj]; exact ht)
      cases t with
      | u => trivial
      | v d => obtain ⟨y, a, b⟩ := q; exact ⟨y, by rw [wipe_out hj] at a; exact a, b⟩
      | o mt ds => obtain ⟨p, ws, a, b⟩ := q; exact ⟨p, ws, by rw [wipe_out hj] at a; exact a, b⟩
  · obtain ⟨h1, h2⟩ := own j s hs os
    obtain ⟨h3, h4⟩ := own k t ht ot
    have := r.ne j k s t hjk h2 h4 os ot
    rw [wipe_out h1, wipe_out h3] at this
    exact this
/-- a free list beside the slots is written -/
theorem Rel.writeFree (r : Rel K tb pa B F σ H ρ) {vs ws : List V} (hp : H p = some (.lst vs)) (hf : F p = none) (hb : B p = none) (off : Off σ ρ p) : Rel K tb pa B F σ (upd H p (.lst ws)) ρ :=
  ⟨r.wf.write hp hf hb, r.len, fun i s e => (r.sl i s e).same (Sm.refl _) fun q w z => ⟨fun u y => by
    rw [upd_ne]; exact y
    rintro rfl; exact off i s e w z, fun y => y⟩, r.ne⟩
theorem Rel.off_bg (r : Rel K tb pa B F σ H ρ) {o : HO} (h : B p = some o) : Off σ ρ p := fun j s e ho z => by
  have q := r.sl j s e
  cases s with
  | u => cases ho
  | v d => cases ho
  | o mt ds =>
    obtain ⟨p', vs, a, _, b, _, c, _⟩ := q
    rw [a] at z; cases z; rw [h] at c; cases c
end

/-! ### what is walked -/
def Yld (K : PySem.W.Frag) (F H H' : Hp) (x : V) (d : D) : Prop :=
  (H' = H ∧ Rp K F x d) ∨ ∃ p vs ds', x = .ref p ∧ H p = none ∧ H' = upd H p (.tup vs) ∧ d = .tuple ds' ∧ RpAll K F vs ds'
structure Wk (K : PySem.W.Frag) (F : Hp) (J : It) (ds : List D) : Prop where
  go : ∀ i H, Sm F H → i < ds.length → J.go i H
  stop : ∀ i H, Sm F H → ds.length ≤ i → J.stop i H
  yld : ∀ i H x H' d, Sm F H → ds[i]? = some d → J.yld i H x H' → Yld K F H H' x d
def WI (X : Cx) (tg iter : Expr) : TI := fun σ H R => ∀ (pins : List (Addr × Obj)) (s : Shared), Inv X pins σ H s → wpAny (model X.prog X.w) X.A (eval iter X.env) (fun v s1 => wpAny (model X.prog X.w) X.A (pyIter v) (PIE X pins σ tg R) X.xe s1) X.xe s
theorem pi_wi (X : Cx) (tg iter : Expr) : PI X tg iter (WI X tg iter) := ⟨fun pins s σ H R I h => h pins s I⟩
theorem wi_of {X : Cx} {tg iter : Expr} {wi : TI} {σ : St} {H : Hp} {R : It → Hp → Prop} (h : PI X tg iter wi) (q : wi σ H R) : WI X tg iter σ H R := fun pins s I => h.run pins s σ H R I q
def WTs (X : Cx) (ifs : List Expr) : TT := fun σ H Q => ∀ (pins : List (Addr × Obj)) (s : Shared), Inv X pins σ H s → wpAny (model X.prog X.w) X.A (forIn ifs true fun c r => if r = true then do let ok ← isTrue c X.env (eval c X.env); pure (ForInStep.yield ok) else pure (ForInStep.yield r)) (TP X pins σ Q) X.xe s
theorem pts_wts (X : Cx) (ifs : List Expr) : PTs X ifs (WTs X ifs) := ⟨fun pins s σ H Q I h => h pins s I⟩
theorem wts_of {X : Cx} {ifs : List Expr} {t : TT} {σ : St} {H : Hp} {Q : Bool → Hp → Prop} (h : PTs X ifs t) (q : t σ H Q) : WTs X ifs σ H Q := fun pins s I => h.run pins s σ H Q I q
section
variable (tb : List Addr) (X : Cx)
def SI (tg iter : Expr) (ρ : En) (ds : List D) (ρ' : En) : Prop := ∀ pa B F σ H, Rel X.K tb pa B F σ H ρ → ∀ R : It → Hp → Prop, (∀ J F' H', Sm F F' → Rel X.K tb pa B F' σ H' ρ' → Wk X.K F' J ds → R J H') → WI X tg iter σ H R
def SG (tg : Expr) (ix : List Nat) (ρ : En) (d : D) (ρ' : En) : Prop := ∀ pa B F σ H x, Rel X.K tb pa B F σ H ρ → Rp X.K F x d → ∀ Q : St → Hp → Prop, (∀ σ', Rel X.K tb pa B F σ' H ρ' → (∀ vs : List Nat, (∀ i ∈ ix, i ∈ vs) → wipe σ' vs = wipe σ vs) → Q σ' H) → WG X tg x σ H Q
def STs (ifs : List Expr) (ρ : En) (b : Bool) (ρ' : En) : Prop := ∀ pa B F σ H, Rel X.K tb pa B F σ H ρ → ∀ Q : Bool → Hp → Prop, (∀ F' H', Sm F F' → Rel X.K tb pa B F' σ H' ρ' → Q b H') → WTs X ifs σ H Q
end
section
variable {T : Tb} {tb : List Addr} {k : Nat} {s : Sc} {X : Cx} {a b c e : Expr} {es : List Expr} {ρ ρ1 ρ2 ρ3 : En} {oa ob oc op res : Op} {ops : List Op} {ds : List D} {pa : Nat → Addr} {B F H : Hp} {σ : St} {pos : Pos} {r1 r2 : Bool}
theorem Yld.ok {K : PySem.W.Frag} {H' : Hp} {x : V} {d : D} (y : Yld K F H H' x d) (r : Rel K tb pa B F σ H ρ) : ∃ F', Sm F F' ∧ Sm H H' ∧ Rel K tb pa B F' σ H' ρ ∧ Rp K F' x d := by
  rcases y with ⟨rfl, h⟩ | ⟨p, vs, ds', rfl, hp, rfl, rfl, h⟩
  · exact ⟨F, Sm.refl _, Sm.refl _, r, h⟩
  · obtain ⟨a, b⟩ := r.wf.none hp
    exact ⟨upd F p (.tup vs), Sm.upd a, Sm.upd hp, (r.laid hp (.tup vs)).freeze upd_same (fun ps z => by cases z) a b (r.off_none hp), .tup (SqT.of upd_same) (RpAll.mono (Sm.upd a) h)⟩
theorem evComp_len {f : D → En → Option (Option D × En)} : ∀ {xs acc : List D} {ρ : En} {r : List D × En}, evComp f xs acc ρ = some r → acc.length ≤ r.1.length
  | [], acc, ρ, r, h => by cases h; exact Nat.le_refl _
  | x :: xs, acc, ρ, r, h => by
    simp only [evComp] at h
    split at h
    · have := evComp_len h
      rw [List.length_append] at this
      simp only [List.length_cons, List.length_nil] at this
      omega
    · exact evComp_len h
    · cases h
def gB (X : Cx) (scope : Scope) (tg : Expr) : TG := fun v σ H Q => ∀ s H0 C cl fp, WG (X.blk s H0 scope (compEnvC scope cl C X.env) fp) tg v σ H Q
def ttB (X : Cx) (scope : Scope) (ifs : List Expr) : TT := fun σ H Q => ∀ s H0 C cl fp, WTs (X.blk s H0 scope (compEnvC scope cl C X.env) fp) ifs σ H Q
def teB (X : Cx) (scope : Scope) (elt : Expr) : TE := fun σ H Q => ∀ s H0 C cl fp, WE (X.blk s H0 scope (compEnvC scope cl C X.env) fp) elt σ H Q
theorem pg_gB (X : Cx) (scope : Scope) (tg : Expr) (s : Shared) (H : Hp) (C : Addr) (cl : List (Str × Addr)) (fp : List Addr) : PG (X.blk s H scope (compEnvC scope cl C X.env) fp) tg (gB X scope tg) := ⟨fun pins s' σ H v u Q I r h => h s _ C cl fp pins s' u I r⟩
theorem pts_ttB (X : Cx) (scope : Scope) (ifs : List Expr) (s : Shared) (H : Hp) (C : Addr) (cl : List (Str × Addr)) (fp : List Addr) : PTs (X.blk s H scope (compEnvC scope cl C X.env) fp) ifs (ttB X scope ifs) := ⟨fun pins s' σ H Q I h => h s _ C cl fp pins s' I⟩
theorem pe_teB (X : Cx) (scope : Scope) (elt : Expr) (s : Shared) (H : Hp) (C : Addr) (cl : List (Str × Addr)) (fp : List Addr) : PE (X.blk s H scope (compEnvC scope cl C X.env) fp) elt (teB X scope elt) := ⟨fun pins s' σ H Q I h => h s _ C cl fp pins s' I⟩
def SLc (tb : List Addr) (X : Cx) (elt tg iter : Expr) (ifs : List Expr) (scope : Scope) (vs : List Nat) (ρ : En) (out : List D) (ρ' : En) : Prop := ∀ pa B F σ H, Rel X.K tb pa B F σ H ρ → ∀ Q : VK, (∀ x F' H', Sm F F' → Rel X.K tb pa B F' σ H' ρ' → OpR X.K B F' H' σ ρ' x (.new out) → Q x H') →
  tLc (WI X tg iter) (gB X scope tg) (ttB X scope ifs) (teB X scope elt) vs σ H Q
/-- [e for t in it if c] -/
theorem lc_ok (o : XOk T tb k s X) {elt tg iter : Expr} {ifs : List Expr} {scope : Scope} {own : List (Str × Nat)} {ix : List Nat} {f : D → En → Option (Option D × En)} {out : List D} {ρn : En}
    (hi : SI tb X tg iter ρ ds ρ1) (hix : ∀ i ∈ ix, i ∈ own.map (·.2))
    (hb : ∀ x ρa q, f x ρa = some q → ∃ ρ2 b ρ3, (∀ s H C cl fp, SG tb (X.blk s H scope (compEnvC scope cl C X.env) fp) tg ix (wipeE ρa (own.map (·.2))) x ρ2) ∧ (∀ s H C cl fp, STs tb (X.blk s H scope (compEnvC scope cl C X.env) fp) ifs ρ2 b ρ3) ∧
      ((b = false ∧ q = (none, ρ3)) ∨ (b = true ∧ ∃ op ρ4 d ρb, (∀ s H C cl fp, SE tb (X.blk s H scope (compEnvC scope cl C X.env) fp) elt ρ3 op ρ4) ∧ keepOp ρ4 op = some (d, ρb) ∧ q = (some d, ρb))))
    (h : evComp f ds [] ρ1 = some (out, ρn)) (hl : lenOk out.length = true) :
    SLc tb X elt tg iter ifs scope (own.map (·.2)) ρ out (backE ρ1 ρn (own.map (·.2))) := by
  obtain ⟨vs, hvs⟩ : ∃ vs, vs = own.map (·.2) := ⟨_, rfl⟩
  rw [← hvs] at hb hix
  intro pa B F σ H r Q q
  rw [← hvs] at q ⊢
  refine hi pa B F σ H r _ fun J F1 H1 s1 r1 wk D hD => ?_
  obtain ⟨hF1, hB⟩ := r1.wf.none hD
  refine ⟨fun i m H => m = ds.length - i ∧ ∃ F ρa accV accD, Sm F1 F ∧ H D = some (.lst accV) ∧ F D = none ∧ RpAll X.K F accV accD ∧ Rel X.K tb pa B F (wipe σ vs) H (wipeE ρa vs) ∧ Off (wipe σ vs) (wipeE ρa vs) D ∧ evComp f (ds.drop i) accD ρa = some (out, ρn), ⟨_, rfl, F1, ρ1, [], [], Sm.refl _, upd_same, hF1, .nil, (r1.laid hD _).wipe vs, (r1.wipe vs).off_none hD, h⟩, ?_⟩
  rintro i m H2 ⟨rfl, F2, ρa, accV, accD, s2, hD2, hF2, dp, r2, off, ev⟩
  by_cases hi2 : i < ds.length
  · have m2 : Sm F1 H2 := s2.trans r2.wf.fz
    refine .inr ⟨wk.go i H2 m2 hi2, fun H' => ∃ F ρa accV accD, Sm F1 F ∧ H' D = some (.lst accV) ∧ F D = none ∧ RpAll X.K F accV accD ∧ Rel X.K tb pa B F (wipe σ vs) H' (wipeE ρa vs) ∧ Off (wipe σ vs) (wipeE ρa vs) D ∧ evComp f (ds.drop (i + 1)) accD ρa = some (out, ρn), fun H' z => ⟨ds.length - (i + 1), by omega, rfl, z⟩, fun x H3 hy => ?_⟩
    have hd : ds[i]? = some ds[i] := List.getElem?_eq_getElem hi2
    rw [List.drop_eq_getElem_cons hi2] at ev
    simp only [evComp] at ev
    have r2' := r2.more hD2 (fun ps z => by cases z) hF2 off
    obtain ⟨F3, s3, sH3, r3, dx⟩ := Yld.ok (tb := tb) (F := F2) (H := H2) (by
      rcases wk.yld i H2 x H3 _ m2 hd hy with ⟨a, b⟩ | ⟨p, ws, ds', a, b, c, e, g⟩
      · exact .inl ⟨a, Rp.mono s2 b⟩
      · exact .inr ⟨p, ws, ds', a, b, c, e, RpAll.mono s2 g⟩) r2'
    cases hq : f ds[i] ρa with
    | none => rw [hq] at ev; cases ev
    | some qq =>
      rw [hq] at ev
      obtain ⟨ρ2, b, ρ3, h1, h2, h3⟩ := hb _ _ _ hq
      intro s0 H0 C cl fp
      refine h1 s0 H0 C cl fp pa _ F3 _ H3 x r3 dx _ fun σ2 r4 hw => ?_
      have hw : wipe σ2 vs = wipe σ vs := by
        rw [hw vs hix]
        have : ∀ us : List Nat, (∀ i ∈ us, i ∈ vs) → wipe (wipe σ us) vs = wipe σ vs := by
          intro us hu
          induction us with
          | nil => rfl
          | cons u us ih =>
            show wipe ((wipe σ us).set u none) vs = _
            rw [wipe_set (hu u List.mem_cons_self)]
            exact ih fun i hi => hu i (List.mem_cons_of_mem _ hi)
        exact this vs fun i hi => hi
      refine ⟨hw, fun s0 H0 C cl fp => ?_⟩
      refine h2 s0 H0 C cl fp pa _ F3 σ2 H3 r4 _ fun F4 H4 s4 r5 => ?_
      have fin : ∀ {F5 : Hp} {H5 : Hp} {ρb : En}, Sm F4 F5 → Rel X.K tb pa (upd B D (.lst accV)) F5 σ2 H5 ρb → H5 D = some (.lst accV) ∧ F5 D = none ∧ Rel X.K tb pa B F5 (wipe σ vs) H5 (wipeE ρb vs) ∧ Off (wipe σ vs) (wipeE ρb vs) D := fun {F5 H5 ρb} s5 r6 => by
        have r7 := r6.wipe vs
        rw [hw] at r7
        obtain ⟨z1, z2⟩ := r7.wf.bg D _ upd_same
        exact ⟨z1, z2, r7.less (Sm.upd hB), r7.off_bg upd_same⟩
      rcases h3 with ⟨rfl, rfl⟩ | ⟨rfl, op, ρ4, d, ρb, h4, h5, rfl⟩
      · rw [if_neg Bool.false_ne_true]
        obtain ⟨z1, z2, z3, z4⟩ := fin (Sm.refl _) r5
        exact ⟨F4, ρ3, accV, accD, (s2.trans s3).trans s4, z1, z2, RpAll.mono (s3.trans s4) dp, z3, z4, ev⟩
      · rw [if_pos rfl]
        intro s0 H0 C cl fp
        refine h4 s0 H0 C cl fp pa _ F4 σ2 H4 r5 _ fun y F5 H5 s5 r6 oy => ?_
        obtain ⟨F6, s6, r7, dy⟩ := keep_ok r6 oy h5
        obtain ⟨z1, z2, z3, z4⟩ := fin (s5.trans s6) r7
        have hlen := evComp_len ev
        rw [List.length_append] at hlen
        simp only [List.length_cons, List.length_nil] at hlen
        have hl' : out.length ≤ sizeLine := of_decide_eq_true hl
        have hacc := RpAll.length dp
        have sA : Sm F2 F6 := ((s3.trans s4).trans s5).trans s6
        refine ⟨accV, z1, by omega, F6, ρb, accV ++ [y], accD ++ [d], s2.trans sA, upd_same, z2, RpAll.append (RpAll.mono sA dp) (.cons dy .nil), z3.writeFree z1 z2 hB z4, z4, ev⟩
  · have hdr : ds.drop i = [] := List.drop_eq_nil_of_le (by omega)
    rw [hdr] at ev
    cases ev
    refine .inl ⟨wk.stop i H2 (s2.trans r2.wf.fz) (by omega), ?_⟩
    have r3 := Rel.back r1 s2 r2
    refine q (.ref D) F2 H2 (s1.trans s2) r3 ⟨D, accV, rfl, hD2, hF2, hB, fun j s hs os z => ?_, dp⟩
    by_cases hj : j ∈ vs
    · rcases backE_in hj hs with rfl | ⟨d, _, rfl⟩ <;> cases os
    · rw [backE_out hj] at hs
      exact off j s (by rw [wipeE_out hj]; exact hs) os (by rw [wipe_out hj]; exact z)
theorem se_lc (o : XOk T tb k s X) {elt tg iter : Expr} {ifs : List Expr} {scope : Scope} {own : List (Str × Nat)} {out : List D} (ok : BlkOk X.N X.env.scope scope own) (hfold : ∀ x, foldedSetIterable iter X.env x = pure x)
    (h : SLc tb X elt tg iter ifs scope (own.map (·.2)) ρ out ρ2) : SE tb X (.ListComp elt [⟨tg, iter, ifs, 0⟩] scope pos) ρ (.new out) ρ2 := by
  intro pa B F σ H r Q q
  exact we_of (pe_lc o.calm o.nd (pi_wi X tg iter) ok (pg_gB X scope tg) (pts_ttB X scope ifs) (pe_teB X scope elt) hfold) (h pa B F σ H r Q q)
end
end Ev

set_option maxHeartbeats 2000000
/-! zip of three tuples; zip(*w), w of three tuples -/
namespace Z3
open PySem
abbrev Trip (h : Heap) (T : Addr) (p q r : Value) : Prop := h.get? T = some { cls := .type "tuple", data := .seq #[p, q, r] }
section
variable {prog : Program} {w : World} {A : Around} {E : Value → Shared → Prop} {s : Shared}
theorem upd3 {T : Addr} {p q r x : Value} {k : Nat} {Q : Unit → Shared → Prop} (hT : Trip s.heap T p q r)
    (hq : ∀ g, g.get? T = some { cls := .type "tuple", data := .seq ((#[p, q, r] : Array Value).setIfInBounds k x) } → Heap.SameBut T s.heap g → Q () { s with heap := g }) : wpAny (model prog w) A (updateSeq T (·.setIfInBounds k x)) Q E s := by
  refine wpAny_updateSeq hT rfl (hq _ (by rw [Heap.get?_update_self _ hT rfl]; simp [Obj.mapSeq]) (Heap.SameBut.update ..))
/-- the zip at n + 5, its iterators at n, n + 1, n + 2, the tuple of them at n + 3, its own tuple at n + 4 -/
structure St (n l1 l2 l3 k : Nat) (f : Value) (h : Heap) : Prop where
  z : IsZip h (n + 5) (n + 3) (n + 4) f
  i : Trip h (n + 3) (.ref n) (.ref (n + 1)) (.ref (n + 2))
  o : ∃ p q r, Trip h (n + 4) p q r
  a : h.IsTupleIter n l1 k
  b : h.IsTupleIter (n + 1) l2 k
  c : h.IsTupleIter (n + 2) l3 k
def Out (n : Nat) (h h' : Heap) : Prop := ∀ c o, c ≠ n + 5 → c ≠ n + 4 → c ≠ n → c ≠ n + 1 → c ≠ n + 2 → h.get? c = some o → h'.get? c = some o
theorem item {n l1 l2 l3 k : Nat} {xs ys zs : Array Value} {x y u : Value} {Q : Value → Shared → Prop} (q1 : l1 < n) (q2 : l2 < n) (q3 : l3 < n) (st : St n l1 l2 l3 k .none s.heap)
    (hl1 : s.heap.IsTuple l1 xs) (hl2 : s.heap.IsTuple l2 ys) (hl3 : s.heap.IsTuple l3 zs) (hx : xs[k]? = some x) (hy : ys[k]? = some y) (hu : zs[k]? = some u)
    (hQ : ∀ h', St n l1 l2 l3 (k + 1) (rawInt s.heap.objs.size) h' → Trip h' s.heap.objs.size x y u → h'.objs.size = s.heap.objs.size + 1 → Out n s.heap h' → Q (.ref s.heap.objs.size) { s with heap := h' }) :
    wpAny (model prog w) A (Builtin.«zip.__next__» ⟨[.ref (n + 5)], []⟩) (fun fin s' => ∃ v, fin = .done (.ret v) ∧ Q v s') E s := by
  obtain ⟨hz, hI, ⟨p, q, r, hO⟩, h1, h2, h3⟩ := st
  show wpAny _ _ (field (.ref (n + 5)) 2 >>= _) _ _ _
  refine wpAny_bind (wpAny_field hz rfl (x := Value.bool false) rfl ?_)
  show wpAny _ _ (field (.ref (n + 5)) 3 >>= _) _ _ _
  refine wpAny_bind (wpAny_field hz rfl (x := Value.ref (n + 3)) rfl (wpAny_bind (wpAny_seqItems hI rfl ?_)))
  show wpAny _ _ (Builtin.SmallTypes.ownedTupleIsFree (.ref (n + 5)) >>= _) _ _ _
  refine wpAny_bind ?_
  unfold Builtin.SmallTypes.ownedTupleIsFree
  refine wpAny_bind (wpAny_field hz rfl (x := Value.none) rfl (wpAny_pure ?_))
  simp only [if_true]
  refine wpAny_bind (wpAny_rule (wpAny_bind (wpAny_field hz rfl (x := Value.ref (n + 4)) rfl (wpAny_bind (wpAny_setField_rec hz (by simp) fun g1 z1 e1 => ?_)))))
  replace z1 : IsZip g1 (n + 5) (n + 3) (n + 4) .ellipsis := z1
  have E1 : ∀ c o, c ≠ n + 5 → s.heap.get? c = some o → g1.get? c = some o := fun c o hc e => e1.extBut _ _ hc e
  refine wpAny_bind ?_
  simp only [List.zipIdx_cons, List.zipIdx_nil, List.forIn_cons, List.forIn_nil]
  refine wpAny_bind (wpAny_bind (wpAny_onRaise ?_))
  show wpAny _ _ (Builtin.SmallTypes.nextOf (.ref n) >>= _) _ _ _
  refine wpAny_bind (RZ.nextOf_tuple_item (h1.extBut e1.extBut (by first | omega | (change (_ : Nat) ≠ (_ : Nat); omega) | (change (_ : Nat) < (_ : Nat); omega) | (change (_ : Nat) ≤ (_ : Nat); omega))) (hl1.extBut e1.extBut (by first | omega | (change (_ : Nat) ≠ (_ : Nat); omega) | (change (_ : Nat) < (_ : Nat); omega) | (change (_ : Nat) ≤ (_ : Nat); omega))) hx fun g2 a2 e2 => wpAny_pure ?_)
  have O2 : Trip g2 (n + 4) p q r := e2.extBut _ _ (by first | omega | (change (_ : Nat) ≠ (_ : Nat); omega) | (change (_ : Nat) < (_ : Nat); omega) | (change (_ : Nat) ≤ (_ : Nat); omega)) (E1 _ _ (by first | omega | (change (_ : Nat) ≠ (_ : Nat); omega) | (change (_ : Nat) < (_ : Nat); omega) | (change (_ : Nat) ≤ (_ : Nat); omega)) hO)
  refine wpAny_bind (wpAny_seqItems O2 rfl (wpAny_bind (upd3 O2 fun g3 O3 e3 => ?_)))
  replace O3 : Trip g3 (n + 4) x q r := O3
  have E3 : ∀ c o, c ≠ n + 5 → c ≠ n + 4 → c ≠ n → s.heap.get? c = some o → g3.get? c = some o := fun c o c1 c2 c3 e => e3.extBut _ _ c2 (e2.extBut _ _ c3 (E1 _ _ c1 e))
  refine wpAny_bind (wpAny_letGo (wpAny_pure ?_))
  refine wpAny_bind (wpAny_bind (wpAny_onRaise ?_))
  show wpAny _ _ (Builtin.SmallTypes.nextOf (.ref (n + 1)) >>= _) _ _ _
  refine wpAny_bind (RZ.nextOf_tuple_item (h2.at fun o e => E3 _ o (by first | omega | (change (_ : Nat) ≠ (_ : Nat); omega) | (change (_ : Nat) < (_ : Nat); omega) | (change (_ : Nat) ≤ (_ : Nat); omega)) (by first | omega | (change (_ : Nat) ≠ (_ : Nat); omega) | (change (_ : Nat) < (_ : Nat); omega) | (change (_ : Nat) ≤ (_ : Nat); omega)) (by first | omega | (change (_ : Nat) ≠ (_ : Nat); omega) | (change (_ : Nat) < (_ : Nat); omega) | (change (_ : Nat) ≤ (_ : Nat); omega)) e) (hl2.at fun o e => E3 _ o (by first | omega | (change (_ : Nat) ≠ (_ : Nat); omega) | (change (_ : Nat) < (_ : Nat); omega) | (change (_ : Nat) ≤ (_ : Nat); omega)) (by first | omega | (change (_ : Nat) ≠ (_ : Nat); omega) | (change (_ : Nat) < (_ : Nat); omega) | (change (_ : Nat) ≤ (_ : Nat); omega)) (by first | omega | (change (_ : Nat) ≠ (_ : Nat); omega) | (change (_ : Nat) < (_ : Nat); omega) | (change (_ : Nat) ≤ (_ : Nat); omega)) e) hy fun g4 b4 e4 => wpAny_pure ?_)
  have O4 : Trip g4 (n + 4) x q r := e4.extBut _ _ (by first | omega | (change (_ : Nat) ≠ (_ : Nat); omega) | (change (_ : Nat) < (_ : Nat); omega) | (change (_ : Nat) ≤ (_ : Nat); omega)) O3
  refine wpAny_bind (wpAny_seqItems O4 rfl (wpAny_bind (upd3 O4 fun g5 O5 e5 => ?_)))
  replace O5 : Trip g5 (n + 4) x y r := O5
  have E5 : ∀ c o, c ≠ n + 5 → c ≠ n + 4 → c ≠ n → c ≠ n + 1 → s.heap.get? c = some o → g5.get? c = some o := fun c o c1 c2 c3 c4 e => e5.extBut _ _ c2 (e4.extBut _ _ c4 (E3 _ _ c1 c2 c3 e))
  refine wpAny_bind (wpAny_letGo (wpAny_pure ?_))
  refine wpAny_bind (wpAny_bind (wpAny_onRaise ?_))
  show wpAny _ _ (Builtin.SmallTypes.nextOf (.ref (n + 2)) >>= _) _ _ _
  refine wpAny_bind (RZ.nextOf_tuple_item (h3.at fun o e => E5 _ o (by first | omega | (change (_ : Nat) ≠ (_ : Nat); omega) | (change (_ : Nat) < (_ : Nat); omega) | (change (_ : Nat) ≤ (_ : Nat); omega)) (by first | omega | (change (_ : Nat) ≠ (_ : Nat); omega) | (change (_ : Nat) < (_ : Nat); omega) | (change (_ : Nat) ≤ (_ : Nat); omega)) (by first | omega | (change (_ : Nat) ≠ (_ : Nat); omega) | (change (_ : Nat) < (_ : Nat); omega) | (change (_ : Nat) ≤ (_ : Nat); omega)) (by first | omega | (change (_ : Nat) ≠ (_ : Nat); omega) | (change (_ : Nat) < (_ : Nat); omega) | (change (_ : Nat) ≤ (_ : Nat); omega)) e) (hl3.at fun o e => E5 _ o (by first | omega | (change (_ : Nat) ≠ (_ : Nat); omega) | (change (_ : Nat) < (_ : Nat); omega) | (change (_ : Nat) ≤ (_ : Nat); omega)) (by first | omega | (change (_ : Nat) ≠ (_ : Nat); omega) | (change (_ : Nat) < (_ : Nat); omega) | (change (_ : Nat) ≤ (_ : Nat); omega)) (by first | omega | (change (_ : Nat) ≠ (_ : Nat); omega) | (change (_ : Nat) < (_ : Nat); omega) | (change (_ : Nat) ≤ (_ : Nat); omega)) (by first | omega | (change (_ : Nat) ≠ (_ : Nat); omega) | (change (_ : Nat) < (_ : Nat); omega) | (change (_ : Nat) ≤ (_ : Nat); omega)) e) hu fun g6 c6 e6 => wpAny_pure ?_)
  have O6 : Trip g6 (n + 4) x y r := e6.extBut _ _ (by first | omega | (change (_ : Nat) ≠ (_ : Nat); omega) | (change (_ : Nat) < (_ : Nat); omega) | (change (_ : Nat) ≤ (_ : Nat); omega)) O5
  refine wpAny_bind (wpAny_seqItems O6 rfl (wpAny_bind (upd3 O6 fun g7 O7 e7 => ?_)))
  replace O7 : Trip g7 (n + 4) x y u := O7
  have E7 : Out n s.heap g7 := fun c o c1 c2 c3 c4 c5 e => e7.extBut _ _ c2 (e6.extBut _ _ c5 (E5 _ _ c1 c2 c3 c4 e))
  refine wpAny_bind (wpAny_letGo (wpAny_pure (wpAny_pure ?_)))
  refine wpAny_bind (wpAny_seqItems O7 rfl (wpAny_bind (wpAny_newTuple ?_)))
  have sz : g7.objs.size = s.heap.objs.size := by rw [e7.1, e6.1, e5.1, e4.1, e3.1, e2.1, e1.1]
  have z7 : IsZip g7 (n + 5) (n + 3) (n + 4) .ellipsis := e7.extBut _ _ (by first | omega | (change (_ : Nat) ≠ (_ : Nat); omega) | (change (_ : Nat) < (_ : Nat); omega) | (change (_ : Nat) ≤ (_ : Nat); omega)) (e6.extBut _ _ (by first | omega | (change (_ : Nat) ≠ (_ : Nat); omega) | (change (_ : Nat) < (_ : Nat); omega) | (change (_ : Nat) ≤ (_ : Nat); omega)) (e5.extBut _ _ (by first | omega | (change (_ : Nat) ≠ (_ : Nat); omega) | (change (_ : Nat) < (_ : Nat); omega) | (change (_ : Nat) ≤ (_ : Nat); omega)) (e4.extBut _ _ (by first | omega | (change (_ : Nat) ≠ (_ : Nat); omega) | (change (_ : Nat) < (_ : Nat); omega) | (change (_ : Nat) ≤ (_ : Nat); omega)) (e3.extBut _ _ (by first | omega | (change (_ : Nat) ≠ (_ : Nat); omega) | (change (_ : Nat) < (_ : Nat); omega) | (change (_ : Nat) ≤ (_ : Nat); omega)) (e2.extBut _ _ (by first | omega | (change (_ : Nat) ≠ (_ : Nat); omega) | (change (_ : Nat) < (_ : Nat); omega) | (change (_ : Nat) ≤ (_ : Nat); omega)) z1)))))
  have a7 : g7.IsTupleIter n l1 (k + 1) := a2.at fun o e => e7.extBut _ _ (by first | omega | (change (_ : Nat) ≠ (_ : Nat); omega) | (change (_ : Nat) < (_ : Nat); omega) | (change (_ : Nat) ≤ (_ : Nat); omega)) (e6.extBut _ _ (by first | omega | (change (_ : Nat) ≠ (_ : Nat); omega) | (change (_ : Nat) < (_ : Nat); omega) | (change (_ : Nat) ≤ (_ : Nat); omega)) (e5.extBut _ _ (by first | omega | (change (_ : Nat) ≠ (_ : Nat); omega) | (change (_ : Nat) < (_ : Nat); omega) | (change (_ : Nat) ≤ (_ : Nat); omega)) (e4.extBut _ _ (by first | omega | (change (_ : Nat) ≠ (_ : Nat); omega) | (change (_ : Nat) < (_ : Nat); omega) | (change (_ : Nat) ≤ (_ : Nat); omega)) (e3.extBut _ _ (by first | omega | (change (_ : Nat) ≠ (_ : Nat); omega) | (change (_ : Nat) < (_ : Nat); omega) | (change (_ : Nat) ≤ (_ : Nat); omega)) e))))
  have b7 : g7.IsTupleIter (n + 1) l2 (k + 1) := b4.at fun o e => e7.extBut _ _ (by first | omega | (change (_ : Nat) ≠ (_ : Nat); omega) | (change (_ : Nat) < (_ : Nat); omega) | (change (_ : Nat) ≤ (_ : Nat); omega)) (e6.extBut _ _ (by first | omega | (change (_ : Nat) ≠ (_ : Nat); omega) | (change (_ : Nat) < (_ : Nat); omega) | (change (_ : Nat) ≤ (_ : Nat); omega)) (e5.extBut _ _ (by first | omega | (change (_ : Nat) ≠ (_ : Nat); omega) | (change (_ : Nat) < (_ : Nat); omega) | (change (_ : Nat) ≤ (_ : Nat); omega)) e))
  have c7 : g7.IsTupleIter (n + 2) l3 (k + 1) := c6.at fun o e => e7.extBut _ _ (by first | omega | (change (_ : Nat) ≠ (_ : Nat); omega) | (change (_ : Nat) < (_ : Nat); omega) | (change (_ : Nat) ≤ (_ : Nat); omega)) e
  have i7 : Trip g7 (n + 3) (.ref n) (.ref (n + 1)) (.ref (n + 2)) := E7 _ _ (by first | omega | (change (_ : Nat) ≠ (_ : Nat); omega) | (change (_ : Nat) < (_ : Nat); omega) | (change (_ : Nat) ≤ (_ : Nat); omega)) (by first | omega | (change (_ : Nat) ≠ (_ : Nat); omega) | (change (_ : Nat) < (_ : Nat); omega) | (change (_ : Nat) ≤ (_ : Nat); omega)) (by first | omega | (change (_ : Nat) ≠ (_ : Nat); omega) | (change (_ : Nat) < (_ : Nat); omega) | (change (_ : Nat) ≤ (_ : Nat); omega)) (by first | omega | (change (_ : Nat) ≠ (_ : Nat); omega) | (change (_ : Nat) < (_ : Nat); omega) | (change (_ : Nat) ≤ (_ : Nat); omega)) (by first | omega | (change (_ : Nat) ≠ (_ : Nat); omega) | (change (_ : Nat) < (_ : Nat); omega) | (change (_ : Nat) ≤ (_ : Nat); omega)) hI
  have zl : n + 5 < g7.objs.size := Heap.lt_size z7
  show wpAny _ _ (Builtin.SmallTypes.ownedTupleHandOut (.ref (n + 5)) (.ref g7.objs.size) >>= _) _ _ _
  refine wpAny_bind ?_
  unfold Builtin.SmallTypes.ownedTupleHandOut
  have z8 : IsZip (g7.push { cls := .type "tuple", data := .seq #[x, y, u] }) (n + 5) (n + 3) (n + 4) .ellipsis := Heap.get?_push_of_some _ z7
  refine wpAny_bind (wpAny_setField_rec z8 (by simp) fun g9 z9 e9 => ?_)
  replace z9 : IsZip g9 (n + 5) (n + 3) (n + 4) (rawInt g7.objs.size) := z9
  refine wpAny_setField_rec z9 (by simp) fun h' zz ez => ?_
  replace zz : IsZip h' (n + 5) (n + 3) (n + 4) (rawInt g7.objs.size) := zz
  have up : ∀ c o, c ≠ n + 5 → g7.get? c = some o → h'.get? c = some o := fun c o c1 e => ez.extBut _ _ c1 (e9.extBut _ _ c1 (Heap.get?_push_of_some _ e))
  have t8 : Trip h' g7.objs.size x y u := ez.extBut _ _ (Nat.ne_of_gt zl) (e9.extBut _ _ (Nat.ne_of_gt zl) (Heap.get?_push_size _ rfl))
  have sz2 : h'.objs.size = g7.objs.size + 1 := by rw [ez.1, e9.1, Heap.size_push]
  rw [sz] at zz t8 sz2
  refine wpAny_pure ⟨_, rfl, ?_⟩
  show Q (.ref g7.objs.size) _
  rw [sz]
  exact hQ h' ⟨zz, up _ _ (by first | omega | (change (_ : Nat) ≠ (_ : Nat); omega) | (change (_ : Nat) < (_ : Nat); omega) | (change (_ : Nat) ≤ (_ : Nat); omega)) i7, ⟨_, _, _, up _ _ (by first | omega | (change (_ : Nat) ≠ (_ : Nat); omega) | (change (_ : Nat) < (_ : Nat); omega) | (change (_ : Nat) ≤ (_ : Nat); omega)) O7⟩, a7.at fun o e => up _ o (by first | omega | (change (_ : Nat) ≠ (_ : Nat); omega) | (change (_ : Nat) < (_ : Nat); omega) | (change (_ : Nat) ≤ (_ : Nat); omega)) e, b7.at fun o e => up _ o (by first | omega | (change (_ : Nat) ≠ (_ : Nat); omega) | (change (_ : Nat) < (_ : Nat); omega) | (change (_ : Nat) ≤ (_ : Nat); omega)) e, c7.at fun o e => up _ o (by first | omega | (change (_ : Nat) ≠ (_ : Nat); omega) | (change (_ : Nat) < (_ : Nat); omega) | (change (_ : Nat) ≤ (_ : Nat); omega)) e⟩ t8 sz2
    fun c o c1 c2 c3 c4 c5 e => up c o c1 (E7 c o c1 c2 c3 c4 c5 e)
theorem fin {n l1 l2 l3 k : Nat} {xs ys zs : Array Value} {Q : Fin → Shared → Prop} (hh : A.handled = none) (q1 : l1 < n) (q2 : l2 < n) (q3 : l3 < n) (st : St n l1 l2 l3 k .none s.heap)
    (hl1 : s.heap.IsTuple l1 xs) (hl2 : s.heap.IsTuple l2 ys) (hl3 : s.heap.IsTuple l3 zs) (hend : xs[k]? = none ∨ ys[k]? = none ∨ zs[k]? = none)
    (hE : ∀ h' e, Out n s.heap h' → (∃ o, h'.get? e = some o ∧ o.cls = .type "StopIteration") → E (.ref e) { s with heap := h' }) : wpAny (model prog w) A (Builtin.«zip.__next__» ⟨[.ref (n + 5)], []⟩) Q E s := by
  obtain ⟨hz, hI, ⟨p, q, r, hO⟩, h1, h2, h3⟩ := st
  show wpAny _ _ (field (.ref (n + 5)) 2 >>= _) _ _ _
  refine wpAny_bind (wpAny_field hz rfl (x := Value.bool false) rfl ?_)
  show wpAny _ _ (field (.ref (n + 5)) 3 >>= _) _ _ _
  refine wpAny_bind (wpAny_field hz rfl (x := Value.ref (n + 3)) rfl (wpAny_bind (wpAny_seqItems hI rfl ?_)))
  show wpAny _ _ (Builtin.SmallTypes.ownedTupleIsFree (.ref (n + 5)) >>= _) _ _ _
  refine wpAny_bind ?_
  unfold Builtin.SmallTypes.ownedTupleIsFree
  refine wpAny_bind (wpAny_field hz rfl (x := Value.none) rfl (wpAny_pure ?_))
  simp only [if_true]
  refine wpAny_bind (wpAny_rule (wpAny_bind (wpAny_field hz rfl (x := Value.ref (n + 4)) rfl (wpAny_bind (wpAny_setField_rec hz (by simp) fun g1 z1 e1 => ?_)))))
  replace z1 : IsZip g1 (n + 5) (n + 3) (n + 4) .ellipsis := z1
  have E1 : ∀ c o, c ≠ n + 5 → s.heap.get? c = some o → g1.get? c = some o := fun c o hc e => e1.extBut _ _ hc e
  have last : ∀ {g g2 : Heap} {e : Addr} {S : Shared}, S = { s with heap := g2 } → IsZip g2 (n + 5) (n + 3) (n + 4) .ellipsis → Out n s.heap g2 → (∃ o, g2.get? e = some o ∧ o.cls = .type "StopIteration") →
      wpAny (model prog w) A (setField (.ref (n + 5)) 0 .none) (fun _ s' => E (.ref e) s') E S := by
    rintro g g2 e S rfl zg O2 ⟨oe, he, hc⟩
    have ne : e ≠ n + 5 := fun x => by subst x; rw [zg] at he; cases he; simp at hc
    exact wpAny_setField_rec (s := { s with heap := g2 }) zg (by simp) fun g3 _ e3 => hE g3 e (fun c o c1 c2 c3 c4 c5 x => e3.extBut _ _ c1 (O2 c o c1 c2 c3 c4 c5 x)) ⟨oe, e3.extBut _ _ ne he, hc⟩
  refine wpAny_bind ?_
  simp only [List.zipIdx_cons, List.zipIdx_nil, List.forIn_cons, List.forIn_nil]
  refine wpAny_bind (wpAny_bind (wpAny_onRaise ?_))
  show wpAny _ _ (Builtin.SmallTypes.nextOf (.ref n) >>= _) _ _ _
  cases hx : xs[k]? with
  | none =>
    exact wpAny_bind (RZ.nextOf_tuple_end hh (h1.extBut e1.extBut (by first | omega | (change (_ : Nat) ≠ (_ : Nat); omega) | (change (_ : Nat) < (_ : Nat); omega) | (change (_ : Nat) ≤ (_ : Nat); omega))) (hl1.extBut e1.extBut (by first | omega | (change (_ : Nat) ≠ (_ : Nat); omega) | (change (_ : Nat) < (_ : Nat); omega) | (change (_ : Nat) ≤ (_ : Nat); omega))) hx fun g2 e e2 he => last (g := g1) rfl (e2 _ _ (by first | omega | (change (_ : Nat) ≠ (_ : Nat); omega) | (change (_ : Nat) < (_ : Nat); omega) | (change (_ : Nat) ≤ (_ : Nat); omega)) z1) (fun c o c1 c2 c3 c4 c5 x => e2 _ _ c3 (E1 _ _ c1 x)) he)
  | some x =>
    refine wpAny_bind (RZ.nextOf_tuple_item (h1.extBut e1.extBut (by first | omega | (change (_ : Nat) ≠ (_ : Nat); omega) | (change (_ : Nat) < (_ : Nat); omega) | (change (_ : Nat) ≤ (_ : Nat); omega))) (hl1.extBut e1.extBut (by first | omega | (change (_ : Nat) ≠ (_ : Nat); omega) | (change (_ : Nat) < (_ : Nat); omega) | (change (_ : Nat) ≤ (_ : Nat); omega))) hx fun g2 a2 e2 => wpAny_pure ?_)
    have O2 : Trip g2 (n + 4) p q r := e2.extBut _ _ (by first | omega | (change (_ : Nat) ≠ (_ : Nat); omega) | (change (_ : Nat) < (_ : Nat); omega) | (change (_ : Nat) ≤ (_ : Nat); omega)) (E1 _ _ (by first | omega | (change (_ : Nat) ≠ (_ : Nat); omega) | (change (_ : Nat) < (_ : Nat); omega) | (change (_ : Nat) ≤ (_ : Nat); omega)) hO)
    refine wpAny_bind (wpAny_seqItems O2 rfl (wpAny_bind (upd3 O2 fun g3 O3 e3 => ?_)))
    replace O3 : Trip g3 (n + 4) x q r := O3
    have z3 : IsZip g3 (n + 5) (n + 3) (n + 4) .ellipsis := e3.extBut _ _ (by first | omega | (change (_ : Nat) ≠ (_ : Nat); omega) | (change (_ : Nat) < (_ : Nat); omega) | (change (_ : Nat) ≤ (_ : Nat); omega)) (e2.extBut _ _ (by first | omega | (change (_ : Nat) ≠ (_ : Nat); omega) | (change (_ : Nat) < (_ : Nat); omega) | (change (_ : Nat) ≤ (_ : Nat); omega)) z1)
    have E3 : ∀ c o, c ≠ n + 5 → c ≠ n + 4 → c ≠ n → s.heap.get? c = some o → g3.get? c = some o := fun c o c1 c2 c3 e => e3.extBut _ _ c2 (e2.extBut _ _ c3 (E1 _ _ c1 e))
    refine wpAny_bind (wpAny_letGo (wpAny_pure ?_))
    refine wpAny_bind (wpAny_bind (wpAny_onRaise ?_))
    show wpAny _ _ (Builtin.SmallTypes.nextOf (.ref (n + 1)) >>= _) _ _ _
    cases hy : ys[k]? with
    | none =>
      exact wpAny_bind (RZ.nextOf_tuple_end hh (h2.at fun o e => E3 _ o (by first | omega | (change (_ : Nat) ≠ (_ : Nat); omega) | (change (_ : Nat) < (_ : Nat); omega) | (change (_ : Nat) ≤ (_ : Nat); omega)) (by first | omega | (change (_ : Nat) ≠ (_ : Nat); omega) | (change (_ : Nat) < (_ : Nat); omega) | (change (_ : Nat) ≤ (_ : Nat); omega)) (by first | omega | (change (_ : Nat) ≠ (_ : Nat); omega) | (change (_ : Nat) < (_ : Nat); omega) | (change (_ : Nat) ≤ (_ : Nat); omega)) e) (hl2.at fun o e => E3 _ o (by first | omega | (change (_ : Nat) ≠ (_ : Nat); omega) | (change (_ : Nat) < (_ : Nat); omega) | (change (_ : Nat) ≤ (_ : Nat); omega)) (by first | omega | (change (_ : Nat) ≠ (_ : Nat); omega) | (change (_ : Nat) < (_ : Nat); omega) | (change (_ : Nat) ≤ (_ : Nat); omega)) (by first | omega | (change (_ : Nat) ≠ (_ : Nat); omega) | (change (_ : Nat) < (_ : Nat); omega) | (change (_ : Nat) ≤ (_ : Nat); omega)) e) hy fun g4 e e4 he => last (g := g3) rfl (e4 _ _ (by first | omega | (change (_ : Nat) ≠ (_ : Nat); omega) | (change (_ : Nat) < (_ : Nat); omega) | (change (_ : Nat) ≤ (_ : Nat); omega)) z3) (fun c o c1 c2 c3 c4 c5 x => e4 _ _ c4 (E3 _ _ c1 c2 c3 x)) he)
    | some y =>
      have hu : zs[k]? = none := by rcases hend with h | h | h; (rw [hx] at h; cases h); (rw [hy] at h; cases h); exact h
      refine wpAny_bind (RZ.nextOf_tuple_item (h2.at fun o e => E3 _ o (by first | omega | (change (_ : Nat) ≠ (_ : Nat); omega) | (change (_ : Nat) < (_ : Nat); omega) | (change (_ : Nat) ≤ (_ : Nat); omega)) (by first | omega | (change (_ : Nat) ≠ (_ : Nat); omega) | (change (_ : Nat) < (_ : Nat); omega) | (change (_ : Nat) ≤ (_ : Nat); omega)) (by first | omega | (change (_ : Nat) ≠ (_ : Nat); omega) | (change (_ : Nat) < (_ : Nat); omega) | (change (_ : Nat) ≤ (_ : Nat); omega)) e) (hl2.at fun o e => E3 _ o (by first | omega | (change (_ : Nat) ≠ (_ : Nat); omega) | (change (_ : Nat) < (_ : Nat); omega) | (change (_ : Nat) ≤ (_ : Nat); omega)) (by first | omega | (change (_ : Nat) ≠ (_ : Nat); omega) | (change (_ : Nat) < (_ : Nat); omega) | (change (_ : Nat) ≤ (_ : Nat); omega)) (by first | omega | (change (_ : Nat) ≠ (_ : Nat); omega) | (change (_ : Nat) < (_ : Nat); omega) | (change (_ : Nat) ≤ (_ : Nat); omega)) e) hy fun g4 b4 e4 => wpAny_pure ?_)
      have O4 : Trip g4 (n + 4) x q r := e4.extBut _ _ (by first | omega | (change (_ : Nat) ≠ (_ : Nat); omega) | (change (_ : Nat) < (_ : Nat); omega) | (change (_ : Nat) ≤ (_ : Nat); omega)) O3
      refine wpAny_bind (wpAny_seqItems O4 rfl (wpAny_bind (upd3 O4 fun g5 O5 e5 => ?_)))
      have z5 : IsZip g5 (n + 5) (n + 3) (n + 4) .ellipsis := e5.extBut _ _ (by first | omega | (change (_ : Nat) ≠ (_ : Nat); omega) | (change (_ : Nat) < (_ : Nat); omega) | (change (_ : Nat) ≤ (_ : Nat); omega)) (e4.extBut _ _ (by first | omega | (change (_ : Nat) ≠ (_ : Nat); omega) | (change (_ : Nat) < (_ : Nat); omega) | (change (_ : Nat) ≤ (_ : Nat); omega)) z3)
      have E5 : ∀ c o, c ≠ n + 5 → c ≠ n + 4 → c ≠ n → c ≠ n + 1 → s.heap.get? c = some o → g5.get? c = some o := fun c o c1 c2 c3 c4 e => e5.extBut _ _ c2 (e4.extBut _ _ c4 (E3 _ _ c1 c2 c3 e))
      refine wpAny_bind (wpAny_letGo (wpAny_pure ?_))
      refine wpAny_bind (wpAny_bind (wpAny_onRaise ?_))
      show wpAny _ _ (Builtin.SmallTypes.nextOf (.ref (n + 2)) >>= _) _ _ _
      exact wpAny_bind (RZ.nextOf_tuple_end hh (h3.at fun o e => E5 _ o (by first | omega | (change (_ : Nat) ≠ (_ : Nat); omega) | (change (_ : Nat) < (_ : Nat); omega) | (change (_ : Nat) ≤ (_ : Nat); omega)) (by first | omega | (change (_ : Nat) ≠ (_ : Nat); omega) | (change (_ : Nat) < (_ : Nat); omega) | (change (_ : Nat) ≤ (_ : Nat); omega)) (by first | omega | (change (_ : Nat) ≠ (_ : Nat); omega) | (change (_ : Nat) < (_ : Nat); omega) | (change (_ : Nat) ≤ (_ : Nat); omega)) (by first | omega | (change (_ : Nat) ≠ (_ : Nat); omega) | (change (_ : Nat) < (_ : Nat); omega) | (change (_ : Nat) ≤ (_ : Nat); omega)) e) (hl3.at fun o e => E5 _ o (by first | omega | (change (_ : Nat) ≠ (_ : Nat); omega) | (change (_ : Nat) < (_ : Nat); omega) | (change (_ : Nat) ≤ (_ : Nat); omega)) (by first | omega | (change (_ : Nat) ≠ (_ : Nat); omega) | (change (_ : Nat) < (_ : Nat); omega) | (change (_ : Nat) ≤ (_ : Nat); omega)) (by first | omega | (change (_ : Nat) ≠ (_ : Nat); omega) | (change (_ : Nat) < (_ : Nat); omega) | (change (_ : Nat) ≤ (_ : Nat); omega)) (by first | omega | (change (_ : Nat) ≠ (_ : Nat); omega) | (change (_ : Nat) < (_ : Nat); omega) | (change (_ : Nat) ≤ (_ : Nat); omega)) e) hu fun g6 e e6 he => last (g := g5) rfl (e6 _ _ (by first | omega | (change (_ : Nat) ≠ (_ : Nat); omega) | (change (_ : Nat) < (_ : Nat); omega) | (change (_ : Nat) ≤ (_ : Nat); omega)) z5) (fun c o c1 c2 c3 c4 c5 x => e6 _ _ c5 (E5 _ _ c1 c2 c3 c4 x)) he)
theorem next_item {n l1 l2 l3 k : Nat} {xs ys zs : Array Value} {x y u : Value} {Q : Option Value → Shared → Prop} (q1 : l1 < n) (q2 : l2 < n) (q3 : l3 < n) (st : St n l1 l2 l3 k .none s.heap)
    (hl1 : s.heap.IsTuple l1 xs) (hl2 : s.heap.IsTuple l2 ys) (hl3 : s.heap.IsTuple l3 zs) (hx : xs[k]? = some x) (hy : ys[k]? = some y) (hu : zs[k]? = some u)
    (hQ : ∀ h', St n l1 l2 l3 (k + 1) (rawInt s.heap.objs.size) h' → Trip h' s.heap.objs.size x y u → h'.objs.size = s.heap.objs.size + 1 → Out n s.heap h' → Q (some (.ref s.heap.objs.size)) { s with heap := h' }) : wpAny (model prog w) A (pyNext (.ref (n + 5))) Q E s := by
  have hT : s.TypeIs (.ref (n + 5)) "zip" := ⟨_, st.z, rfl⟩
  unfold pyNext
  exact wpAny_bind (wpAny_attempt (wpAny_callSpecial?_slot (name := Str.ofString "__next__") hT F.slot_zip_next (wpAny_call_entry F.slot_zip_next hT F.entry_zip_next (item q1 q2 q3 st hl1 hl2 hl3 hx hy hu fun h' a b c d => wpAny_pure (hQ h' a b c d)) (F.args_zip_next_1 _))))
theorem next_fin {n l1 l2 l3 k : Nat} {xs ys zs : Array Value} {Q : Option Value → Shared → Prop} (hh : A.handled = none) (q1 : l1 < n) (q2 : l2 < n) (q3 : l3 < n) (st : St n l1 l2 l3 k .none s.heap)
    (hl1 : s.heap.IsTuple l1 xs) (hl2 : s.heap.IsTuple l2 ys) (hl3 : s.heap.IsTuple l3 zs) (hend : xs[k]? = none ∨ ys[k]? = none ∨ zs[k]? = none)
    (hQ : ∀ h', Out n s.heap h' → Q none { s with heap := h' }) : wpAny (model prog w) A (pyNext (.ref (n + 5))) Q E s := by
  have hT : s.TypeIs (.ref (n + 5)) "zip" := ⟨_, st.z, rfl⟩
  unfold pyNext
  exact wpAny_bind (wpAny_attempt (wpAny_callSpecial?_slot (name := Str.ofString "__next__") hT F.slot_zip_next (wpAny_call_entry F.slot_zip_next hT F.entry_zip_next (fin hh q1 q2 q3 st hl1 hl2 hl3 hend fun h' e hk ⟨o, ho, hc⟩ => wpAny_bind (wpAny_isInstance (T := "StopIteration") (b := true) ⟨o, ho, hc⟩ isSubtype_stop (wpAny_pure (hQ _ hk)))) (F.args_zip_next_1 _))))
end
/-! making one -/
abbrev itO (l : Addr) : Obj := { cls := .type "tuple_iterator", data := .fields #[.ref l, .int 0 0] }
abbrev m3 (h : Heap) (l1 l2 l3 : Addr) : Heap := ((h.push (itO l1)).push (itO l2)).push (itO l3)
abbrev m4 (h : Heap) (l1 l2 l3 : Addr) : Heap := (m3 h l1 l2 l3).push { cls := .type "tuple", data := .seq #[.ref h.objs.size, .ref (h.push (itO l1)).objs.size, .ref ((h.push (itO l1)).push (itO l2)).objs.size] }
abbrev m5 (h : Heap) (l1 l2 l3 : Addr) : Heap := (m4 h l1 l2 l3).push { cls := .type "tuple", data := .seq #[.none, .none, .none] }
abbrev m6 (h : Heap) (l1 l2 l3 : Addr) : Heap := (m5 h l1 l2 l3).push { cls := .type "zip", data := .fields #[.none, .bool false, .bool false, .ref (m3 h l1 l2 l3).objs.size, .ref (m4 h l1 l2 l3).objs.size] }
theorem typeCall_zip3 (a b c : Value) : checkTypeCall "zip" ⟨[a, b, c], []⟩ = pure () := by kernel_rfl
theorem newCall_zip3 (a b c : Value) : checkBuiltinCall "zip.__new__" ⟨[.type "zip", a, b, c], []⟩ = pure () := by kernel_rfl
theorem args_init4 (a b c d : Value) : argsOk "object.__init__" ⟨[a, b, c, d], []⟩ := by
  unfold argsOk; rw [signature?_of (id := "object.__init__") (n := ['_', '_', 't', 'i', 'n', 'i', '_', '_']) (o := ['t', 'c', 'e', 'j', 'b', 'o']) (by kernel_rfl) F.owner_object]; kernel_rfl
theorem made (l1 l2 l3 : Addr) (xs ys zs : Array Value) : Meets (Builtin.«zip.__new__» ⟨[.type "zip", .ref l1, .ref l2, .ref l3], []⟩) (fun _ R s => s.heap.IsTuple l1 xs ∧ s.heap.IsTuple l2 ys ∧ s.heap.IsTuple l3 zs ∧
    R (.ok (.ret (.ref (m5 s.heap l1 l2 l3).objs.size))) { s with heap := m6 s.heap l1 l2 l3 }) :=
  .of_wp fun prog w A R s h => by
    obtain ⟨hp, g, d, tk, os⟩ := s
    obtain ⟨hl1, hl2, hl3, h⟩ := h
    have hsub := sub_zip
    have hL1 : Heap.IsTuple (Shared.heap ⟨hp, g, d, tk, os⟩) l1 xs := hl1
    have hL2 : Heap.IsTuple (Shared.heap ⟨hp.push { cls := .type "tuple_iterator", data := .fields #[.ref l1, .int 0 0] }, g, d, tk, os⟩) l2 ys := Heap.IsTuple.push hl2 _
    have hL3 : Heap.IsTuple (Shared.heap ⟨(hp.push { cls := .type "tuple_iterator", data := .fields #[.ref l1, .int 0 0] }).push { cls := .type "tuple_iterator", data := .fields #[.ref l2, .int 0 0] }, g, d, tk, os⟩) l3 zs := Heap.IsTuple.push (Heap.IsTuple.push hl3 _) _
    wp_walk using wpAny_pyIter_tuple hL1, wpAny_pyIter_tuple hL2, wpAny_pyIter_tuple hL3
    exact ⟨_, rfl, h⟩
section
variable {prog : Program} {w : World} {A : Around} {E : Value → Shared → Prop} {s : Shared}
theorem call3 {l1 l2 l3 : Addr} {xs ys zs : Array Value} {Q : Value → Shared → Prop} (hl1 : s.heap.IsTuple l1 xs) (hl2 : s.heap.IsTuple l2 ys) (hl3 : s.heap.IsTuple l3 zs)
    (hq : ∀ h', St s.heap.objs.size l1 l2 l3 0 .none h' → h'.objs.size = s.heap.objs.size + 6 → (∀ c o, s.heap.get? c = some o → h'.get? c = some o) → Q (.ref (s.heap.objs.size + 5)) { s with heap := h' }) :
    wpAny (model prog w) A (call (.type "zip") [.ref l1, .ref l2, .ref l3]) Q E s := by
  refine callType_new F.called_zip (by decide) (typeCall_zip3 _ _ _) (newCall_zip3 _ _ _) (fun obj => args_init4 obj _ _ _) F.entry_zip_new (made l1 l2 l3 xs ys zs) ⟨hl1, hl2, hl3, ?_⟩
  have z1 : (s.heap.push (itO l1)).objs.size = s.heap.objs.size + 1 := Heap.size_push ..
  have z2 : ((s.heap.push (itO l1)).push (itO l2)).objs.size = s.heap.objs.size + 2 := by rw [Heap.size_push, z1]
  have z3 : (m3 s.heap l1 l2 l3).objs.size = s.heap.objs.size + 3 := by rw [Heap.size_push, z2]
  have z4 : (m4 s.heap l1 l2 l3).objs.size = s.heap.objs.size + 4 := by rw [Heap.size_push, z3]
  have z5 : (m5 s.heap l1 l2 l3).objs.size = s.heap.objs.size + 5 := by rw [Heap.size_push, z4]
  have z6 : (m6 s.heap l1 l2 l3).objs.size = s.heap.objs.size + 6 := by rw [Heap.size_push, z5]
  have up1 : ∀ {h : Heap} {o o' : Obj} {c : Addr}, h.get? c = some o → (h.push o').get? c = some o := fun e => Heap.get?_push_of_some _ e
  have g6 : (m6 s.heap l1 l2 l3).get? (m5 s.heap l1 l2 l3).objs.size = some _ := Heap.get?_push_size _ rfl
  have g5 : (m6 s.heap l1 l2 l3).get? (m4 s.heap l1 l2 l3).objs.size = some _ := up1 (Heap.get?_push_size _ rfl)
  have g4 : (m6 s.heap l1 l2 l3).get? (m3 s.heap l1 l2 l3).objs.size = some _ := up1 (up1 (Heap.get?_push_size _ rfl))
  have g3 : (m6 s.heap l1 l2 l3).get? ((s.heap.push (itO l1)).push (itO l2)).objs.size = some _ := up1 (up1 (up1 (Heap.get?_push_size _ rfl)))
  have g2 : (m6 s.heap l1 l2 l3).get? (s.heap.push (itO l1)).objs.size = some _ := up1 (up1 (up1 (up1 (Heap.get?_push_size _ rfl))))
  have g1 : (m6 s.heap l1 l2 l3).get? s.heap.objs.size = some _ := up1 (up1 (up1 (up1 (up1 (Heap.get?_push_size _ rfl)))))
  show _ ∧ _
  rw [z3, z4, z5] at g6
  rw [z4] at g5
  rw [z1, z2, z3] at g4
  rw [z2] at g3
  rw [z1] at g2
  rw [z5]
  exact ⟨⟨_, g6, rfl⟩, hq _ ⟨g6, g4, ⟨_, _, _, g5⟩, ⟨_, g1, rfl, rfl⟩, ⟨_, g2, rfl, rfl⟩, ⟨_, g3, rfl, rfl⟩⟩ z6 fun c o x => up1 (up1 (up1 (up1 (up1 (up1 x)))))⟩
end
/-! as an iterable of the hand layer -/
open PySem.Spec PyProof.Rows L2
def Itz3 (K : PySem.W.Frag) (a b c : Addr) : It :=
  ⟨fun i H => ∃ (xs ys zs : List V) (x y z : V), SqT K H a xs ∧ SqT K H b ys ∧ SqT K H c zs ∧ xs[i]? = some x ∧ ys[i]? = some y ∧ zs[i]? = some z,
    fun i H v H' => ∃ T x y z, v = .ref T ∧ H T = none ∧ H' = upd H T (.tup [x, y, z]) ∧ (∀ xs, SqT K H a xs → xs[i]? = some x) ∧ (∀ ys, SqT K H b ys → ys[i]? = some y) ∧ ∀ zs, SqT K H c zs → zs[i]? = some z,
    fun i H => ∃ xs ys zs : List V, SqT K H a xs ∧ SqT K H b ys ∧ SqT K H c zs ∧ (xs.length ≤ i ∨ ys.length ≤ i ∨ zs.length ≤ i)⟩
theorem turn3 {P : Program} {w : World} {K : PySem.W.Frag} {elts : List Expr} {kk : Nat} {tpos : Pos} {a b c : Addr} {n : Nat} (q1 : a < n) (q2 : b < n) (q3 : c < n) :
    Turn P w K (.Tuple elts kk tpos) (Itz3 K a b c) [n + 5, n + 3, n + 4, n, n + 1, n + 2] (n + 5) (fun i h => St n a b c i .none h) where
  mem := by simp
  obj := fun i h st d hd => by
    obtain ⟨hz, hI, ⟨p, q, r, hO⟩, ⟨o1, e1, _, d1⟩, ⟨o2, e2, _, d2⟩, ⟨o3, e3, _, d3⟩⟩ := st
    simp only [List.mem_cons, List.not_mem_nil, or_false] at hd
    rcases hd with rfl | rfl | rfl | rfl | rfl | rfl
    · exact ⟨_, hz, fun v x => nomatch x⟩
    · exact ⟨_, hI, fun v x => nomatch x⟩
    · exact ⟨_, hO, fun v x => nomatch x⟩
    · exact ⟨o1, e1, fun v x => by rw [d1] at x; cases x⟩
    · exact ⟨o2, e2, fun v x => by rw [d2] at x; cases x⟩
    · exact ⟨o3, e3, fun v x => by rw [d3] at x; cases x⟩
  keep := fun i h h' st k => by
    obtain ⟨hz, hI, ⟨p, q, r, hO⟩, h1, h2, h3⟩ := st
    exact ⟨k _ (by simp) _ hz, k _ (by simp) _ hI, ⟨p, q, r, k _ (by simp) _ hO⟩, h1.at fun o q => k _ (by simp) o q, h2.at fun o q => k _ (by simp) o q, h3.at fun o q => k _ (by simp) o q⟩
  item := by
    intro X hP hw hK hc i pins s σ H E I hf st hg
    subst hP hw hK
    obtain ⟨xs, ys, zs, x, y, z, hqx, hqy, hqz, hx, hy, hz⟩ := hg
    obtain ⟨i1, rv1, p1, _⟩ := I.tuple hqx
    obtain ⟨i2, rv2, p2, _⟩ := I.tuple hqy
    obtain ⟨i3, rv3, p3, _⟩ := I.tuple hqz
    obtain ⟨u1, hu1, ru1⟩ := rv1.get hx
    obtain ⟨u2, hu2, ru2⟩ := rv2.get hy
    obtain ⟨u3, hu3, ru3⟩ := rv3.get hz
    have zl : n + 5 < s.heap.objs.size := Heap.lt_size st.z
    refine next_item q1 q2 q3 st p1 p2 p3 (x := u1) (y := u2) (u := u3) (by simpa using hu1) (by simpa using hu2) (by simpa using hu3) fun h' st' hT hsz hk => ?_
    refine ⟨_, rfl, wpAny_letOwnedTupleGo_zip (s := { s with heap := h' }) st'.z fun h'' zz sb => ?_⟩
    have nz : ∀ {d : Addr}, d ≠ n + 5 → ∀ o, h'.get? d = some o → h''.get? d = some o := fun hd o e => (sb.2 _ hd).trans e
    have hT2 : h''.get? s.heap.objs.size = some { cls := .type "tuple", data := .seq #[u1, u2, u3] } := nz (Nat.ne_of_gt zl) _ hT
    have new : ObjOk X.prog X.w (upd H s.heap.objs.size (.tup [x, y, z])) h'' s.heap.objs.size (.tup [x, y, z]) :=
      ⟨by show 3 ≤ sizeLine; decide, [u1, u2, u3], .cons ru1 (.cons ru2 (.cons ru3 .nil)), ⟨_, hT2, rfl, _, rfl⟩⟩
    have I1 : Inv X pins σ (upd H s.heap.objs.size (.tup [x, y, z])) { s with heap := h'' } :=
      I.turnedNew (t' := s.toks) (ch := [n + 5, n + 3, n + 4, n, n + 1, n + 2]) (fun d o hb q => nz (fun q' => hb (by simp [q'])) _ (hk d o (fun q' => hb (by simp [q'])) (fun q' => hb (by simp [q'])) (fun q' => hb (by simp [q'])) (fun q' => hb (by simp [q'])) (fun q' => hb (by simp [q'])) q)) hf (Nat.le_refl _) new
    refine ⟨.ref s.heap.objs.size, _, I1, rfl, ⟨_, x, y, z, rfl, I.hok.fresh (Nat.le_refl _), rfl, fun l hl => by rw [I.tuple_inj hl hqx]; exact hx, fun l hl => by rw [I.tuple_inj hl hqy]; exact hy, fun l hl => by rw [I.tuple_inj hl hqz]; exact hz⟩,
      ⟨zz, nz (by first | omega | (change (_ : Nat) ≠ (_ : Nat); omega) | (change (_ : Nat) < (_ : Nat); omega) | (change (_ : Nat) ≤ (_ : Nat); omega)) _ st'.i, ?_, st'.a.at fun o q => nz (by first | omega | (change (_ : Nat) ≠ (_ : Nat); omega) | (change (_ : Nat) < (_ : Nat); omega) | (change (_ : Nat) ≤ (_ : Nat); omega)) o q, st'.b.at fun o q => nz (by first | omega | (change (_ : Nat) ≠ (_ : Nat); omega) | (change (_ : Nat) < (_ : Nat); omega) | (change (_ : Nat) ≤ (_ : Nat); omega)) o q, st'.c.at fun o q => nz (by first | omega | (change (_ : Nat) ≠ (_ : Nat); omega) | (change (_ : Nat) < (_ : Nat); omega) | (change (_ : Nat) ≤ (_ : Nat); omega)) o q⟩, fun d hd => ?_⟩
    · obtain ⟨p, q, r, hO⟩ := st'.o
      exact ⟨p, q, r, nz (by first | omega | (change (_ : Nat) ≠ (_ : Nat); omega) | (change (_ : Nat) < (_ : Nat); omega) | (change (_ : Nat) ≤ (_ : Nat); omega)) _ hO⟩
    · have hlt : d < s.heap.objs.size := by
        simp only [List.mem_cons, List.not_mem_nil, or_false] at hd
        rcases hd with rfl | rfl | rfl | rfl | rfl | rfl <;> (first | omega | (change (_ : Nat) ≠ (_ : Nat); omega) | (change (_ : Nat) < (_ : Nat); omega) | (change (_ : Nat) ≤ (_ : Nat); omega))
      rw [upd_ne (Nat.ne_of_lt hlt)]
      exact (hf d hd).1
  done := by
    intro X hP hw hK hc i pins s σ H E I hf st hg
    subst hP hw hK
    obtain ⟨xs, ys, zs, hqx, hqy, hqz, hend⟩ := hg
    obtain ⟨i1, rv1, p1, _⟩ := I.tuple hqx
    obtain ⟨i2, rv2, p2, _⟩ := I.tuple hqy
    obtain ⟨i3, rv3, p3, _⟩ := I.tuple hqz
    have l1 := rv1.length
    have l2 := rv2.length
    have l3 := rv3.length
    have he : i1.toArray[i]? = none ∨ i2.toArray[i]? = none ∨ i3.toArray[i]? = none := by
      rcases hend with q | q | q
      · exact .inl (by simp; omega)
      · exact .inr (.inl (by simp; omega))
      · exact .inr (.inr (by simp; omega))
    exact next_fin (I.ok.hd hc) q1 q2 q3 st p1 p2 p3 he fun h' hk => ⟨rfl, I.turnedL (t' := s.toks) (ch := [n + 5, n + 3, n + 4, n, n + 1, n + 2]) (fun d o hb q =>
      hk d o (fun q' => hb (by simp [q'])) (fun q' => hb (by simp [q'])) (fun q' => hb (by simp [q'])) (fun q' => hb (by simp [q'])) (fun q' => hb (by simp [q'])) q) hf⟩
  self := fun A i s Q E st h => wpAny_pyIter_zip st.z h
section
variable {X : Cx}
theorem zip_at {pins : List (Addr × Obj)} {σ : L2.St} {H : Hp} {s : Shared} {a b c : Addr} {xs ys zs : List V} {us : List Value} {elts : List Expr} {kk : Nat} {tpos : Pos} {R : It → Hp → Prop} (I : Inv X pins σ H s) (rv : Vals [V.ref a, V.ref b, V.ref c] us) (h1 : SqT X.K H a xs) (h2 : SqT X.K H b ys) (h3 : SqT X.K H c zs) (q : R (Itz3 X.K a b c) H)
    {Q : Value → Shared → Prop} (k : ∀ z ch st H' s', Inv X pins σ H' s' → Turn X.prog X.w X.K (.Tuple elts kk tpos) (Itz3 X.K a b c) ch z st → st 0 s'.heap → (∀ d ∈ ch, FpOk X pins H' d) → R (Itz3 X.K a b c) H' → Q (.ref z) s') :
    wpAny (model X.prog X.w) X.A (call (.type "zip") us) Q X.xe s := by
  cases rv with
  | cons r1 rv =>
    cases rv with
    | cons r2 rv =>
      cases rv with
      | cons r3 rv =>
        cases rv
        cases r1
        cases r2
        cases r3
        obtain ⟨i1, rv1, p1, _⟩ := I.tuple h1
        obtain ⟨i2, rv2, p2, _⟩ := I.tuple h2
        obtain ⟨i3, rv3, p3, _⟩ := I.tuple h3
        obtain ⟨o1, ho1, _⟩ := id p1
        obtain ⟨o2, ho2, _⟩ := id p2
        obtain ⟨o3, ho3, _⟩ := id p3
        refine call3 (show s.heap.IsTuple a i1.toArray from p1) (show s.heap.IsTuple b i2.toArray from p2) (show s.heap.IsTuple c i3.toArray from p3) fun h' st hsz hk => ?_
        refine k _ [s.heap.objs.size + 5, s.heap.objs.size + 3, s.heap.objs.size + 4, s.heap.objs.size, s.heap.objs.size + 1, s.heap.objs.size + 2] _ H { s with heap := h' } (I.kept (t' := s.toks) hk) (turn3 (Heap.lt_size ho1) (Heap.lt_size ho2) (Heap.lt_size ho3)) st (fun d hd => ?_) q
        have hle : s.heap.objs.size ≤ d := by
          simp only [List.mem_cons, List.not_mem_nil, or_false] at hd
          rcases hd with rfl | rfl | rfl | rfl | rfl | rfl <;> (first | omega | (change (_ : Nat) ≠ (_ : Nat); omega) | (change (_ : Nat) < (_ : Nat); omega) | (change (_ : Nat) ≤ (_ : Nat); omega))
        exact I.fpOk hle (I.hok.fresh hle)
def iZip3 (K : PySem.W.Frag) (ta : TA) : TI := fun σ H R => ta σ H fun vs H1 => ∃ a b c xs ys zs, vs = [V.ref a, V.ref b, V.ref c] ∧ SqT K H1 a xs ∧ SqT K H1 b ys ∧ SqT K H1 c zs ∧ R (Itz3 K a b c) H1
theorem pi_zip3 {e e2 e3 : Expr} {ta : TA} {p pos tpos : Pos} {elts : List Expr} {kk : Nat} (hg : Gl X "zip") (hm : X.mg "zip" = none) (ha : PA X [e, e2, e3] ta)
    (hs : starEach [e, e2, e3] X.env = (false, eval e X.env) :: starEach [e2, e3] X.env := by rfl) (hpl : (backTo pos (starEach [e2, e3] X.env)).any (·.1) = false := by rfl) :
    PI X (.Tuple elts kk tpos) (.Call (.Name "zip" p) [e, e2, e3] [] pos) (iZip3 X.K ta) := by
  refine ⟨fun pins s σ H R I h => Call_ (ld_blt I hg hm PyProof.Rows.boot_zip (PyProof.Rows.callWith_type1 (thn (ha.run pos pins s σ H _ I h) fun us s1 ⟨vs, H1, I1, r1, q1⟩ => ?_) hs hpl))⟩
  obtain ⟨a, b, c, xs, ys, zs, rfl, h1, h2, h3, q⟩ := q1
  refine zip_at (elts := elts) (kk := kk) (tpos := tpos) I1 r1 h1 h2 h3 q fun z ch st H' s' I' T h0 hf q' => T.self _ _ _ _ _ h0 ?_
  exact ⟨z, ch, _, _, H', rfl, I', T, h0, hf, q'⟩
def iZipS (K : PySem.W.Frag) (te : TE) : TI := fun σ H R => te σ H fun x H1 => ∃ w a b c xs ys zs, x = V.ref w ∧ SqT K H1 w [V.ref a, V.ref b, V.ref c] ∧ SqT K H1 a xs ∧ SqT K H1 b ys ∧ SqT K H1 c zs ∧ R (Itz3 K a b c) H1
theorem looks_type {M : Model} {h : Heap} {T : String} : PySem.W.Looks M h (keeperOf (.type T)) Keeper.machine := by
  unfold keeperOf
  exact PySem.W.Looks.now
theorem pi_zipS {e : Expr} {te : TE} {p sp pos tpos : Pos} {elts : List Expr} {kk : Nat} (hg : Gl X "zip") (hm : X.mg "zip" = none) (he : PE X e te)
    (hs : starEach [.Starred e sp] X.env = [(true, eval e X.env)] := by rfl) : PI X (.Tuple elts kk tpos) (.Call (.Name "zip" p) [.Starred e sp] [] pos) (iZipS X.K te) := by
  refine ⟨fun pins s σ H R I h => Call_ (ld_blt I hg hm PyProof.Rows.boot_zip ?_)⟩
  rw [hs]
  refine PySem.W.ks_call (P := fun _ => True) rfl (fun h _ => ⟨_, .inr (.inl rfl), looks_type⟩) (PySem.W.ks_lone (thn (he.run pins s σ H _ I h) fun v s1 ⟨y, H1, I1, ry, w, a, b, c, xs, ys, zs, ey, hw, h1, h2, h3, q⟩ => ?_))
  subst ey
  obtain rfl : v = Value.ref w := ry
  refine StX.star_any I1 (.inl hw) fun us s2 I2 rv => ⟨trivial, ?_⟩
  refine zip_at (elts := elts) (kk := kk) (tpos := tpos) I2 rv h1 h2 h3 q fun z ch st H' s' I' T h0 hf q' => T.self _ _ _ _ _ h0 ?_
  exact ⟨z, ch, _, _, H', rfl, I', T, h0, hf, q'⟩
end
end Z3

set_option maxHeartbeats 2000000
/-! enumerate(tuple) -/
namespace Z3
open PySem
open AutoSeq1 (wpAny_loadPart')
theorem draws_tup {prog : Program} {w : World} {A : Around} (hh : A.handled = none) (it l : Addr) (hne : l ≠ it) (its : Array Value) :
    Draws prog w A it [it, l] its.size (fun i v => its[i]? = some v) (fun i h => h.IsTupleIter it l i ∧ h.IsTuple l its) where
  live := fun _ _ st => by obtain ⟨⟨o, ho, _⟩, _⟩ := st; exact ⟨o, ho⟩
  frame := fun _ _ _ st hk => ⟨st.1.at fun o e => hk _ List.mem_cons_self o e, st.2.at fun o e => hk _ (List.mem_cons_of_mem _ List.mem_cons_self) o e⟩
  item := fun i s Q E hi st hQ => RZ.nextOf_tuple_item st.1 st.2 (x := its[i]) (by simp [hi]) fun h' a b => hQ _ h' s.toks (by simp [hi]) ⟨a, st.2.extBut b.extBut hne⟩ b
  done := fun s Q E st hE => RZ.nextOf_tuple_end hh st.1 st.2 (by simp) hE
abbrev eIt (l : Addr) : Obj := { cls := .type "tuple_iterator", data := .fields #[.ref l, .int 0 0] }
abbrev eEn (h : Heap) : Obj := { cls := .type "enumerate", data := .fields #[.none, .bool false, .ref h.objs.size, rawInt 0, .none, .none] }
theorem madeE (l : Addr) (items : Array Value) (n : Nat) (dct : Option Addr) (sl : Array (Option Value)) :
    Meets (Builtin.«enumerate.__new__» ⟨[.type "enumerate", .ref l], []⟩) (fun _ R s => s.heap.get? l = some { cls := .type "tuple", dict := dct, data := .seq items n, slots := sl } ∧
      R (.ok (.ret (.ref (s.heap.push (eIt l)).objs.size))) { s with heap := (s.heap.push (eIt l)).push (eEn s.heap) }) :=
  .of_wp fun prog w A R s h => by
    obtain ⟨hp, g, d, tk, os⟩ := s
    obtain ⟨hl, h⟩ := h
    have hsub := sub_enumerate
    have hL : Heap.IsTuple (Shared.heap ⟨hp, g, d, tk, os⟩) l items := ⟨_, hl, rfl, n, rfl⟩
    wp_walk using wpAny_loadPart' hl
    refine wpAny_stack_any fun st => wpAny_pure ?_
    split
    · rename_i c _ _ _ _ _
      cases (c == Value.type "enumerate") <;> (wp_walk using wpAny_loadPart' hl, wpAny_pyIter_tuple hL; exact ⟨_, rfl, h⟩)
    · wp_walk using wpAny_loadPart' hl, wpAny_pyIter_tuple hL
      exact ⟨_, rfl, h⟩
section
variable {prog : Program} {w : World} {A : Around} {E : Value → Shared → Prop} {s : Shared}
theorem call_enT {l : Addr} {items : Array Value} {Q : Value → Shared → Prop} (hL : s.heap.IsTuple l items)
    (hq : ∀ h', IsEnum h' (s.heap.objs.size + 1) s.heap.objs.size 0 .none → h'.IsTupleIter s.heap.objs.size l 0 → (∀ b o, s.heap.get? b = some o → h'.get? b = some o) → Q (.ref (s.heap.objs.size + 1)) { s with heap := h' }) :
    wpAny (model prog w) A (call (.type "enumerate") [.ref l]) Q E s := by
  obtain ⟨⟨c, dct, dt, sl⟩, hl, hc, n, hd⟩ := hL
  replace hc : c = .type "tuple" := hc
  replace hd : dt = .seq items n := hd
  subst hc hd
  refine callType_new F.called_enumerate (by decide) (F.typeCall_enumerate_1 _) (F.newCall_enumerate_1 _) (fun obj => F.args_object_init_2 obj _) F.entry_enumerate_new (madeE l items n dct sl) ⟨hl, ?_⟩
  have z1 : (s.heap.push (eIt l)).objs.size = s.heap.objs.size + 1 := Heap.size_push ..
  have g2 : ((s.heap.push (eIt l)).push (eEn s.heap)).get? (s.heap.push (eIt l)).objs.size = some (eEn s.heap) := Heap.get?_push_size _ rfl
  show _ ∧ _
  rw [z1] at g2 ⊢
  exact ⟨⟨_, g2, rfl⟩, hq _ g2 ⟨_, Heap.get?_push_of_some _ (Heap.get?_push_size _ rfl), rfl, rfl⟩ fun b o x => Heap.get?_push_of_some _ (Heap.get?_push_of_some _ x)⟩
end
open PySem.Spec PyProof.Rows L2
def IteT (K : PySem.W.Frag) (a : Addr) : It :=
  ⟨fun i H => ∃ (xs : List V) (x : V), SqT K H a xs ∧ xs[i]? = some x, fun i H v H' => ∃ T x, v = .ref T ∧ H T = none ∧ H' = upd H T (.tup [.int (i : Nat), x]) ∧ ∀ xs, SqT K H a xs → xs[i]? = some x,
    fun i H => ∃ xs : List V, SqT K H a xs ∧ xs.length ≤ i⟩
theorem turn_enT {P : Program} {w : World} {K : PySem.W.Frag} {elts : List Expr} {kk : Nat} {tpos : Pos} (a e it : Addr) :
    Turn P w K (.Tuple elts kk tpos) (IteT K a) [e, it] e (fun i h => (∃ old, IsEnum h e it ((i : Nat) : Int) old) ∧ h.IsTupleIter it a i ∧ e ≠ it ∧ a ≠ it ∧ e ≠ a) where
  mem := List.mem_cons_self
  obj := fun i h st b hb => by
    obtain ⟨⟨old, he⟩, ⟨o, ho, hc, hd⟩, _⟩ := st
    simp only [List.mem_cons, List.not_mem_nil, or_false] at hb
    rcases hb with rfl | rfl
    · exact ⟨_, he, fun v x => nomatch x⟩
    · exact ⟨o, ho, fun v x => by rw [hd] at x; cases x⟩
  keep := fun i h h' st k => by
    obtain ⟨⟨old, he⟩, hi, n1⟩ := st
    exact ⟨⟨old, k _ (by simp) _ he⟩, hi.at fun o q => k _ (by simp) o q, n1⟩
  item := by
    intro X hP hw hK hc i pins s σ H E I hf st hg
    subst hP hw hK
    obtain ⟨⟨old, he⟩, hit, n1, n2, n3⟩ := st
    obtain ⟨xs, x, hq, hx⟩ := hg
    obtain ⟨its, rv, p, _⟩ := I.tuple hq
    obtain ⟨u, hu, ru⟩ := rv.get hx
    have el : e < s.heap.objs.size := Heap.lt_size he
    have il : it < s.heap.objs.size := by obtain ⟨_, q, _⟩ := hit; exact Heap.lt_size q
    have hl : i < its.toArray.size := by
      rw [List.size_toArray]
      exact (List.getElem?_eq_some_iff.mp hu).1
    refine wpAny_pyNext_enum_itemD (draws_tup (A := X.A.in1) (show X.A.in1.handled = none from I.ok.hd hc) it a n2 its.toArray) he ⟨hit, p⟩ hl n1 (by simp [n1, n3]) fun y h' tk hy ho hst hT hsz hk => ?_
    have : y = u := by
      have e1 : its.toArray[i]? = some u := by simpa using hu
      rw [e1] at hy
      exact (Option.some.inj hy).symm
    subst this
    refine ⟨_, rfl, wpAny_letOwnedTupleGo_enum (s := { s with heap := h', toks := tk + 1 }) ho fun h'' he' sb => ?_⟩
    have nz : ∀ {d : Addr}, d ≠ e → ∀ o, h'.get? d = some o → h''.get? d = some o := fun hd o q => (sb.2 _ hd).trans q
    have new : ObjOk X.prog X.w (upd H s.heap.objs.size (.tup [.int (i : Nat), x])) h'' s.heap.objs.size (.tup [.int (i : Nat), x]) :=
      ⟨by show 2 ≤ sizeLine; decide, [.int i tk, y], .cons ⟨_, rfl⟩ (.cons ru .nil), ⟨_, nz (Nat.ne_of_gt el) _ hT, rfl, _, rfl⟩⟩
    have I1 : Inv X pins σ (upd H s.heap.objs.size (.tup [.int (i : Nat), x])) { s with heap := h'', toks := tk + 1 } :=
      I.turnedNew (ch := [e, it]) (fun b ob hb q => nz (fun z => hb (by simp [z])) _ (hk b ob (fun z => hb (by simp [z])) (fun z => hb (by simp [z])) q)) hf (Nat.le_refl _) new
    refine ⟨.ref s.heap.objs.size, _, I1, rfl, ⟨_, x, rfl, I.hok.fresh (Nat.le_refl _), rfl, fun ys hy => by rw [I.tuple_inj hy hq]; exact hx⟩, ⟨⟨y, ?_⟩, hst.1.at fun o q => nz (Ne.symm n1) o q, n1, n2, n3⟩, fun b hb => ?_⟩
    · rw [show ((i + 1 : Nat) : Int) = (i : Int) + 1 by omega]
      exact he'
    · have hb' : b < s.heap.objs.size := by
        simp only [List.mem_cons, List.not_mem_nil, or_false] at hb
        rcases hb with rfl | rfl <;> assumption
      rw [upd_ne (Nat.ne_of_lt hb')]
      exact (hf b hb).1
  done := by
    intro X hP hw hK hc i pins s σ H E I hf st hg
    subst hP hw hK
    obtain ⟨⟨old, he⟩, hit, n1, n2, n3⟩ := st
    obtain ⟨xs, hq, hx⟩ := hg
    obtain ⟨its, rv, p, _⟩ := I.tuple hq
    obtain ⟨f0, f1, f2, f3, f4, f5⟩ := hf it (by simp)
    have hl := rv.length
    have hT : s.TypeIs (.ref e) "enumerate" := ⟨_, he, rfl⟩
    unfold pyNext
    refine wpAny_bind (wpAny_attempt (wpAny_callSpecial?_slot (name := Str.ofString "__next__") hT F.slot_enumerate_next (wpAny_call_entry F.slot_enumerate_next hT F.entry_enumerate_next ?_ (F.args_enumerate_next_1 _))))
    show wpAny _ _ (field (.ref e) 2 >>= _) _ _ _
    refine wpAny_bind (wpAny_field he rfl (x := Value.ref it) rfl (wpAny_bind (RZ.nextOf_tuple_end (show X.A.in1.handled = none from I.ok.hd hc) hit p (by simp; omega) fun h' x eb ⟨o, ho, hco⟩ => ?_)))
    refine wpAny_bind (wpAny_isInstance (T := "StopIteration") (b := true) ⟨o, ho, hco⟩ isSubtype_stop (wpAny_pure ?_))
    exact ⟨rfl, I.turned (t' := s.toks) (fun b o hb q => eb b o hb q) f0 f1 f3 f4 f5⟩
  self := fun A i s Q E st h => by
    obtain ⟨⟨_, he⟩, _⟩ := st
    exact wpAny_pyIter_enum he h
def iEnT (K : PySem.W.Frag) (ta : TA) : TI := fun σ H R => ta σ H fun vs H1 => ∃ a xs, vs = [V.ref a] ∧ SqT K H1 a xs ∧ R (IteT K a) H1
theorem pi_enT {X : Cx} {e : Expr} {ta : TA} {p pos tpos : Pos} {elts : List Expr} {kk : Nat} (hg : Gl X "enumerate") (hm : X.mg "enumerate" = none) (ha : PA X [e] ta) (hs : starEach [e] X.env = [(false, eval e X.env)] := by rfl) :
    PI X (.Tuple elts kk tpos) (.Call (.Name "enumerate" p) [e] [] pos) (iEnT X.K ta) := by
  refine ⟨fun pins s σ H R I h => Call_ (ld_blt I hg hm boot_enumerate (PyProof.Rows.callWith_type1 (thn (ha.run pos pins s σ H _ I h) fun us s1 ⟨vs, H1, I1, r1, q1⟩ => ?_) hs rfl))⟩
  obtain ⟨a, xs, rfl, hq, q⟩ := q1
  cases r1 with
  | cons r rr =>
    cases rr
    cases r
    obtain ⟨its, rv, p', _⟩ := I1.tuple hq
    obtain ⟨oa, ha', _⟩ := id p'
    have al : a < s1.heap.objs.size := Heap.lt_size ha'
    refine call_enT (show s1.heap.IsTuple a its.toArray from p') fun h' he hit hk => wpAny_pyIter_enum he ?_
    refine ⟨s1.heap.objs.size + 1, [s1.heap.objs.size + 1, s1.heap.objs.size], _, _, H1, rfl, I1.kept (t' := s1.toks) hk, turn_enT a _ _, ⟨⟨.none, he⟩, hit, Nat.succ_ne_self _, Nat.ne_of_lt al, Nat.ne_of_gt (Nat.lt_succ_of_lt al)⟩, fun b hb => ?_, q⟩
    have hle : s1.heap.objs.size ≤ b := by
      simp only [List.mem_cons, List.not_mem_nil, or_false] at hb
      rcases hb with rfl | rfl <;> (first | omega | (change (_ : Nat) ≠ (_ : Nat); omega) | (change (_ : Nat) < (_ : Nat); omega) | (change (_ : Nat) ≤ (_ : Nat); omega))
    exact I1.fpOk hle (I1.hok.fresh hle)
end Z3

set_option maxHeartbeats 2000000
/-! zip of a tuple and a list -/
namespace Z2
open PySem Z3
section
variable {prog : Program} {w : World} {A : Around} {E : Value → Shared → Prop} {s : Shared}
theorem upd2 {T : Addr} {p q x : Value} {k : Nat} {Q : Unit → Shared → Prop} (hT : IsPair s.heap T p q)
    (hq : ∀ g, g.get? T = some { cls := .type "tuple", data := .seq ((#[p, q] : Array Value).setIfInBounds k x) } → Heap.SameBut T s.heap g → Q () { s with heap := g }) : wpAny (model prog w) A (updateSeq T (·.setIfInBounds k x)) Q E s := by
  refine wpAny_updateSeq hT rfl (hq _ (by rw [Heap.get?_update_self _ hT rfl]; simp [Obj.mapSeq]) (Heap.SameBut.update ..))
/-- the zip at n + 4, its iterators at n, n + 1, the tuple of them at n + 2, its own tuple at n + 3 -/
structure St (n l1 l2 k : Nat) (f : Value) (h : Heap) : Prop where
  z : IsZip h (n + 4) (n + 2) (n + 3) f
  i : IsPair h (n + 2) (.ref n) (.ref (n + 1))
  o : ∃ p q, IsPair h (n + 3) p q
  a : h.IsTupleIter n l1 k
  b : h.IsListIter (n + 1) l2 k
def Out (n : Nat) (h h' : Heap) : Prop := ∀ c o, c ≠ n + 4 → c ≠ n + 3 → c ≠ n → c ≠ n + 1 → h.get? c = some o → h'.get? c = some o
theorem item {n l1 l2 k : Nat} {xs ys : Array Value} {x y : Value} {Q : Value → Shared → Prop} (q1 : l1 < n) (q2 : l2 < n) (st : St n l1 l2 k .none s.heap)
    (hl1 : s.heap.IsTuple l1 xs) (hl2 : s.heap.IsList l2 ys) (hx : xs[k]? = some x) (hy : ys[k]? = some y)
    (hQ : ∀ h', St n l1 l2 (k + 1) (rawInt s.heap.objs.size) h' → IsPair h' s.heap.objs.size x y → h'.objs.size = s.heap.objs.size + 1 → Out n s.heap h' → Q (.ref s.heap.objs.size) { s with heap := h' }) :
    wpAny (model prog w) A (Builtin.«zip.__next__» ⟨[.ref (n + 4)], []⟩) (fun fin s' => ∃ v, fin = .done (.ret v) ∧ Q v s') E s := by
  obtain ⟨hz, hI, ⟨p, q, hO⟩, h1, h2⟩ := st
  show wpAny _ _ (field (.ref (n + 4)) 2 >>= _) _ _ _
  refine wpAny_bind (wpAny_field hz rfl (x := Value.bool false) rfl ?_)
  show wpAny _ _ (field (.ref (n + 4)) 3 >>= _) _ _ _
  refine wpAny_bind (wpAny_field hz rfl (x := Value.ref (n + 2)) rfl (wpAny_bind (wpAny_seqItems hI rfl ?_)))
  show wpAny _ _ (Builtin.SmallTypes.ownedTupleIsFree (.ref (n + 4)) >>= _) _ _ _
  refine wpAny_bind ?_
  unfold Builtin.SmallTypes.ownedTupleIsFree
  refine wpAny_bind (wpAny_field hz rfl (x := Value.none) rfl (wpAny_pure ?_))
  simp only [if_true]
  refine wpAny_bind (wpAny_rule (wpAny_bind (wpAny_field hz rfl (x := Value.ref (n + 3)) rfl (wpAny_bind (wpAny_setField_rec hz (by simp) fun g1 z1 e1 => ?_)))))
  replace z1 : IsZip g1 (n + 4) (n + 2) (n + 3) .ellipsis := z1
  have E1 : ∀ c o, c ≠ n + 4 → s.heap.get? c = some o → g1.get? c = some o := fun c o hc e => e1.extBut _ _ hc e
  refine wpAny_bind ?_
  simp only [List.zipIdx_cons, List.zipIdx_nil, List.forIn_cons, List.forIn_nil]
  refine wpAny_bind (wpAny_bind (wpAny_onRaise ?_))
  show wpAny _ _ (Builtin.SmallTypes.nextOf (.ref n) >>= _) _ _ _
  refine wpAny_bind (RZ.nextOf_tuple_item (h1.extBut e1.extBut (by first | omega | (change (_ : Nat) ≠ (_ : Nat); omega) | (change (_ : Nat) < (_ : Nat); omega) | (change (_ : Nat) ≤ (_ : Nat); omega))) (hl1.extBut e1.extBut (by first | omega | (change (_ : Nat) ≠ (_ : Nat); omega) | (change (_ : Nat) < (_ : Nat); omega) | (change (_ : Nat) ≤ (_ : Nat); omega))) hx fun g2 a2 e2 => wpAny_pure ?_)
  have O2 : IsPair g2 (n + 3) p q := e2.extBut _ _ (by first | omega | (change (_ : Nat) ≠ (_ : Nat); omega) | (change (_ : Nat) < (_ : Nat); omega) | (change (_ : Nat) ≤ (_ : Nat); omega)) (E1 _ _ (by first | omega | (change (_ : Nat) ≠ (_ : Nat); omega) | (change (_ : Nat) < (_ : Nat); omega) | (change (_ : Nat) ≤ (_ : Nat); omega)) hO)
  refine wpAny_bind (wpAny_seqItems O2 rfl (wpAny_bind (upd2 O2 fun g3 O3 e3 => ?_)))
  replace O3 : IsPair g3 (n + 3) x q := O3
  have E3 : ∀ c o, c ≠ n + 4 → c ≠ n + 3 → c ≠ n → s.heap.get? c = some o → g3.get? c = some o := fun c o c1 c2 c3 e => e3.extBut _ _ c2 (e2.extBut _ _ c3 (E1 _ _ c1 e))
  refine wpAny_bind (wpAny_letGo (wpAny_pure ?_))
  refine wpAny_bind (wpAny_bind (wpAny_onRaise ?_))
  show wpAny _ _ (Builtin.SmallTypes.nextOf (.ref (n + 1)) >>= _) _ _ _
  refine wpAny_bind (wpAny_nextOf_list_item (h2.at fun o e => E3 _ o (by first | omega | (change (_ : Nat) ≠ (_ : Nat); omega) | (change (_ : Nat) < (_ : Nat); omega) | (change (_ : Nat) ≤ (_ : Nat); omega)) (by first | omega | (change (_ : Nat) ≠ (_ : Nat); omega) | (change (_ : Nat) < (_ : Nat); omega) | (change (_ : Nat) ≤ (_ : Nat); omega)) (by first | omega | (change (_ : Nat) ≠ (_ : Nat); omega) | (change (_ : Nat) < (_ : Nat); omega) | (change (_ : Nat) ≤ (_ : Nat); omega)) e) (hl2.at fun o e => E3 _ o (by first | omega | (change (_ : Nat) ≠ (_ : Nat); omega) | (change (_ : Nat) < (_ : Nat); omega) | (change (_ : Nat) ≤ (_ : Nat); omega)) (by first | omega | (change (_ : Nat) ≠ (_ : Nat); omega) | (change (_ : Nat) < (_ : Nat); omega) | (change (_ : Nat) ≤ (_ : Nat); omega)) (by first | omega | (change (_ : Nat) ≠ (_ : Nat); omega) | (change (_ : Nat) < (_ : Nat); omega) | (change (_ : Nat) ≤ (_ : Nat); omega)) e) hy fun g4 b4 e4 => wpAny_pure ?_)
  have O4 : IsPair g4 (n + 3) x q := e4.extBut _ _ (by first | omega | (change (_ : Nat) ≠ (_ : Nat); omega) | (change (_ : Nat) < (_ : Nat); omega) | (change (_ : Nat) ≤ (_ : Nat); omega)) O3
  refine wpAny_bind (wpAny_seqItems O4 rfl (wpAny_bind (upd2 O4 fun g7 O7 e7 => ?_)))
  replace O7 : IsPair g7 (n + 3) x y := O7
  have E7 : Out n s.heap g7 := fun c o c1 c2 c3 c4 e => e7.extBut _ _ c2 (e4.extBut _ _ c4 (E3 _ _ c1 c2 c3 e))
  refine wpAny_bind (wpAny_letGo (wpAny_pure (wpAny_pure ?_)))
  refine wpAny_bind (wpAny_seqItems O7 rfl (wpAny_bind (wpAny_newTuple ?_)))
  have sz : g7.objs.size = s.heap.objs.size := by rw [e7.1, e4.1, e3.1, e2.1, e1.1]
  have z7 : IsZip g7 (n + 4) (n + 2) (n + 3) .ellipsis := e7.extBut _ _ (by first | omega | (change (_ : Nat) ≠ (_ : Nat); omega) | (change (_ : Nat) < (_ : Nat); omega) | (change (_ : Nat) ≤ (_ : Nat); omega)) (e4.extBut _ _ (by first | omega | (change (_ : Nat) ≠ (_ : Nat); omega) | (change (_ : Nat) < (_ : Nat); omega) | (change (_ : Nat) ≤ (_ : Nat); omega)) (e3.extBut _ _ (by first | omega | (change (_ : Nat) ≠ (_ : Nat); omega) | (change (_ : Nat) < (_ : Nat); omega) | (change (_ : Nat) ≤ (_ : Nat); omega)) (e2.extBut _ _ (by first | omega | (change (_ : Nat) ≠ (_ : Nat); omega) | (change (_ : Nat) < (_ : Nat); omega) | (change (_ : Nat) ≤ (_ : Nat); omega)) z1)))
  have a7 : g7.IsTupleIter n l1 (k + 1) := a2.at fun o e => e7.extBut _ _ (by first | omega | (change (_ : Nat) ≠ (_ : Nat); omega) | (change (_ : Nat) < (_ : Nat); omega) | (change (_ : Nat) ≤ (_ : Nat); omega)) (e4.extBut _ _ (by first | omega | (change (_ : Nat) ≠ (_ : Nat); omega) | (change (_ : Nat) < (_ : Nat); omega) | (change (_ : Nat) ≤ (_ : Nat); omega)) (e3.extBut _ _ (by first | omega | (change (_ : Nat) ≠ (_ : Nat); omega) | (change (_ : Nat) < (_ : Nat); omega) | (change (_ : Nat) ≤ (_ : Nat); omega)) e))
  have b7 : g7.IsListIter (n + 1) l2 (k + 1) := b4.at fun o e => e7.extBut _ _ (by first | omega | (change (_ : Nat) ≠ (_ : Nat); omega) | (change (_ : Nat) < (_ : Nat); omega) | (change (_ : Nat) ≤ (_ : Nat); omega)) e
  have i7 : IsPair g7 (n + 2) (.ref n) (.ref (n + 1)) := E7 _ _ (by first | omega | (change (_ : Nat) ≠ (_ : Nat); omega) | (change (_ : Nat) < (_ : Nat); omega) | (change (_ : Nat) ≤ (_ : Nat); omega)) (by first | omega | (change (_ : Nat) ≠ (_ : Nat); omega) | (change (_ : Nat) < (_ : Nat); omega) | (change (_ : Nat) ≤ (_ : Nat); omega)) (by first | omega | (change (_ : Nat) ≠ (_ : Nat); omega) | (change (_ : Nat) < (_ : Nat); omega) | (change (_ : Nat) ≤ (_ : Nat); omega)) (by first | omega | (change (_ : Nat) ≠ (_ : Nat); omega) | (change (_ : Nat) < (_ : Nat); omega) | (change (_ : Nat) ≤ (_ : Nat); omega)) hI
  have zl : n + 4 < g7.objs.size := Heap.lt_size z7
  show wpAny _ _ (Builtin.SmallTypes.ownedTupleHandOut (.ref (n + 4)) (.ref g7.objs.size) >>= _) _ _ _
  refine wpAny_bind ?_
  unfold Builtin.SmallTypes.ownedTupleHandOut
  have z8 : IsZip (g7.push { cls := .type "tuple", data := .seq #[x, y] }) (n + 4) (n + 2) (n + 3) .ellipsis := Heap.get?_push_of_some _ z7
  refine wpAny_bind (wpAny_setField_rec z8 (by simp) fun g9 z9 e9 => ?_)
  replace z9 : IsZip g9 (n + 4) (n + 2) (n + 3) (rawInt g7.objs.size) := z9
  refine wpAny_setField_rec z9 (by simp) fun h' zz ez => ?_
  replace zz : IsZip h' (n + 4) (n + 2) (n + 3) (rawInt g7.objs.size) := zz
  have up : ∀ c o, c ≠ n + 4 → g7.get? c = some o → h'.get? c = some o := fun c o c1 e => ez.extBut _ _ c1 (e9.extBut _ _ c1 (Heap.get?_push_of_some _ e))
  have t8 : IsPair h' g7.objs.size x y := ez.extBut _ _ (Nat.ne_of_gt zl) (e9.extBut _ _ (Nat.ne_of_gt zl) (Heap.get?_push_size _ rfl))
  have sz2 : h'.objs.size = g7.objs.size + 1 := by rw [ez.1, e9.1, Heap.size_push]
  rw [sz] at zz t8 sz2
  refine wpAny_pure ⟨_, rfl, ?_⟩
  show Q (.ref g7.objs.size) _
  rw [sz]
  exact hQ h' ⟨zz, up _ _ (by first | omega | (change (_ : Nat) ≠ (_ : Nat); omega) | (change (_ : Nat) < (_ : Nat); omega) | (change (_ : Nat) ≤ (_ : Nat); omega)) i7, ⟨_, _, up _ _ (by first | omega | (change (_ : Nat) ≠ (_ : Nat); omega) | (change (_ : Nat) < (_ : Nat); omega) | (change (_ : Nat) ≤ (_ : Nat); omega)) O7⟩, a7.at fun o e => up _ o (by first | omega | (change (_ : Nat) ≠ (_ : Nat); omega) | (change (_ : Nat) < (_ : Nat); omega) | (change (_ : Nat) ≤ (_ : Nat); omega)) e, b7.at fun o e => up _ o (by first | omega | (change (_ : Nat) ≠ (_ : Nat); omega) | (change (_ : Nat) < (_ : Nat); omega) | (change (_ : Nat) ≤ (_ : Nat); omega)) e⟩ t8 sz2 fun c o c1 c2 c3 c4 e => up c o c1 (E7 c o c1 c2 c3 c4 e)
theorem fin {n l1 l2 k : Nat} {xs ys : Array Value} {Q : Fin → Shared → Prop} (hh : A.handled = none) (q1 : l1 < n) (q2 : l2 < n) (st : St n l1 l2 k .none s.heap)
    (hl1 : s.heap.IsTuple l1 xs) (hl2 : s.heap.IsList l2 ys) (hend : xs[k]? = none ∨ ys[k]? = none)
    (hE : ∀ h' e, Out n s.heap h' → (∃ o, h'.get? e = some o ∧ o.cls = .type "StopIteration") → E (.ref e) { s with heap := h' }) : wpAny (model prog w) A (Builtin.«zip.__next__» ⟨[.ref (n + 4)], []⟩) Q E s := by
  obtain ⟨hz, hI, ⟨p, q, hO⟩, h1, h2⟩ := st
  show wpAny _ _ (field (.ref (n + 4)) 2 >>= _) _ _ _
  refine wpAny_bind (wpAny_field hz rfl (x := Value.bool false) rfl ?_)
  show wpAny _ _ (field (.ref (n + 4)) 3 >>= _) _ _ _
  refine wpAny_bind (wpAny_field hz rfl (x := Value.ref (n + 2)) rfl (wpAny_bind (wpAny_seqItems hI rfl ?_)))
  show wpAny _ _ (Builtin.SmallTypes.ownedTupleIsFree (.ref (n + 4)) >>= _) _ _ _
  refine wpAny_bind ?_
  unfold Builtin.SmallTypes.ownedTupleIsFree
  refine wpAny_bind (wpAny_field hz rfl (x := Value.none) rfl (wpAny_pure ?_))
  simp only [if_true]
  refine wpAny_bind (wpAny_rule (wpAny_bind (wpAny_field hz rfl (x := Value.ref (n + 3)) rfl (wpAny_bind (wpAny_setField_rec hz (by simp) fun g1 z1 e1 => ?_)))))
  replace z1 : IsZip g1 (n + 4) (n + 2) (n + 3) .ellipsis := z1
  have E1 : ∀ c o, c ≠ n + 4 → s.heap.get? c = some o → g1.get? c = some o := fun c o hc e => e1.extBut _ _ hc e
  have last : ∀ {g2 : Heap} {e : Addr} {S : Shared}, S = { s with heap := g2 } → IsZip g2 (n + 4) (n + 2) (n + 3) .ellipsis → Out n s.heap g2 → (∃ o, g2.get? e = some o ∧ o.cls = .type "StopIteration") →
      wpAny (model prog w) A (setField (.ref (n + 4)) 0 .none) (fun _ s' => E (.ref e) s') E S := by
    rintro g2 e S rfl zg O2 ⟨oe, he, hc⟩
    have ne : e ≠ n + 4 := fun x => by subst x; rw [zg] at he; cases he; simp at hc
    exact wpAny_setField_rec (s := { s with heap := g2 }) zg (by simp) fun g3 _ e3 => hE g3 e (fun c o c1 c2 c3 c4 x => e3.extBut _ _ c1 (O2 c o c1 c2 c3 c4 x)) ⟨oe, e3.extBut _ _ ne he, hc⟩
  refine wpAny_bind ?_
  simp only [List.zipIdx_cons, List.zipIdx_nil, List.forIn_cons, List.forIn_nil]
  refine wpAny_bind (wpAny_bind (wpAny_onRaise ?_))
  show wpAny _ _ (Builtin.SmallTypes.nextOf (.ref n) >>= _) _ _ _
  cases hx : xs[k]? with
  | none =>
    exact wpAny_bind (RZ.nextOf_tuple_end hh (h1.extBut e1.extBut (by first | omega | (change (_ : Nat) ≠ (_ : Nat); omega) | (change (_ : Nat) < (_ : Nat); omega) | (change (_ : Nat) ≤ (_ : Nat); omega))) (hl1.extBut e1.extBut (by first | omega | (change (_ : Nat) ≠ (_ : Nat); omega) | (change (_ : Nat) < (_ : Nat); omega) | (change (_ : Nat) ≤ (_ : Nat); omega))) hx fun g2 e e2 he => last rfl (e2 _ _ (by first | omega | (change (_ : Nat) ≠ (_ : Nat); omega) | (change (_ : Nat) < (_ : Nat); omega) | (change (_ : Nat) ≤ (_ : Nat); omega)) z1) (fun c o c1 c2 c3 c4 x => e2 _ _ c3 (E1 _ _ c1 x)) he)
  | some x =>
    have hy : ys[k]? = none := by rcases hend with h | h; (rw [hx] at h; cases h); exact h
    refine wpAny_bind (RZ.nextOf_tuple_item (h1.extBut e1.extBut (by first | omega | (change (_ : Nat) ≠ (_ : Nat); omega) | (change (_ : Nat) < (_ : Nat); omega) | (change (_ : Nat) ≤ (_ : Nat); omega))) (hl1.extBut e1.extBut (by first | omega | (change (_ : Nat) ≠ (_ : Nat); omega) | (change (_ : Nat) < (_ : Nat); omega) | (change (_ : Nat) ≤ (_ : Nat); omega))) hx fun g2 a2 e2 => wpAny_pure ?_)
    have O2 : IsPair g2 (n + 3) p q := e2.extBut _ _ (by first | omega | (change (_ : Nat) ≠ (_ : Nat); omega) | (change (_ : Nat) < (_ : Nat); omega) | (change (_ : Nat) ≤ (_ : Nat); omega)) (E1 _ _ (by first | omega | (change (_ : Nat) ≠ (_ : Nat); omega) | (change (_ : Nat) < (_ : Nat); omega) | (change (_ : Nat) ≤ (_ : Nat); omega)) hO)
    refine wpAny_bind (wpAny_seqItems O2 rfl (wpAny_bind (upd2 O2 fun g3 O3 e3 => ?_)))
    have z3 : IsZip g3 (n + 4) (n + 2) (n + 3) .ellipsis := e3.extBut _ _ (by first | omega | (change (_ : Nat) ≠ (_ : Nat); omega) | (change (_ : Nat) < (_ : Nat); omega) | (change (_ : Nat) ≤ (_ : Nat); omega)) (e2.extBut _ _ (by first | omega | (change (_ : Nat) ≠ (_ : Nat); omega) | (change (_ : Nat) < (_ : Nat); omega) | (change (_ : Nat) ≤ (_ : Nat); omega)) z1)
    have E3 : ∀ c o, c ≠ n + 4 → c ≠ n + 3 → c ≠ n → s.heap.get? c = some o → g3.get? c = some o := fun c o c1 c2 c3 e => e3.extBut _ _ c2 (e2.extBut _ _ c3 (E1 _ _ c1 e))
    refine wpAny_bind (wpAny_letGo (wpAny_pure ?_))
    refine wpAny_bind (wpAny_bind (wpAny_onRaise ?_))
    show wpAny _ _ (Builtin.SmallTypes.nextOf (.ref (n + 1)) >>= _) _ _ _
    exact wpAny_bind (wpAny_nextOf_list_end hh (h2.at fun o e => E3 _ o (by first | omega | (change (_ : Nat) ≠ (_ : Nat); omega) | (change (_ : Nat) < (_ : Nat); omega) | (change (_ : Nat) ≤ (_ : Nat); omega)) (by first | omega | (change (_ : Nat) ≠ (_ : Nat); omega) | (change (_ : Nat) < (_ : Nat); omega) | (change (_ : Nat) ≤ (_ : Nat); omega)) (by first | omega | (change (_ : Nat) ≠ (_ : Nat); omega) | (change (_ : Nat) < (_ : Nat); omega) | (change (_ : Nat) ≤ (_ : Nat); omega)) e) (hl2.at fun o e => E3 _ o (by first | omega | (change (_ : Nat) ≠ (_ : Nat); omega) | (change (_ : Nat) < (_ : Nat); omega) | (change (_ : Nat) ≤ (_ : Nat); omega)) (by first | omega | (change (_ : Nat) ≠ (_ : Nat); omega) | (change (_ : Nat) < (_ : Nat); omega) | (change (_ : Nat) ≤ (_ : Nat); omega)) (by first | omega | (change (_ : Nat) ≠ (_ : Nat); omega) | (change (_ : Nat) < (_ : Nat); omega) | (change (_ : Nat) ≤ (_ : Nat); omega)) e) hy fun g4 e e4 he => last rfl (e4 _ _ (by first | omega | (change (_ : Nat) ≠ (_ : Nat); omega) | (change (_ : Nat) < (_ : Nat); omega) | (change (_ : Nat) ≤ (_ : Nat); omega)) z3) (fun c o c1 c2 c3 c4 x => e4 _ _ c4 (E3 _ _ c1 c2 c3 x)) he)
theorem next_item {n l1 l2 k : Nat} {xs ys : Array Value} {x y : Value} {Q : Option Value → Shared → Prop} (q1 : l1 < n) (q2 : l2 < n) (st : St n l1 l2 k .none s.heap)
    (hl1 : s.heap.IsTuple l1 xs) (hl2 : s.heap.IsList l2 ys) (hx : xs[k]? = some x) (hy : ys[k]? = some y)
    (hQ : ∀ h', St n l1 l2 (k + 1) (rawInt s.heap.objs.size) h' → IsPair h' s.heap.objs.size x y → h'.objs.size = s.heap.objs.size + 1 → Out n s.heap h' → Q (some (.ref s.heap.objs.size)) { s with heap := h' }) : wpAny (model prog w) A (pyNext (.ref (n + 4))) Q E s := by
  have hT : s.TypeIs (.ref (n + 4)) "zip" := ⟨_, st.z, rfl⟩
  unfold pyNext
  exact wpAny_bind (wpAny_attempt (wpAny_callSpecial?_slot (name := Str.ofString "__next__") hT F.slot_zip_next (wpAny_call_entry F.slot_zip_next hT F.entry_zip_next (item q1 q2 st hl1 hl2 hx hy fun h' a b c d => wpAny_pure (hQ h' a b c d)) (F.args_zip_next_1 _))))
theorem next_fin {n l1 l2 k : Nat} {xs ys : Array Value} {Q : Option Value → Shared → Prop} (hh : A.handled = none) (q1 : l1 < n) (q2 : l2 < n) (st : St n l1 l2 k .none s.heap)
    (hl1 : s.heap.IsTuple l1 xs) (hl2 : s.heap.IsList l2 ys) (hend : xs[k]? = none ∨ ys[k]? = none)
    (hQ : ∀ h', Out n s.heap h' → Q none { s with heap := h' }) : wpAny (model prog w) A (pyNext (.ref (n + 4))) Q E s := by
  have hT : s.TypeIs (.ref (n + 4)) "zip" := ⟨_, st.z, rfl⟩
  unfold pyNext
  exact wpAny_bind (wpAny_attempt (wpAny_callSpecial?_slot (name := Str.ofString "__next__") hT F.slot_zip_next (wpAny_call_entry F.slot_zip_next hT F.entry_zip_next (fin hh q1 q2 st hl1 hl2 hend fun h' e hk ⟨o, ho, hc⟩ => wpAny_bind (wpAny_isInstance (T := "StopIteration") (b := true) ⟨o, ho, hc⟩ isSubtype_stop (wpAny_pure (hQ _ hk)))) (F.args_zip_next_1 _))))
end
/-! making one -/
abbrev itL (l : Addr) : Obj := { cls := .type "list_iterator", data := .fields #[.ref l, .int 0 0] }
abbrev m2 (h : Heap) (l1 l2 : Addr) : Heap := (h.push (itO l1)).push (itL l2)
abbrev m3 (h : Heap) (l1 l2 : Addr) : Heap := (m2 h l1 l2).push { cls := .type "tuple", data := .seq #[.ref h.objs.size, .ref (h.push (itO l1)).objs.size] }
abbrev m4 (h : Heap) (l1 l2 : Addr) : Heap := (m3 h l1 l2).push { cls := .type "tuple", data := .seq #[.none, .none] }
abbrev m5 (h : Heap) (l1 l2 : Addr) : Heap := (m4 h l1 l2).push { cls := .type "zip", data := .fields #[.none, .bool false, .bool false, .ref (m2 h l1 l2).objs.size, .ref (m3 h l1 l2).objs.size] }
theorem made (l1 l2 : Addr) (xs ys : Array Value) : Meets (Builtin.«zip.__new__» ⟨[.type "zip", .ref l1, .ref l2], []⟩) (fun _ R s => s.heap.IsTuple l1 xs ∧ s.heap.IsList l2 ys ∧
    R (.ok (.ret (.ref (m4 s.heap l1 l2).objs.size))) { s with heap := m5 s.heap l1 l2 }) :=
  .of_wp fun prog w A R s h => by
    obtain ⟨hp, g, d, tk, os⟩ := s
    obtain ⟨hl1, hl2, h⟩ := h
    have hsub := sub_zip
    have hL1 : Heap.IsTuple (Shared.heap ⟨hp, g, d, tk, os⟩) l1 xs := hl1
    have hL2 : Heap.IsList (Shared.heap ⟨hp.push { cls := .type "tuple_iterator", data := .fields #[.ref l1, .int 0 0] }, g, d, tk, os⟩) l2 ys := Heap.IsList.push hl2 _
    wp_walk using wpAny_pyIter_tuple hL1, wpAny_pyIter_list hL2
    exact ⟨_, rfl, h⟩
section
variable {prog : Program} {w : World} {A : Around} {E : Value → Shared → Prop} {s : Shared}
theorem call2 {l1 l2 : Addr} {xs ys : Array Value} {Q : Value → Shared → Prop} (hl1 : s.heap.IsTuple l1 xs) (hl2 : s.heap.IsList l2 ys)
    (hq : ∀ h', St s.heap.objs.size l1 l2 0 .none h' → (∀ c o, s.heap.get? c = some o → h'.get? c = some o) → Q (.ref (s.heap.objs.size + 4)) { s with heap := h' }) :
    wpAny (model prog w) A (call (.type "zip") [.ref l1, .ref l2]) Q E s := by
  refine callType_new F.called_zip (by decide) (F.typeCall_zip_2 _ _) (F.newCall_zip_2 _ _) (fun obj => F.args_object_init_3 obj _ _) F.entry_zip_new (made l1 l2 xs ys) ⟨hl1, hl2, ?_⟩
  have z1 : (s.heap.push (itO l1)).objs.size = s.heap.objs.size + 1 := Heap.size_push ..
  have z2 : (m2 s.heap l1 l2).objs.size = s.heap.objs.size + 2 := by rw [Heap.size_push, z1]
  have z3 : (m3 s.heap l1 l2).objs.size = s.heap.objs.size + 3 := by rw [Heap.size_push, z2]
  have z4 : (m4 s.heap l1 l2).objs.size = s.heap.objs.size + 4 := by rw [Heap.size_push, z3]
  have up1 : ∀ {h : Heap} {o o' : Obj} {c : Addr}, h.get? c = some o → (h.push o').get? c = some o := fun e => Heap.get?_push_of_some _ e
  have g5 : (m5 s.heap l1 l2).get? (m4 s.heap l1 l2).objs.size = some _ := Heap.get?_push_size _ rfl
  have g4 : (m5 s.heap l1 l2).get? (m3 s.heap l1 l2).objs.size = some _ := up1 (Heap.get?_push_size _ rfl)
  have g3 : (m5 s.heap l1 l2).get? (m2 s.heap l1 l2).objs.size = some _ := up1 (up1 (Heap.get?_push_size _ rfl))
  have g2 : (m5 s.heap l1 l2).get? (s.heap.push (itO l1)).objs.size = some _ := up1 (up1 (up1 (Heap.get?_push_size _ rfl)))
  have g1 : (m5 s.heap l1 l2).get? s.heap.objs.size = some _ := up1 (up1 (up1 (up1 (Heap.get?_push_size _ rfl))))
  show _ ∧ _
  rw [z2, z3, z4] at g5
  rw [z3] at g4
  rw [z1, z2] at g3
  rw [z1] at g2
  rw [z4]
  exact ⟨⟨_, g5, rfl⟩, hq _ ⟨g5, g3, ⟨_, _, g4⟩, ⟨_, g1, rfl, rfl⟩, ⟨_, g2, rfl, rfl⟩⟩ fun c o x => up1 (up1 (up1 (up1 (up1 x))))⟩
end
open PySem.Spec PyProof.Rows L2
def Itz2 (K : PySem.W.Frag) (a b : Addr) : It :=
  ⟨fun i H => ∃ (xs ys : List V) (x y : V), SqT K H a xs ∧ SqL K H b ys ∧ xs[i]? = some x ∧ ys[i]? = some y,
    fun i H v H' => ∃ T x y, v = .ref T ∧ H T = none ∧ H' = upd H T (.tup [x, y]) ∧ (∀ xs, SqT K H a xs → xs[i]? = some x) ∧ (∀ ys, SqL K H b ys → ys[i]? = some y),
    fun i H => ∃ xs ys : List V, SqT K H a xs ∧ SqL K H b ys ∧ (xs.length ≤ i ∨ ys.length ≤ i)⟩
theorem turn2 {P : Program} {w : World} {K : PySem.W.Frag} {elts : List Expr} {kk : Nat} {tpos : Pos} {a b : Addr} {n : Nat} (q1 : a < n) (q2 : b < n) :
    Turn P w K (.Tuple elts kk tpos) (Itz2 K a b) [n + 4, n + 2, n + 3, n, n + 1] (n + 4) (fun i h => St n a b i .none h) where
  mem := by simp
  obj := fun i h st d hd => by
    obtain ⟨hz, hI, ⟨p, q, hO⟩, ⟨o1, e1, _, d1⟩, ⟨o2, e2, _, d2⟩⟩ := st
    simp only [List.mem_cons, List.not_mem_nil, or_false] at hd
    rcases hd with rfl | rfl | rfl | rfl | rfl
    · exact ⟨_, hz, fun v x => nomatch x⟩
    · exact ⟨_, hI, fun v x => nomatch x⟩
    · exact ⟨_, hO, fun v x => nomatch x⟩
    · exact ⟨o1, e1, fun v x => by rw [d1] at x; cases x⟩
    · exact ⟨o2, e2, fun v x => by rw [d2] at x; cases x⟩
  keep := fun i h h' st k => by
    obtain ⟨hz, hI, ⟨p, q, hO⟩, h1, h2⟩ := st
    exact ⟨k _ (by simp) _ hz, k _ (by simp) _ hI, ⟨p, q, k _ (by simp) _ hO⟩, h1.at fun o q => k _ (by simp) o q, h2.at fun o q => k _ (by simp) o q⟩
  item := by
    intro X hP hw hK hc i pins s σ H E I hf st hg
    subst hP hw hK
    obtain ⟨xs, ys, x, y, hqx, hqy, hx, hy⟩ := hg
    obtain ⟨i1, rv1, p1, _⟩ := I.tuple hqx
    obtain ⟨i2, rv2, p2, _⟩ := I.list hqy
    obtain ⟨u1, hu1, ru1⟩ := rv1.get hx
    obtain ⟨u2, hu2, ru2⟩ := rv2.get hy
    have zl : n + 4 < s.heap.objs.size := Heap.lt_size st.z
    refine next_item q1 q2 st p1 p2.isList (x := u1) (y := u2) (by simpa using hu1) (by simpa using hu2) fun h' st' hT hsz hk => ?_
    refine ⟨_, rfl, wpAny_letOwnedTupleGo_zip (s := { s with heap := h' }) st'.z fun h'' zz sb => ?_⟩
    have nz : ∀ {d : Addr}, d ≠ n + 4 → ∀ o, h'.get? d = some o → h''.get? d = some o := fun hd o e => (sb.2 _ hd).trans e
    have hT2 : h''.get? s.heap.objs.size = some { cls := .type "tuple", data := .seq #[u1, u2] } := nz (Nat.ne_of_gt zl) _ hT
    have new : ObjOk X.prog X.w (upd H s.heap.objs.size (.tup [x, y])) h'' s.heap.objs.size (.tup [x, y]) :=
      ⟨by show 2 ≤ sizeLine; decide, [u1, u2], .cons ru1 (.cons ru2 .nil), ⟨_, hT2, rfl, _, rfl⟩⟩
    have I1 : Inv X pins σ (upd H s.heap.objs.size (.tup [x, y])) { s with heap := h'' } :=
      I.turnedNew (t' := s.toks) (ch := [n + 4, n + 2, n + 3, n, n + 1]) (fun d o hb q => nz (fun q' => hb (by simp [q'])) _ (hk d o (fun q' => hb (by simp [q'])) (fun q' => hb (by simp [q'])) (fun q' => hb (by simp [q'])) (fun q' => hb (by simp [q'])) q)) hf (Nat.le_refl _) new
    refine ⟨.ref s.heap.objs.size, _, I1, rfl, ⟨_, x, y, rfl, I.hok.fresh (Nat.le_refl _), rfl, fun l hl => by rw [I.tuple_inj hl hqx]; exact hx, fun l hl => by rw [I.list_inj hl hqy]; exact hy⟩,
      ⟨zz, nz (by first | omega | (change (_ : Nat) ≠ (_ : Nat); omega) | (change (_ : Nat) < (_ : Nat); omega) | (change (_ : Nat) ≤ (_ : Nat); omega)) _ st'.i, ?_, st'.a.at fun o q => nz (by first | omega | (change (_ : Nat) ≠ (_ : Nat); omega) | (change (_ : Nat) < (_ : Nat); omega) | (change (_ : Nat) ≤ (_ : Nat); omega)) o q, st'.b.at fun o q => nz (by first | omega | (change (_ : Nat) ≠ (_ : Nat); omega) | (change (_ : Nat) < (_ : Nat); omega) | (change (_ : Nat) ≤ (_ : Nat); omega)) o q⟩, fun d hd => ?_⟩
    · obtain ⟨p, q, hO⟩ := st'.o
      exact ⟨p, q, nz (by first | omega | (change (_ : Nat) ≠ (_ : Nat); omega) | (change (_ : Nat) < (_ : Nat); omega) | (change (_ : Nat) ≤ (_ : Nat); omega)) _ hO⟩
    · have hlt : d < s.heap.objs.size := by
        simp only [List.mem_cons, List.not_mem_nil, or_false] at hd
        rcases hd with rfl | rfl | rfl | rfl | rfl <;> (first | omega | (change (_ : Nat) ≠ (_ : Nat); omega) | (change (_ : Nat) < (_ : Nat); omega) | (change (_ : Nat) ≤ (_ : Nat); omega))
      rw [upd_ne (Nat.ne_of_lt hlt)]
      exact (hf d hd).1
  done := by
    intro X hP hw hK hc i pins s σ H E I hf st hg
    subst hP hw hK
    obtain ⟨xs, ys, hqx, hqy, hend⟩ := hg
    obtain ⟨i1, rv1, p1, _⟩ := I.tuple hqx
    obtain ⟨i2, rv2, p2, _⟩ := I.list hqy
    have l1 := rv1.length
    have l2 := rv2.length
    have he : i1.toArray[i]? = none ∨ i2.toArray[i]? = none := by
      rcases hend with q | q
      · exact .inl (by simp; omega)
      · exact .inr (by simp; omega)
    exact next_fin (I.ok.hd hc) q1 q2 st p1 p2.isList he fun h' hk => ⟨rfl, I.turnedL (t' := s.toks) (ch := [n + 4, n + 2, n + 3, n, n + 1]) (fun d o hb q =>
      hk d o (fun q' => hb (by simp [q'])) (fun q' => hb (by simp [q'])) (fun q' => hb (by simp [q'])) (fun q' => hb (by simp [q'])) q) hf⟩
  self := fun A i s Q E st h => wpAny_pyIter_zip st.z h
section
variable {X : Cx}
def iZip2 (K : PySem.W.Frag) (ta : TA) : TI := fun σ H R => ta σ H fun vs H1 => ∃ a b xs ys, vs = [V.ref a, V.ref b] ∧ SqT K H1 a xs ∧ SqL K H1 b ys ∧ R (Itz2 K a b) H1
theorem pi_zip2 {e e2 : Expr} {ta : TA} {p pos tpos : Pos} {elts : List Expr} {kk : Nat} (hg : Gl X "zip") (hm : X.mg "zip" = none) (ha : PA X [e, e2] ta)
    (hs : starEach [e, e2] X.env = (false, eval e X.env) :: starEach [e2] X.env := by rfl) (hpl : (backTo pos (starEach [e2] X.env)).any (·.1) = false := by rfl) :
    PI X (.Tuple elts kk tpos) (.Call (.Name "zip" p) [e, e2] [] pos) (iZip2 X.K ta) := by
  refine ⟨fun pins s σ H R I h => Call_ (ld_blt I hg hm PyProof.Rows.boot_zip (PyProof.Rows.callWith_type1 (thn (ha.run pos pins s σ H _ I h) fun us s1 ⟨vs, H1, I1, r1, q1⟩ => ?_) hs hpl))⟩
  obtain ⟨a, b, xs, ys, rfl, h1, h2, q⟩ := q1
  cases r1 with
  | cons r1 rv =>
    cases rv with
    | cons r2 rv =>
      cases rv
      cases r1
      cases r2
      obtain ⟨i1, rv1, p1, _⟩ := I1.tuple h1
      obtain ⟨i2, rv2, p2, _⟩ := I1.list h2
      obtain ⟨o1, ho1, _⟩ := id p1
      obtain ⟨o2, ho2, _⟩ := id p2.isList
      refine call2 (show s1.heap.IsTuple a i1.toArray from p1) (show s1.heap.IsList b i2.toArray from p2.isList) fun h' st hk => ?_
      have T := turn2 (P := X.prog) (w := X.w) (K := X.K) (elts := elts) (kk := kk) (tpos := tpos) (Heap.lt_size ho1) (Heap.lt_size ho2)
      refine T.self _ 0 _ _ _ st ?_
      refine ⟨_, [s1.heap.objs.size + 4, s1.heap.objs.size + 2, s1.heap.objs.size + 3, s1.heap.objs.size, s1.heap.objs.size + 1], _, _, H1, rfl, I1.kept (t' := s1.toks) hk, T, st, (fun d hd => ?_), q⟩
      have hle : s1.heap.objs.size ≤ d := by
        simp only [List.mem_cons, List.not_mem_nil, or_false] at hd
        rcases hd with rfl | rfl | rfl | rfl | rfl <;> (first | omega | (change (_ : Nat) ≠ (_ : Nat); omega) | (change (_ : Nat) < (_ : Nat); omega) | (change (_ : Nat) ≤ (_ : Nat); omega))
      exact I1.fpOk hle (I1.hok.fresh hle)
end
end Z2

set_option maxHeartbeats 4000000
namespace Ev
open PySem PySem.Spec PyProof.Rows L2 GenW

/-! ### a generator expression's own context -/
abbrev cloG (X : Cx) (scope : Scope) : List (Str × Addr) := cloFrom X.env.cells scope.names []
abbrev envG (X : Cx) (scope : Scope) (C : Addr) (code : Value) : Env := genEnv scope (cloG X scope) C code builtinsNs X.env
abbrev gx (X : Cx) (A : Around) (s : Shared) (H : Hp) (cenv : Env) (fp : List Addr) : Cx :=
  { X with A := A, s_0 := s, H_0 := H, env := cenv, outer := X.stack, stack := cenv :: X.stack, ex := fp, fn := fun _ => false, calm := true, pn := [], xe := fun _ _ => False }
structure GnOk (N : List Str) (sc scope : Scope) (own : List (Str × Nat)) : Prop where
  blk : BlkOk N sc scope own
  nc : ∀ y ∈ scope.names, y.2 ≠ .cell
  dot : scope.names.lookup (".0" : Str) = some NameKind.local
  co : scope.isCoroutine = false
theorem gnOk_by {N : List Str} {sc scope : Scope} {own : List (Str × Nat)} (h : gnC N sc scope own = true) : GnOk N sc scope own := by
  unfold gnC at h
  simp only [Bool.and_eq_true, List.all_eq_true, decide_eq_true_eq, Bool.not_eq_true'] at h
  exact ⟨blkOk_by h.1.1.1, h.1.1.2, h.1.2, h.2⟩

section
variable {X : Cx} {pins : List (Addr × Obj)} {σ : L2.St} {H : Hp} {s : Shared}
theorem gen_start {scope : Scope} {own : List (Str × Nat)} {fp : List Addr} {A : Around} {code : Value} {h' : Heap} {g' : Array GenState} {t' : Nat} {m : Str → Option Value} (I : Inv X pins σ H s) (ok : GnOk X.N X.env.scope scope own) (hN : X.N.Nodup)
    (hfp : ∀ b ∈ fp, FpOk X pins H b ∧ b < s.heap.objs.size) (hA : A.handled = none) (hfr : A.frames = some (envG X scope s.heap.objs.size code :: X.stack))
    (hn : h'.Ns s.heap.objs.size m) (hk : ∀ b o, s.heap.get? b = some o → h'.get? b = some o) (hg : AllBare g') :
    Inv (gx X A s H (envG X scope s.heap.objs.size code) fp) [] (wipe σ (own.map (·.2))) H { s with heap := h', gens := g', toks := t' } := by
  have hfree : ∀ y ∈ scope.names, y.2 = .free → ∃ c, X.env.cells.lookup y.1 = some c := fun y hy e => by
    rcases ok.blk.free y hy e with k | k
    · exact I.ok.has _ (.inl k)
    · exact I.ok.has _ (.inr k)
  have cm : ∀ {y c}, (y, c) ∈ cloG X scope → X.env.cells.lookup y = some c ∧ c < s.heap.objs.size := fun {y c} hm => by
    rcases cloFrom_mem hm with hm | ⟨h1, rfl⟩
    · cases hm
    · obtain ⟨c, hc⟩ := hfree _ h1 rfl
      rw [hc]
      obtain ⟨w, z⟩ := I.cell _ _ hc
      exact ⟨rfl, z.lt⟩
  have mem : ∀ {y c}, (cloG X scope).lookup y = some c → X.env.cells.lookup y = some c ∧ c < s.heap.objs.size := fun {y c} e => cm (PySem.mem_of_lookup e)
  have look : ∀ {y}, scope.names.lookup y = some .free → ∃ c, (cloG X scope).lookup y = some c ∧ X.env.cells.lookup y = some c := fun {y} hl => by
    have hy : (y, NameKind.free) ∈ scope.names := PySem.mem_of_lookup hl
    obtain ⟨c', e'⟩ := mem_lookup (cloFrom_has (cells := X.env.cells) (acc := []) hy)
    exact ⟨c', e', (mem e').1⟩
  have okB : (gx X A s H (envG X scope s.heap.objs.size code) fp).Ok := by
    refine ⟨I.ok.mod, ok.blk.kind, I.ok.glob, rfl, Nat.le_refl _, fun y z c e1 e2 => ?_, fun y hy => ?_, fun y c z e => ?_, fun _ => hA, hfr, .inr ⟨rfl, rfl⟩, fun b hb => ⟨?_, fun y c e z => ?_⟩, I.bs, Nat.le_trans I.ok.bsz I.sz, fun b o e hb => ?_, fun b hb z => ?_, I.stack, I.stkFree⟩
    · exact I.ok.inj y z c (mem e1).1 (mem e2).1
    · rcases hy with hy | hy
      · exact absurd rfl (ok.nc _ (PySem.mem_of_lookup (show scope.names.lookup y = some .cell from hy)))
      · obtain ⟨c, h1, _⟩ := look (show scope.names.lookup y = some .free from hy)
        exact ⟨c, h1⟩
    · cases z
    · exact Nat.ne_of_lt (hfp b hb).2
    · exact (hfp b hb).1.2.2.2.2.1 y c (mem e).1 z
    · rcases (hfp b hb).1.2.2.2.1 with z | z
      · exact I.ok.noex b o e z
      · exact absurd (Nat.lt_of_lt_of_le (Heap.lt_size e) (Nat.le_trans I.ok.bsz z)) (Nat.lt_irrefl _)
    · rcases List.mem_cons.mp (I.stkSub b z) with z | z
      · exact (hfp b hb).1.2.1 z
      · exact (hfp b hb).1.2.2.1 z
  refine ⟨okB, rfl, hg, Un.kept hk, ⟨m, hn, fun i y av e1 e2 e3 => ?_⟩, fun y c e => ?_, ?_, fun y c e => ?_, fun p hp => ?_, I.hok.kept hk, by rw [wipe_length]; exact I.len⟩
  · obtain ⟨e2, hne⟩ := wipe_some e2
    have hfr : scope.names.lookup y = some .free := by
      rcases (show Vis scope y from e3) with k | k | k
      · exfalso
        rcases ok.blk.own _ (PySem.mem_of_lookup k) (.inl rfl) with q | q
        · obtain ⟨p, hp, e⟩ := List.mem_map.mp q
          have hix := ok.blk.ix p hp
          have e : p.1 = y := e
          rw [e] at hix
          exact hne (List.mem_map.mpr ⟨p, hp, nodup_ix hN hix e1⟩)
        · exact q (List.mem_of_getElem? e1)
      · exact absurd rfl (ok.nc _ (PySem.mem_of_lookup k))
      · exact k
    obtain ⟨c, h1, h2⟩ := look hfr
    obtain ⟨mX, _, hl⟩ := I.loc
    have hv : Vis X.env.scope y := by
      rcases ok.blk.free _ (PySem.mem_of_lookup hfr) rfl with k | k
      · exact .inr (.inl k)
      · exact .inr (.inr k)
    obtain ⟨u, ru, lk⟩ := hl i y av e1 e2 hv
    refine ⟨u, ru, .inr ⟨.inr hfr, c, h1, ?_⟩⟩
    rcases lk with ⟨k, _⟩ | ⟨_, c', e', z⟩
    · have k : X.env.scope.names.lookup y = some .local := k
      rcases ok.blk.free _ (PySem.mem_of_lookup hfr) rfl with q | q
      · have q : X.env.scope.names.lookup y = some .cell := q
        rw [k] at q; cases q
      · have q : X.env.scope.names.lookup y = some .free := q
        rw [k] at q; cases q
    · rw [h2] at e'; cases e'
      obtain ⟨o, ho, hd⟩ := z
      exact ⟨o, hk _ _ ho, hd⟩
  · obtain ⟨v, o, ho, hd⟩ := I.cell y c (mem e).1
    exact ⟨v, o, hk _ _ ho, hd⟩
  · exact I.hok.fresh (Nat.le_refl _)
  · exact I.freeC y c (mem e).1
  · exact absurd (show p ∈ ([] : List (Addr × Obj)) ++ [] from hp) (by simp)
end
end Ev

set_option maxHeartbeats 4000000
namespace Ev
open PySem PySem.Spec PyProof.Rows L2 GenW

/-- a generator expression as a call's argument, as it is made -/
def GMk (X : Cx) (pins : List (Addr × Obj)) (σ : L2.St) (vs : List Nat) (elt tg iter : Expr) (ifs : List Expr) (scope : Scope) (pos : Pos) (R : It → Hp → Prop) (u : Value) (s : Shared) : Prop :=
  ∃ (a : Addr) (g : Nat) (go : Obj) (it : Addr) (fp : List Addr) (tn : Nat → Heap → Prop) (J : It) (s4 : Shared) (H4 : Hp) (code : Value),
    u = .ref a ∧ (∀ h : Heap, h.get? a = some go → h.IsGen a g) ∧ s.heap.get? a = some go ∧ (∀ v, go.data ≠ .cell v) ∧ Inv X pins σ H4 s4 ∧ Turn X.prog X.w X.K tg J fp it tn ∧ tn 0 s.heap ∧ (∀ b ∈ fp, FpOk X pins H4 b ∧ b < s4.heap.objs.size) ∧ R J H4 ∧
    s4.heap.objs.size < a ∧ s.gens[g]? = some (.fresh (.compStart (.GeneratorExp elt [⟨tg, iter, ifs, 0⟩] scope pos) 0 (.ref it) .none (envG X scope s4.heap.objs.size code))) ∧
    ∀ A : Around, A.handled = none → A.frames = some (envG X scope s4.heap.objs.size code :: X.stack) → Inv (gx X A s4 H4 (envG X scope s4.heap.objs.size code) fp) [(a, go)] (wipe σ vs) H4 s

section
variable {X : Cx} {pins : List (Addr × Obj)} {σ : L2.St} {H : Hp} {s : Shared}
/-- what is walked may be walked too when the def's code table has grown -/
def Grows (P : Addr) (R : It → Hp → Prop) : It → Hp → Prop := fun J H1 => ∃ ps : Array Value, H1 P = some (.tbl ps) ∧ TriplesOk ps.toList ∧ ∀ more : Array Value, TriplesOk (ps ++ more).toList → R J (upd H1 P (.tbl (ps ++ more)))
theorem gen_make {elt tg iter : Expr} {ifs : List Expr} {scope : Scope} {own : List (Str × Nat)} {gpos : Pos} {c P : Addr} {k : Nat} {R : It → Hp → Prop} {Q : Value → Shared → Prop}
    (hr : Room k X.A) (TB : GxR.TabB X.base X.mg c P) (hcode : X.env.code = .ref c) (ok : GnOk X.N X.env.scope scope own) (hN : X.N.Nodup) (hs : ∀ v, genFold iter X.env v = pure v)
    (I : Inv X pins σ H s) (h : WI X tg iter σ H (Grows P R)) (hQ : ∀ u s', GMk X pins σ (own.map (·.2)) elt tg iter ifs scope gpos R u s' → Q u s') :
    wpAny (model X.prog X.w) X.A (eval (.GeneratorExp elt [⟨tg, iter, ifs, 0⟩] scope gpos) X.env) Q X.xe s := by
  have hfree : ∀ y ∈ scope.names, y.2 = .free → ∃ c, X.env.cells.lookup y.1 = some c := fun y hy e => by
    rcases ok.blk.free y hy e with k | k
    · exact I.ok.has _ (.inl k)
    · exact I.ok.has _ (.inr k)
  refine wpAny_GeneratorExp_make ok.co (closure_ok hfree) ok.nc ok.dot ok.blk.kind (by have := hr.dp; omega) (thn (h pins s I) fun xv s1 h1 => thn h1 fun itv s2 h2 => ?_) hs
  obtain ⟨it, fp, tn, J, H2, rfl, I2, T, st2, f2, ps, hP, ht, hR⟩ := h2
  refine ⟨I2.nolimit, ?_⟩
  have hPs : s2.heap.get? P = some { cls := .none, data := .fields ps } := I2.hok P _ hP
  have cd : PySem.W.CodeHd s2.heap c P := TB.code.keeps fun b u e => I2.bk b u e
  have hPlt : P < s2.heap.objs.size := Heap.lt_size hPs
  have cont : ∀ (code : Value) (h3 : Heap) (tk : Nat) (ps' : Array Value), Heap.ExtBut P s2.heap h3 → s2.heap.objs.size ≤ h3.objs.size → h3.get? P = some { cls := .none, data := .fields ps' } → (∃ more, ps' = ps ++ more) → TriplesOk ps'.toList →
      wpAny (model X.prog X.w) X.A (builtinsFor X.env.globals X.env.builtins) (fun bi s₄ =>
        ∀ h', h'.Ns s₄.heap.objs.size (fun y => if y = ".0" then some (Value.ref it) else none) → Heap.SameBut s₄.heap.objs.size (s₄.heap.push { cls := .type "frame", data := .dict #[] }) h' →
          Q (.ref h'.objs.size) { s₄ with
            gens := s₄.gens.push (.fresh (.compStart (.GeneratorExp elt [⟨tg, iter, ifs, 0⟩] scope gpos) 0 (.ref it) .none (genEnv scope (cloG X scope) s₄.heap.objs.size code bi X.env))),
            toks := s₄.toks + 1 + 1 + 1,
            heap := h'.push { cls := .type "generator", data := .fields #[.int s₄.gens.size 0, .str "<genexpr>" (s₄.toks + 1), .str (X.env.qual ++ "<genexpr>") (s₄.toks + 1 + 1)] } }) X.xe { s2 with heap := h3, toks := tk } := by
    intro code h3 tk ps' hx hsz hP3 hmore ht3
    obtain ⟨more, rfl⟩ := hmore
    obtain ⟨bm, ob, e1, e2, e3, e4, e5, e6, e7, e8⟩ := TB.bm
    have keep3 : ∀ b u, b ≠ P → s2.heap.get? b = some u → h3.get? b = some u := fun b u hb e => hx b u hb e
    have I3 : Inv X pins σ (upd H2 P (.tbl (ps ++ more))) { s2 with heap := h3, toks := tk } := GxR.inv_tab (g' := s2.gens) (d' := s2.drawn) I2 hP keep3 hP3 I2.bare
    refine wpAny_builtinsFor (m := X.mg) (by rw [I2.ok.glob]; exact (I2.mod.glob.keeps I2.bk).extBut hx TB.gP) e1 e2 (keep3 _ _ e4 (I2.bk _ _ e5)) e6 e7 e8 ?_
    intro h' hn' hs'
    have hsz' : h'.objs.size = h3.objs.size + 1 := by rw [hs'.1, Heap.size_push]
    have keep' : ∀ b o, h3.get? b = some o → h'.get? b = some o := fun b o e => hs'.extBut b o (Nat.ne_of_lt (Heap.lt_size e)) (Heap.get?_push_of_some _ e)
    refine hQ _ _ ?_
    generalize hgo : ({ cls := .type "generator", data := .fields #[.int s2.gens.size 0, .str "<genexpr>" (tk + 1), .str (X.env.qual ++ "<genexpr>") (tk + 1 + 1)] } : Obj) = go
    have nfp : ∀ b ∈ fp, b ≠ P := fun b hb z => by
      have q := (f2 b hb).1
      rw [z, hP] at q; cases q
    have f3 : ∀ b ∈ fp, FpOk X pins (upd H2 P (.tbl (ps ++ more))) b ∧ b < h3.objs.size := fun b hb => by
      obtain ⟨o, e, _⟩ := T.obj _ _ st2 b hb
      refine ⟨⟨by rw [upd_ne (nfp b hb)]; exact (f2 b hb).1, (f2 b hb).2⟩, Nat.lt_of_lt_of_le (Heap.lt_size e) hsz⟩
    have ga : (h'.push go).get? h'.objs.size = some go := Heap.get?_push_size _ (by rw [← hgo]; rfl)
    have gd : ∀ v, go.data ≠ .cell v := fun v z => by rw [← hgo] at z; cases z
    refine ⟨h'.objs.size, s2.gens.size, go, it, fp, tn, J, { s2 with heap := h3, toks := tk }, upd H2 P (.tbl (ps ++ more)), code, rfl, fun h e => ⟨go, _, _, e, by rw [← hgo], by rw [← hgo], by rw [← hgo]⟩, ga, gd, I3, T, ?_, f3, hR more ht3, by show h3.objs.size < _; omega, Array.getElem?_push_size .., fun A hA hfr => ?_⟩
    · refine T.keep _ _ _ st2 fun b hb o e => Heap.get?_push_of_some _ (keep' b o (hx b o (nfp b hb) e))
    · have J1 := gen_start (t' := tk + 1 + 1 + 1) (g' := s2.gens.push (.fresh (.compStart (.GeneratorExp elt [⟨tg, iter, ifs, 0⟩] scope gpos) 0 (.ref it) .none (envG X scope h3.objs.size code)))) (m := fun y => if y = ".0" then some (Value.ref it) else none) (h' := h'.push go) I3 ok hN f3 hA hfr (hn'.push _) (fun b o e => Heap.get?_push_of_some _ (keep' b o e)) (I3.bare.push rfl)
      refine J1.pins_of fun p hp => ?_
      rw [List.mem_singleton.mp hp]
      have hle : h3.objs.size ≤ h'.objs.size := by omega
      refine ⟨ga, I3.hok.fresh hle, Nat.ne_of_gt (by show h3.objs.size < _; omega), fun z => ?_, gd⟩
      rcases List.mem_cons.mp (I3.stkSub _ z) with z | z
      · have q : h'.objs.size = X.env.locals := z
        have := I3.lt
        have this : X.env.locals < h3.objs.size := this
        rw [← q, hsz'] at this
        exact absurd (Nat.lt_of_succ_lt this) (Nat.lt_irrefl _)
      · exact I3.nofs hle z
  cases hf : codeAmong gpos ps.toList with
  | none =>
    refine wpAny_genexprCodeX hcode (cd.code hPs ht) (cd.tab hPs) hf fun c' h' tk hx hge hlt hco' _ htab' _ => ?_
    obtain ⟨o1, vs, f1, tf, fl, tg', inF, tx, tt, op, _, _, _, _, _, _, _, _, _, htr, _⟩ := hco'
    exact cont _ h' tk _ hx (Nat.le_trans hge (Nat.le_of_lt hlt)) htab'.2 ⟨_, rfl⟩ htr
  | some cv =>
    refine wpAny_genexprCode_hit hcode (cd.code hPs ht) hf ?_
    exact cont cv s2.heap s2.toks ps (Heap.ExtBut.refl _ _) (Nat.le_refl _) hPs ⟨#[], by simp⟩ ht
end
end Ev

set_option maxHeartbeats 4000000
namespace Ev
open PySem PySem.Spec PyProof.Rows L2 GenW

/-! ### while a generator sleeps -/
/-- the consumer's own list stands for what is out -/
def CAt (S : Option Addr) (C : List V → Obj → Prop) (ys : List V) (s : Shared) : Prop := ∀ b, S = some b → ∃ o, s.heap.get? b = some o ∧ (∀ v, o.data ≠ .cell v) ∧ C ys o
structure Slp (S : Option Addr) (C : List V → Obj → Prop) (ys : List V) (s s' : Shared) : Prop where
  os : s'.os = s.os
  bare : AllBare s'.gens
  keep : ∀ b o, S ≠ some b → s.heap.get? b = some o → s'.heap.get? b = some o
  own : CAt S C ys s'
/-- it stands as it stood -/
def SK (S : Option Addr) (s s' : Shared) : Prop := ∀ b o, S = some b → s.heap.get? b = some o → s'.heap.get? b = some o
/-- it is apart from all that the generator's frame knows -/
def SOk (X : Cx) (pins : List (Addr × Obj)) (H : Hp) (S : Option Addr) : Prop :=
  ∀ b, S = some b → H b = none ∧ X.s_0.heap.objs.size ≤ b ∧ b ≠ X.env.locals ∧ (∀ x c, X.env.cells.lookup x = some c → c ≠ b) ∧ (∀ p ∈ X.pn ++ pins, p.1 ≠ b) ∧ b ∉ X.fs ∧ b ∉ X.ex
section
variable {X : Cx} {pins : List (Addr × Obj)} {σ : L2.St} {H H' : Hp} {s s' : Shared} {S : Option Addr} {C : List V → Obj → Prop} {ys : List V}
theorem inv_slp (I : Inv X pins σ H s) (hS : SOk X pins H S) (z : Slp S C ys s s') : Inv X pins σ H s' := by
  have ne : ∀ b u, H b = some u → S ≠ some b := fun b u e q => by rw [(hS b q).1] at e; cases e
  refine I.call' (ch := S.toList) z.os ⟨fun b o e n hb hx => z.keep b o (fun q => hx (by rw [q]; simp)) e, fun b o e n hb hx => ⟨o.slots, z.keep b o (fun q => hx (by rw [q]; simp)) e⟩, fun _ _ _ n _ => n, fun b o e hx => ⟨o, z.keep b o (fun q => hx (by rw [q]; simp)) e⟩,
    fun _ _ e => e, fun _ _ _ e => e, fun b ps e => ⟨#[], by rw [e]; simp⟩⟩ (fun b u e => ?_) z.bare fun b hb => ?_
  · refine (I.hok b u e).stay (fun c v hc q => z.keep c v ?_ q) (fun _ q => q) fun _ _ q => q
    rcases hc with y | y
    · rw [y]; exact ne b u e
    · exact ne c _ y
  · have q : S = some b := by
      cases S with
      | none => simp at hb
      | some d => simp at hb; rw [hb]
    obtain ⟨_, h2, h3, h4, h5, _⟩ := hS b q
    exact ⟨.inr h2, h3, h4, h5⟩
/-- its list is pinned for a run -/
theorem inv_spin (I : Inv X pins σ H s) (hS : SOk X pins H S) (hC : CAt S C ys s) : Inv X (pins ++ pinsAt S.toList s.heap) σ H s := by
  refine I.pins_of fun p hp => ?_
  rcases List.mem_append.mp hp with z | z
  · exact I.pin p (List.mem_append_right _ z)
  · obtain ⟨hb, e⟩ := of_pinsAt z
    have q : S = some p.1 := by
      cases S with
      | none => simp at hb
      | some d => simp at hb; rw [hb]
    obtain ⟨h1, _, h3, _, _, h6, _⟩ := hS _ q
    obtain ⟨o, e', d, _⟩ := hC _ q
    rw [e] at e'; cases e'
    exact ⟨e, h1, h3, h6, d⟩
theorem spin_at {pins' : List (Addr × Obj)} {s1 : Shared} {σ1 : L2.St} {H1 : Hp} (I : Inv X pins' σ1 H1 s1) (hp : ∀ p ∈ pinsAt S.toList s.heap, p ∈ pins') (hC : CAt S C ys s) : CAt S C ys s1 ∧ (∀ b, S = some b → H1 b = none) ∧ SK S s s1 := by
  refine ⟨?_, ?_, fun b o q e => (I.pin (b, o) (List.mem_append_right _ (hp _ (mem_pinsAt (by rw [q]; simp) e)))).1⟩
  · intro b q
    obtain ⟨o, e, d, c⟩ := hC b q
    have z := I.pin (b, o) (List.mem_append_right _ (hp _ (mem_pinsAt (by rw [q]; simp) e)))
    exact ⟨o, z.1, d, c⟩
  · intro b q
    obtain ⟨o, e, d, c⟩ := hC b q
    exact (I.pin (b, o) (List.mem_append_right _ (hp _ (mem_pinsAt (by rw [q]; simp) e)))).2.1
end

/-! ### the generator's loop -/
def GYp (Xg : Cx) (ip : List (Addr × Obj)) (S : Option Addr) (C : List V → Obj → Prop) (Go : List V → V → Prop) (La : List V → V → Hp → Prop) : Protocol := fun n s₀ v s1 kap =>
  ∃ ys y σ4 H4, RelV y v ∧ Inv Xg ip σ4 H4 s1 ∧ CAt S C ys s1 ∧ (∀ b, S = some b → H4 b = none) ∧ SK S s₀ s1 ∧ ((Go ys y ∧ ∀ s', Slp S C (ys ++ [y]) s1 s' → kap (.send .none) s') ∨ La ys y H4)
def GFp (Xg : Cx) (ip : List (Addr × Obj)) (S : Option Addr) (C : List V → Obj → Prop) (Fin : List V → Hp → Prop) : Nat → Shared → Shared → Prop := fun n s₀ s1 => ∃ ys σ' H', Inv Xg ip σ' H' s1 ∧ CAt S C ys s1 ∧ (∀ b, S = some b → H' b = none) ∧ SK S s₀ s1 ∧ Fin ys H'
def GRp (Xg : Cx) (ip : List (Addr × Obj)) (S : Option Addr) (C : List V → Obj → Prop) (Fin : List V → Hp → Prop) : GenEnd := fun n s₀ r s1 => r = .ok .next ∧ GFp Xg ip S C Fin n s₀ s1
/-- what the generator's turns do -/
def GTurn (J : It) (g : TG) (tt : TT) (te : TE) (ws : L2.St) (vs : List Nat) (Go : List V → V → Prop) (La : List V → V → Hp → Prop) (Fin : List V → Hp → Prop) (W : List V → Nat → Nat → Nat → Hp → Prop) : Prop :=
  ∀ ys n i m H, W ys n i m H → (J.stop i H ∧ Fin ys H) ∨ (J.go i H ∧ ∀ x H', J.yld i H x H' → g x ws H' fun σ2 H2 => wipe σ2 vs = ws ∧ tt σ2 H2 fun b H3 =>
    if b = true then te σ2 H3 fun y H4 => ∃ n', n = n' + 1 ∧ ((Go ys y ∧ ∃ m', W (ys ++ [y]) n' (i + 1) m' H4) ∨ La ys y H4) else ∃ m', m' < m ∧ W ys n (i + 1) m' H3)

section
variable {Xg : Cx} {ip : List (Addr × Obj)} {S : Option Addr} {C : List V → Obj → Prop} {Go : List V → V → Prop} {La : List V → V → Hp → Prop} {Fin : List V → Hp → Prop} {W : List V → Nat → Nat → Nat → Hp → Prop}
theorem seg_gl {A0 : Around} {elt tg iter : Expr} {ifs : List Expr} {scope : Scope} {pos : Pos} {it : Addr} {fp : List Addr} {tn : Nat → Heap → Prop} {J : It} {g : TG} {tt : TT} {te : TE} {σ : L2.St} {vs : List Nat}
    (hA : A0.over (.compLoop (.GeneratorExp elt [⟨tg, iter, ifs, 0⟩] scope pos) 0 (.ref it) .none Xg.env) [] = Xg.A) (hx : Xg.xe = fun _ _ => False) (hc : Xg.calm = true) (hpn : Xg.pn = []) (hex : Xg.ex = fp) (hco : Xg.env.scope.isCoroutine = false) (hgd : Xg.A.guards = some [])
    (T : Turn Xg.prog Xg.w Xg.K tg J fp it tn) (hip : ∀ b ∈ fp, ∀ p ∈ ip, p.1 ≠ b) (pg : PG Xg tg g) (pt : PTs Xg ifs tt) (pe : PE Xg elt te) (turn : GTurn J g tt te (wipe σ vs) vs Go La Fin W)
    (hS0 : ∀ H, (∀ b, S = some b → H b = none) → SOk Xg ip H S) :
    ∀ (n m : Nat) (ys : List V) (i : Nat) (H : Hp) (s₀ s : Shared), Inv Xg ip (wipe σ vs) H s → tn i s.heap → (∀ b ∈ fp, H b = none) → CAt S C ys s → (∀ b, S = some b → H b = none) → SK S s₀ s → W ys n i m H →
      Seg (model Xg.prog Xg.w) A0 (GRp Xg ip S C Fin) (GYp Xg ip S C Go La) n s₀ (.compLoop (.GeneratorExp elt [⟨tg, iter, ifs, 0⟩] scope pos) 0 (.ref it) .none Xg.env)
        ((model Xg.prog Xg.w).den (.compLoop (.GeneratorExp elt [⟨tg, iter, ifs, 0⟩] scope pos) 0 (.ref it) .none Xg.env)) [] s := by
  intro n
  induction n using Nat.strongRecOn with
  | ind n ihn =>
  intro m
  induction m using Nat.strongRecOn with
  | ind m ihm =>
  intro ys i H s₀ s I st nfp hC hSn hsk w
  have noxe : ∀ {e : Value} {s' : Shared} {p : Prop}, Xg.xe e s' → p := fun {e s' p} h => by rw [hx] at h; exact False.elim h
  have stat : ∀ {pins' : List (Addr × Obj)} {σ' : L2.St} {H' : Hp} {s' : Shared}, Inv Xg pins' σ' H' s' → (∀ b ∈ fp, H' b = none) → (∀ b ∈ fp, ∀ p ∈ pins', p.1 ≠ b) → ∀ b ∈ fp, FpOk Xg pins' H' b := fun {pins' σ' H' s'} I' hn hp b hb => by
    have hb' : b ∈ Xg.ex := by rw [hex]; exact hb
    exact ⟨hn b hb, (I'.ok.exf b hb').1, I'.ok.exfs b hb', .inl hb', fun x c e => (I'.ok.exf b hb').2 x c e, fun p hp' => by rw [hpn] at hp'; exact hp b hb p hp'⟩
  have hSok := hS0 H hSn
  have I0 : Inv Xg (ip ++ pinsAt S.toList s.heap) (wipe σ vs) H s := inv_spin I hSok hC
  have hpp : ∀ b ∈ fp, ∀ p ∈ ip ++ pinsAt S.toList s.heap, p.1 ≠ b := fun b hb p hp => by
    rcases List.mem_append.mp hp with z | z
    · exact hip b hb p z
    · intro e
      obtain ⟨hb1, _⟩ := of_pinsAt z
      have q : S = some p.1 := by
        cases S with
        | none => simp at hb1
        | some d => simp at hb1; rw [hb1]
      have := (hSok _ q).2.2.2.2.2.2
      rw [hex, e] at this
      exact this hb
  have spin : ∀ {pl : List (Addr × Obj)} {σ' : L2.St} {H' : Hp} {s' : Shared}, Inv Xg ((ip ++ pinsAt S.toList s.heap) ++ pl) σ' H' s' → CAt S C ys s' ∧ (∀ b, S = some b → H' b = none) ∧ SK S s s' := fun {pl σ' H' s'} I' =>
    spin_at I' (fun p hp => List.mem_append_left _ (List.mem_append_right _ hp)) hC
  show Seg _ A0 _ _ _ s₀ _ ((compTurn (.GeneratorExp elt [⟨tg, iter, ifs, 0⟩] scope pos) 0 (.ref it) .none Xg.env).onRaise (leaving Xg.env)) [] s
  rw [compTurn_gen, Sem.onRaise_eq_wrap]
  refine seg_bind_wrap (wpAny_standAt ?_)
  rcases turn ys n i m H w with ⟨stop, qq⟩ | ⟨go, step⟩
  · refine seg_bind_wrap ?_
    rw [hA]
    have td := T.done Xg rfl rfl rfl hc i _ s _ H (fun _ _ => False) I0 (stat I0 nfp hpp) st stop
    refine wpAny_mono td (fun r s6 ⟨hr, I6⟩ => ?_) fun _ _ z => False.elim z
    subst hr
    obtain ⟨q1, q2, q3⟩ := spin (pl := []) (by rw [List.append_nil]; exact I6)
    exact seg_end (.ok .next) ⟨rfl, ys, _, H, I6.unpinned, q1, q2, fun b o e h => q3 b o e (hsk b o e h), qq⟩
  · refine seg_bind_wrap ?_
    rw [hA]
    have ti := T.item Xg rfl rfl rfl hc i _ s _ H (fun _ _ => False) I0 (stat I0 nfp hpp) st go
    refine wpAny_mono ti (fun r s6 ⟨u, hr, h6⟩ => ?_) fun _ _ z => False.elim z
    subst hr
    refine seg_bind_wrap ?_
    rw [hA]
    refine wpAny_mono h6 (fun _ s7 ⟨x, H7, I7, r7, y7, st7, n7⟩ => ?_) fun _ _ z => False.elim z
    have I7' := I7.pinned (stat I7 n7 hpp) (T.obj _ _ st7)
    refine seg_bind_wrap ?_
    rw [hA]
    refine wpAny_mono (pg.run _ s7 _ H7 x u _ I7' r7 (step x H7 y7)) (fun _ s8 ⟨σ8, H8, I8, hw8, q8⟩ => ?_) fun _ _ z => noxe z
    refine seg_bind_wrap ?_
    rw [hA]
    refine wpAny_mono (pt.run _ s8 σ8 H8 _ I8 q8) (fun b s9 ⟨H9, I9, q9⟩ => ?_) fun _ _ z => noxe z
    -- the turn's end
    have fin : ∀ {s' : Shared} {H' : Hp}, Inv Xg ((ip ++ pinsAt S.toList s.heap) ++ pinsAt fp s7.heap) σ8 H' s' → Inv Xg ip (wipe σ vs) H' s' ∧ tn (i + 1) s'.heap ∧ (∀ b ∈ fp, H' b = none) := fun {s' H'} I' => by
      have pin' : ∀ b ∈ fp, ∀ o, s7.heap.get? b = some o → s'.heap.get? b = some o ∧ H' b = none := fun b hb o e =>
        let z := I'.pin (b, o) (List.mem_append_right _ (List.mem_append_right _ (mem_pinsAt hb e)))
        ⟨z.1, z.2.1⟩
      have hl : (wipe σ vs).length = σ8.length := by rw [← hw8, wipe_length]
      refine ⟨((I'.unpinned).unpinned).weak hl (fun j v e => ?_), T.keep _ _ _ st7 fun b hb o e => (pin' b hb o e).1, fun b hb => ?_⟩
      · rw [← hw8] at e
        exact (wipe_some e).1
      · obtain ⟨o, e, _⟩ := T.obj _ _ st7 b hb
        exact (pin' b hb o e).2
    cases b with
    | false =>
      simp only [Bool.false_eq_true, if_false] at q9 ⊢
      obtain ⟨m', hm, w'⟩ := q9
      obtain ⟨f1, f2, f3⟩ := fin I9
      obtain ⟨c1, c2, c3⟩ := spin I9
      exact seg_again rfl (ihm m' hm ys (i + 1) H9 s₀ s9 f1 f2 f3 c1 c2 (fun b o e h => c3 b o e (hsk b o e h)) w')
    | true =>
      simp only [if_true] at q9 ⊢
      have hy : ∀ v, yieldOut Xg.env v = yieldValue v := fun v => by simp only [yieldOut, hco, Bool.false_eq_true, if_false]
      simp only [hy]
      rw [Sem.bind_eq_wrap', Sem.bind_eq_wrap', Sem.wrap_wrap, Sem.wrap_wrap]
      refine seg_wrap ?_
      rw [hA]
      refine wpAny_mono (pe.run _ s9 σ8 H9 _ I9 q9) (fun z s10 ⟨yv, H10, I10, r10, n', hn', qq⟩ => ?_) fun _ _ z => noxe z
      subst hn'
      obtain ⟨f1, f2, f3⟩ := fin I10
      obtain ⟨c1, c2, c3⟩ := spin I10
      refine seg_at (seg_yield rfl rfl rfl ⟨ys, yv, _, H10, r10, f1, c1, c2, fun b o e h => c3 b o e (hsk b o e h), ?_⟩)
      rcases qq with ⟨hgo, m', w'⟩ | hla
      · refine .inl ⟨hgo, fun s' z => ?_⟩
        have I11 := inv_slp f1 (hS0 H10 c2) z
        refine seg_again rfl (ihn n' (Nat.lt_succ_self _) m' (ys ++ [yv]) (i + 1) H10 s' s' I11 (T.keep _ _ _ f2 fun b hb o e => z.keep b o (fun q => ?_) e) f3 z.own c2 (fun _ _ _ h => h) w')
        have := (hS0 H10 c2 b q).2.2.2.2.2.2
        rw [hex] at this
        exact this hb
      · exact .inr hla
end
end Ev

set_option maxHeartbeats 4000000
namespace Ev
open PySem PySem.Spec PyProof.Rows L2 GenW

section
variable {Xg : Cx} {ip : List (Addr × Obj)} {S : Option Addr} {C : List V → Obj → Prop} {Go : List V → V → Prop} {La : List V → V → Hp → Prop} {Fin : List V → Hp → Prop} {W : List V → Nat → Nat → Nat → Hp → Prop}
theorem seg_gs {A0 : Around} {R : GenEnd} {Y : Protocol} {n : Nat} {s₀ s : Shared} {elt tg iter : Expr} {ifs : List Expr} {scope : Scope} {pos : Pos} {it : Addr} {fp : List Addr} {tn : Nat → Heap → Prop} {J : It} (T : Turn Xg.prog Xg.w Xg.K tg J fp it tn) (st : tn 0 s.heap)
    (loop : Seg (model Xg.prog Xg.w) A0 R Y n s₀ (.compLoop (.GeneratorExp elt [⟨tg, iter, ifs, 0⟩] scope pos) 0 (.ref it) .none Xg.env)
        ((model Xg.prog Xg.w).den (.compLoop (.GeneratorExp elt [⟨tg, iter, ifs, 0⟩] scope pos) 0 (.ref it) .none Xg.env)) [] s) :
    Seg (model Xg.prog Xg.w) A0 R Y n s₀ (.compStart (.GeneratorExp elt [⟨tg, iter, ifs, 0⟩] scope pos) 0 (.ref it) .none Xg.env)
        ((model Xg.prog Xg.w).den (.compStart (.GeneratorExp elt [⟨tg, iter, ifs, 0⟩] scope pos) 0 (.ref it) .none Xg.env)) [] s := by
  show Seg _ A0 _ _ _ s₀ _ ((compStart (.GeneratorExp elt [⟨tg, iter, ifs, 0⟩] scope pos) 0 (.ref it) .none Xg.env).onRaise (leaving Xg.env)) [] s
  unfold compStart
  rw [Sem.onRaise_eq_wrap]
  show Seg _ A0 _ _ _ s₀ _ ((ask >>= _).wrap _ _ _ _) [] s
  refine seg_bind_wrap (wpAny_askSetting ?_)
  split
  · exact seg_again rfl loop
  · first
      | exact seg_bind_wrap (wpAny_rule (seg_bind_wrap (wpAny_standAt (seg_bind_wrap (T.self _ 0 s _ _ st (seg_again rfl loop))))))
      | (refine seg_bind_wrap (wpAny_rule ?_); show Seg _ A0 _ _ _ s₀ _ ((standAt iter.pos >>= _).wrap _ _ _ _) [] s; exact seg_bind_wrap (wpAny_standAt (seg_bind_wrap (T.self _ 0 s _ _ st (seg_again rfl loop)))))
/-- asleep, n items at most still to come -/
def GAt (Xg : Cx) (ip : List (Addr × Obj)) (S : Option Addr) (C : List V → Obj → Prop) (Go : List V → V → Prop) (La : List V → V → Hp → Prop) (Fin : List V → Hp → Prop) (A : Around) (g : Nat) (n : Nat) (s : Shared) : Prop :=
  ∃ gs, s.gens[g]? = some gs ∧ gs.Goes (model Xg.prog Xg.w) A.in1 (GRp Xg ip S C Fin) (GYp Xg ip S C Go La) n (.send .none) (s.setGen g .running)
theorem inv_gens {X : Cx} {pins : List (Addr × Obj)} {σ : L2.St} {H : Hp} {s s' : Shared} (I : Inv X pins σ H s) (ho : s'.os = s.os) (hk : ∀ b o, s.heap.get? b = some o → s'.heap.get? b = some o) (hg : AllBare s'.gens) : Inv X pins σ H s' :=
  I.call' (ch := []) ho (Un.kept hk) (I.hok.kept hk) hg fun b hb => absurd hb (by simp)
theorem gen_next {A : Around} {a : Addr} {g n : Nat} {go : Obj} {s : Shared} {E : Value → Shared → Prop} (hh : A.handled = none) (hroom : A.depth < recursionLimit) (hgo : ∀ h : Heap, h.get? a = some go → h.IsGen a g) (hip : ip = [(a, go)])
    (ha : s.heap.get? a = some go) (hl : s.heap.NoLimit) (h : GAt Xg ip S C Go La Fin A g n s) :
    wpAny (model Xg.prog Xg.w) A (pyNext (.ref a)) (fun r s' => match r with
      | none => ∃ ys σ' H', Inv Xg ip σ' H' s' ∧ CAt S C ys s' ∧ SK S s s' ∧ Fin ys H'
      | some v => ∃ ys y σ4 H4, RelV y v ∧ Inv Xg ip σ4 H4 s' ∧ s'.heap.get? a = some go ∧ s'.heap.NoLimit ∧ CAt S C ys s' ∧ SK S s s' ∧
          ((Go ys y ∧ ∀ s'', Slp S C (ys ++ [y]) s' s'' → s''.gens = s'.gens → ∃ n', n = n' + 1 ∧ GAt Xg ip S C Go La Fin A g n' s'') ∨ La ys y H4)) E s := by
  obtain ⟨gs, hgs, hg⟩ := h
  have hgl : g < s.gens.size := (Array.getElem?_eq_some_iff.mp hgs).1
  refine wpAny_gsz (n := g + 1) hgl (wpAny_pyNext_genexpQ (P := GFp Xg ip S C Fin) hh hl hroom (hgo _ ha) hgs hg (fun v s₁ gs' hb hv hsz => ?_) (fun s₁ hp h' hk _ => ?_))
  · obtain ⟨ys, y, σ4, H4, r, I, c1, c2, c3, q⟩ := hv
    have hsz1 : g < s₁.gens.size := by
      have q : (s₁.setGen g gs').gens.size = s₁.gens.size := setGen_size _ _ _
      have hsz' : g + 1 ≤ (s₁.setGen g gs').gens.size := hsz
      omega
    have hb2 : AllBare (s₁.setGen g gs').gens := allBare_setGen I.bare hb
    have I' : Inv Xg ip σ4 H4 (s₁.setGen g gs') := inv_gens I rfl (fun _ _ e => e) hb2
    refine ⟨ys, y, σ4, H4, r, I', (I'.pin (a, go) (List.mem_append_right _ (by rw [hip]; simp))).1, I'.nolimit, c1, c3, ?_⟩
    rcases q with ⟨hgo', kap⟩ | hla
    · refine .inl ⟨hgo', ?_⟩
      cases n with
      | zero => exact fun s'' z hz => (kap s'' ⟨z.os, z.bare, z.keep, z.own⟩).elim
      | succ m =>
        refine fun s'' z hz => ⟨m, rfl, gs', ?_, kap _ ⟨z.os, allBare_setGen z.bare rfl, z.keep, z.own⟩⟩
        rw [hz]
        exact setGen_at hsz1
    · exact .inr hla
  · obtain ⟨ys, σ', H', I, c1, c2, c3, q⟩ := hp
    refine ⟨ys, σ', H', inv_gens I rfl hk (allBare_setGen I.bare rfl), fun b e => ?_, fun b o e h => hk _ _ (c3 b o e h), q⟩
    obtain ⟨o, h1, h2⟩ := c1 b e
    exact ⟨o, hk _ _ h1, h2⟩
/-- all(..): the loop -/
theorem all_loop {A : Around} {a : Addr} {g : Nat} {go : Obj} {R : Result → Shared → Prop} (hh : A.handled = none) (hroom : A.depth < recursionLimit) (hgo : ∀ h : Heap, h.get? a = some go → h.IsGen a g) (hip : ip = [(a, go)])
    (h1 : ∀ ys y, Go ys y → y = .bl true) (h2 : ∀ ys y H σ' s', La ys y H → Inv Xg ip σ' H s' → y = .bl false ∧ R (.ok (.ret (.bool false))) s') (h3 : ∀ ys H σ' s', Fin ys H → Inv Xg ip σ' H s' → R (.ok (.ret (.bool true))) s') :
    ∀ (n : Nat) (s : Shared), s.heap.get? a = some go → s.heap.NoLimit → GAt Xg ip none C Go La Fin A.in1 g n s → codeAny (model Xg.prog Xg.w) A (.builtin "all.loop" ⟨[.ref a], []⟩) R s := by
  intro n
  induction n using Nat.strongRecOn with
  | ind n ih =>
  intro s ha hl hg
  refine codeAny_builtin F.entry_all_loop ?_
  rw [Around.under_plainId F.plain_all_loop _]
  show wpAny _ A.in1 (pyNext (.ref a) >>= _) _ _ s
  refine wpAny_bind (wpAny_mono (gen_next (E := fun _ _ => False) (A := A.in1) hh hroom hgo hip ha hl hg) (fun r s' hr => ?_) fun _ _ z => False.elim z)
  cases r with
  | none =>
    obtain ⟨ys, σ', H', I, _, _, q⟩ := hr
    exact wpAny_bind (wpAny_rule (wpAny_pure (h3 ys H' σ' s' q I)))
  | some v =>
    obtain ⟨ys, y, σ4, H4, ry, I, ha', hl', _, _, q⟩ := hr
    rcases q with ⟨hgo', nx⟩ | hla
    · have := h1 ys y hgo'
      subst this
      obtain rfl : v = Value.bool true := ry
      refine wpAny_bind (wpAny_holding (wpAny_truthy_bool ?_))
      refine wpAny_bind (wpAny_letGo ?_)
      simp only [if_true]
      obtain ⟨n', hn, hg'⟩ := nx s' ⟨rfl, I.bare, fun _ _ _ e => e, fun b e => by cases e⟩ rfl
      exact wpAny_pure ⟨plainId_quiet F.plain_all_loop _, ih n' (by omega) s' ha' hl' hg'⟩
    · obtain ⟨rfl, hR⟩ := h2 ys y H4 σ4 s' hla I
      obtain rfl : v = Value.bool false := ry
      refine wpAny_bind (wpAny_holding (wpAny_truthy_bool ?_))
      refine wpAny_bind (wpAny_letGo ?_)
      simp only [Bool.false_eq_true, if_false]
      exact wpAny_bind (wpAny_rule (wpAny_pure hR))
theorem any_loop {A : Around} {a : Addr} {g : Nat} {go : Obj} {R : Result → Shared → Prop} (hh : A.handled = none) (hroom : A.depth < recursionLimit) (hgo : ∀ h : Heap, h.get? a = some go → h.IsGen a g) (hip : ip = [(a, go)])
    (h1 : ∀ ys y, Go ys y → y = .bl false) (h2 : ∀ ys y H σ' s', La ys y H → Inv Xg ip σ' H s' → y = .bl true ∧ R (.ok (.ret (.bool true))) s') (h3 : ∀ ys H σ' s', Fin ys H → Inv Xg ip σ' H s' → R (.ok (.ret (.bool false))) s') :
    ∀ (n : Nat) (s : Shared), s.heap.get? a = some go → s.heap.NoLimit → GAt Xg ip none C Go La Fin A.in1 g n s → codeAny (model Xg.prog Xg.w) A (.builtin "any.loop" ⟨[.ref a], []⟩) R s := by
  intro n
  induction n using Nat.strongRecOn with
  | ind n ih =>
  intro s ha hl hg
  refine codeAny_builtin F.entry_any_loop ?_
  rw [Around.under_plainId F.plain_any_loop _]
  show wpAny _ A.in1 (pyNext (.ref a) >>= _) _ _ s
  refine wpAny_bind (wpAny_mono (gen_next (E := fun _ _ => False) (A := A.in1) hh hroom hgo hip ha hl hg) (fun r s' hr => ?_) fun _ _ z => False.elim z)
  cases r with
  | none =>
    obtain ⟨ys, σ', H', I, _, _, q⟩ := hr
    exact wpAny_bind (wpAny_rule (wpAny_pure (h3 ys H' σ' s' q I)))
  | some v =>
    obtain ⟨ys, y, σ4, H4, ry, I, ha', hl', _, _, q⟩ := hr
    rcases q with ⟨hgo', nx⟩ | hla
    · have := h1 ys y hgo'
      subst this
      obtain rfl : v = Value.bool false := ry
      refine wpAny_bind (wpAny_holding (wpAny_truthy_bool ?_))
      refine wpAny_bind (wpAny_letGo ?_)
      simp only [Bool.false_eq_true, if_false]
      obtain ⟨n', hn, hg'⟩ := nx s' ⟨rfl, I.bare, fun _ _ _ e => e, fun b e => by cases e⟩ rfl
      exact wpAny_pure ⟨plainId_quiet F.plain_any_loop _, ih n' (by omega) s' ha' hl' hg'⟩
    · obtain ⟨rfl, hR⟩ := h2 ys y H4 σ4 s' hla I
      obtain rfl : v = Value.bool true := ry
      refine wpAny_bind (wpAny_holding (wpAny_truthy_bool ?_))
      refine wpAny_bind (wpAny_letGo ?_)
      simp only [if_true]
      exact wpAny_bind (wpAny_rule (wpAny_pure hR))
end
end Ev

set_option maxHeartbeats 4000000
namespace Ev
open PySem PySem.Spec PyProof.Rows L2 GenW

theorem over_gen {A : Around} {elt : Expr} {gs : List Comprehension} {scope : Scope} {pos : Pos} {it acc : Value} {env : Env} : A.over (.compLoop (.GeneratorExp elt gs scope pos) 0 it acc env) [] = A.deeper env := by
  first
    | rfl
    | (obtain ⟨hd, d, fr, gs, u⟩ := A; simp [Around.over, Around.deeper, marksOver, frameCount, unitsOf, envsOf, guardsOf, pushEnvs, pushGuards, Code.envs, Code.env?, Code.isFrame, Code.guards, Code.isGuard, Code.weight, Code.frames, Code.isCreation, Code.isCaller, Code.cUnits])
/-- what is walked, and what comes of it -/
def GenR (g : TG) (tt : TT) (te : TE) (σ : L2.St) (vs : List Nat) (Go : List V → V → Prop) (La : List V → V → Hp → Prop) (Fin : List V → Hp → Prop) : It → Hp → Prop := fun J H => ∃ (W : List V → Nat → Nat → Nat → Hp → Prop) (N m : Nat), W [] N 0 m H ∧ GTurn J g tt te (wipe σ vs) vs Go La Fin W
section
variable {X : Cx} {pins : List (Addr × Obj)} {σ : L2.St} {H : Hp} {s : Shared} {k : Nat} {elt tg iter : Expr} {ifs : List Expr} {scope : Scope} {own : List (Str × Nat)} {gpos : Pos} {g : TG} {tt : TT} {te : TE} {vs : List Nat} {Go : List V → V → Prop} {La : List V → V → Hp → Prop} {Fin : List V → Hp → Prop} {u : Value}
/-- the judgements of its parts hold in its frame -/
structure GParts (X : Cx) (k : Nat) (elt tg : Expr) (ifs : List Expr) (scope : Scope) (g : TG) (tt : TT) (te : TE) : Prop where
  pg : ∀ (A : Around) (s : Shared) (H : Hp) (C : Addr) (code : Value) (fp : List Addr), Room k A → A.guards = some [] → PG (gx X A s H (envG X scope C code) fp) tg g
  pt : ∀ (A : Around) (s : Shared) (H : Hp) (C : Addr) (code : Value) (fp : List Addr), Room k A → A.guards = some [] → PTs (gx X A s H (envG X scope C code) fp) ifs tt
  pe : ∀ (A : Around) (s : Shared) (H : Hp) (C : Addr) (code : Value) (fp : List Addr), Room k A → A.guards = some [] → PE (gx X A s H (envG X scope C code) fp) elt te
/-- a generator that may be woken -/
def Awake (X : Cx) (pins : List (Addr × Obj)) (σ : L2.St) (A : Around) (Go : List V → V → Prop) (La : List V → V → Hp → Prop) (Fin : List V → Hp → Prop) (u : Value) (s : Shared) : Prop :=
  ∃ (a : Addr) (n : Nat) (go : Obj) (Xg : Cx) (N : Nat), u = .ref a ∧ (∀ h : Heap, h.get? a = some go → h.IsGen a n) ∧ s.heap.get? a = some go ∧ s.heap.NoLimit ∧ AllBare s.gens ∧ Xg.prog = X.prog ∧ Xg.w = X.w ∧ Xg.K = X.K ∧
    (∀ σ' H' s', Inv Xg [(a, go)] σ' H' s' → Inv X pins σ H' s') ∧
    ∀ (S : Option Addr) (C : List V → Obj → Prop) (s' : Shared), (∀ b, S = some b → s.heap.objs.size ≤ b) → s'.gens = s.gens → s'.os = s.os → (∀ b o, S ≠ some b → s.heap.get? b = some o → s'.heap.get? b = some o) → CAt S C [] s' →
      GAt Xg [(a, go)] S C Go La Fin A n N s'
theorem gmk_wake {A : Around} (hr : Room (k + 2) A) (hfr : A.frames = some X.stack) (hgd : A.guards = some []) (hco : scope.isCoroutine = false) (P : GParts X k elt tg ifs scope g tt te) (M : GMk X pins σ vs elt tg iter ifs scope gpos (GenR g tt te σ vs Go La Fin) u s) :
    Awake X pins σ A Go La Fin u s := by
  obtain ⟨a, n, go, it, fp, tn, J, s4, H4, code, rfl, hgo, ha, hnc, I4, T, st, hfp, ⟨W, N, m, w0, turn⟩, hlt, hgs, J5⟩ := M
  obtain ⟨cenv, hcenv⟩ : ∃ cenv, cenv = envG X scope s4.heap.objs.size code := ⟨_, rfl⟩
  have hr1 : Room k (A.in1.deeper cenv) := Room.deeper (Room.in1 hr) cenv
  have hfr1 : (A.in1.deeper cenv).frames = some (cenv :: X.stack) := by
    show Option.map (fun x => cenv :: x) A.frames = _
    rw [hfr]; rfl
  have hgd1 : (A.in1.deeper cenv).guards = some [] := hgd
  have I5 := J5 (A.in1.deeper cenv) hr1.hd (by rw [hfr1, hcenv])
  rw [← hcenv] at I5
  refine ⟨a, n, go, gx X (A.in1.deeper cenv) s4 H4 cenv fp, N, rfl, hgo, ha, I5.nolimit, I5.bare, rfl, rfl, rfl, fun σ' H' s' I6 => ?_, fun S C s' hS hgens hos hkeep hC => ?_⟩
  · exact I4.call' (ch := fp) I6.os I6.base I6.hok I6.bare fun b hb => ⟨(hfp b hb).1.2.2.2.1, (hfp b hb).1.2.1, (hfp b hb).1.2.2.2.2.1, (hfp b hb).1.2.2.2.2.2⟩
  · have halt : a < s.heap.objs.size := Heap.lt_size ha
    have hS0 : ∀ H', (∀ b, S = some b → H' b = none) → SOk (gx X (A.in1.deeper cenv) s4 H4 cenv fp) [(a, go)] H' S := fun H' hn b q => by
      have hb := hS b q
      have h4 : s4.heap.objs.size < b := Nat.lt_trans hlt (Nat.lt_of_lt_of_le halt hb)
      refine ⟨hn b q, Nat.le_of_lt h4, ?_, fun x c e z => ?_, fun p hp z => ?_, fun z => ?_, fun z => ?_⟩
      · rw [hcenv]; exact Nat.ne_of_gt h4
      · obtain ⟨v, hc⟩ := I5.cell x c e
        have := hc.lt
        rw [z] at this
        exact absurd (Nat.lt_of_lt_of_le this hb) (Nat.lt_irrefl _)
      · have hp : p ∈ [(a, go)] := hp
        rw [List.mem_singleton.mp hp] at z
        have z : a = b := z
        rw [z] at halt
        exact absurd (Nat.lt_of_lt_of_le halt hb) (Nat.lt_irrefl _)
      · rcases List.mem_cons.mp (I4.stkSub _ z) with z | z
        · have := I4.lt
          rw [← z] at this
          exact absurd (Nat.lt_trans this h4) (Nat.lt_irrefl _)
        · exact I4.nofs (Nat.le_of_lt h4) z
      · exact absurd (Nat.lt_trans (hfp b z).2 h4) (Nat.lt_irrefl _)
    have hH4 : ∀ b, S = some b → H4 b = none := fun b q => I4.hok.fresh (Nat.le_of_lt (Nat.lt_trans hlt (Nat.lt_of_lt_of_le halt (hS b q))))
    refine ⟨.fresh (.compStart (.GeneratorExp elt [⟨tg, iter, ifs, 0⟩] scope gpos) 0 (.ref it) .none (envG X scope s4.heap.objs.size code)), by rw [hgens]; exact hgs, rfl, ?_⟩
    have zz : Slp S C [] s (s'.setGen n .running) := ⟨hos, allBare_setGen (by rw [hgens]; exact I5.bare) rfl, hkeep, hC⟩
    have I7 := inv_slp I5 (hS0 H4 hH4) zz
    have st7 : tn 0 (s'.setGen n .running).heap := T.keep _ _ _ st fun b hb o e => hkeep b o (fun q => by
      have := (hS0 H4 hH4 b q).2.2.2.2.2.2
      exact this hb) e
    have loop := seg_gl (Xg := gx X (A.in1.deeper cenv) s4 H4 cenv fp) (ip := [(a, go)]) (S := S) (C := C) (A0 := A.in1) (iter := iter) (pos := gpos) (scope := scope) (σ := σ) (vs := vs) over_gen rfl rfl rfl rfl (by rw [hcenv]; exact hco) hgd1 T
      (fun b hb p hp z => by
        rw [List.mem_singleton.mp hp] at z
        have z : a = b := z
        have := (hfp b hb).2
        rw [← z] at this
        exact absurd (Nat.lt_trans this hlt) (Nat.lt_irrefl _))
      (by rw [hcenv]; exact P.pg _ s4 H4 _ code fp (by rw [hcenv] at hr1; exact hr1) (by rw [hcenv] at hgd1; exact hgd1)) (by rw [hcenv]; exact P.pt _ s4 H4 _ code fp (by rw [hcenv] at hr1; exact hr1) (by rw [hcenv] at hgd1; exact hgd1)) (by rw [hcenv]; exact P.pe _ s4 H4 _ code fp (by rw [hcenv] at hr1; exact hr1) (by rw [hcenv] at hgd1; exact hgd1)) turn hS0 N m [] 0 H4
      (s'.setGen n .running) (s'.setGen n .running) I7 st7 (fun b hb => (hfp b hb).1.1) zz.own hH4 (fun _ _ _ h => h) w0
    have := seg_gs (Xg := gx X (A.in1.deeper cenv) s4 H4 cenv fp) T st7 loop
    rw [hcenv] at this ⊢
    exact this
theorem call_allG {Q : VK} {x : V} (hr : Room 2 X.A) (M : Awake X pins σ X.A.in1 Go La Fin u s)
    (h1 : ∀ ys y, Go ys y → y = .bl true) (h2 : ∀ ys y H, La ys y H → y = .bl false ∧ Q (.bl false) H) (h3 : ∀ ys H, Fin ys H → Q (.bl true) H) : wpAny (model X.prog X.w) X.A (call (.builtin "all") [u]) (EP X pins σ Q) X.xe s := by
  obtain ⟨a, n, go, Xg, N, rfl, hgo, ha, hl, hb, e1, e2, e3, back, wake⟩ := M
  refine call_function_tree F.kind_all F.plain_all F.entry_all (F.args_all1 _) ?_
  unfold Builtin.«all»
  refine wpAny_bind (m := oneArg "all" _) (wpAny_pure ?_)
  refine wpAny_bind (wpAny_pyIter_gen (hgo _ ha) ?_)
  refine wpAny_pure ⟨plainId_quiet F.plain_all_loop _, ?_⟩
  rw [← e1, ← e2]
  refine all_loop (Go := Go) (La := La) (Fin := Fin) (C := fun _ _ => False) hr.hd (by have := hr.dp; omega) hgo rfl h1 (fun ys y H σ' s' q I => ?_) (fun ys H σ' s' q I => ?_) N s ha hl (wake none _ s (fun b q => by cases q) rfl rfl (fun _ _ _ e => e) fun b q => by cases q)
  · obtain ⟨rfl, q2⟩ := h2 ys y H q
    exact ⟨rfl, .bl false, H, back _ _ _ I, rfl, q2⟩
  · exact ⟨.bl true, H, back _ _ _ I, rfl, h3 ys H q⟩
theorem call_anyG {Q : VK} {x : V} (hr : Room 2 X.A) (M : Awake X pins σ X.A.in1 Go La Fin u s)
    (h1 : ∀ ys y, Go ys y → y = .bl false) (h2 : ∀ ys y H, La ys y H → y = .bl true ∧ Q (.bl true) H) (h3 : ∀ ys H, Fin ys H → Q (.bl false) H) : wpAny (model X.prog X.w) X.A (call (.builtin "any") [u]) (EP X pins σ Q) X.xe s := by
  obtain ⟨a, n, go, Xg, N, rfl, hgo, ha, hl, hb, e1, e2, e3, back, wake⟩ := M
  refine call_function_tree F.kind_any F.plain_any F.entry_any (F.args_any1 _) ?_
  unfold Builtin.«any»
  refine wpAny_bind (m := oneArg "any" _) (wpAny_pure ?_)
  refine wpAny_bind (wpAny_pyIter_gen (hgo _ ha) ?_)
  refine wpAny_pure ⟨plainId_quiet F.plain_any_loop _, ?_⟩
  rw [← e1, ← e2]
  refine any_loop (Go := Go) (La := La) (Fin := Fin) (C := fun _ _ => False) hr.hd (by have := hr.dp; omega) hgo rfl h1 (fun ys y H σ' s' q I => ?_) (fun ys H σ' s' q I => ?_) N s ha hl (wake none _ s (fun b q => by cases q) rfl rfl (fun _ _ _ e => e) fun b q => by cases q)
  · obtain ⟨rfl, q2⟩ := h2 ys y H q
    exact ⟨rfl, .bl true, H, back _ _ _ I, rfl, q2⟩
  · exact ⟨.bl false, H, back _ _ _ I, rfl, h3 ys H q⟩
end
end Ev

set_option maxHeartbeats 4000000
namespace Ev
open PySem PySem.Spec PyProof.Rows L2 GenW

/-! ### sum -/
def vint : V → Int
  | .int i => i
  | _ => 0
def isum (ys : List V) : Int := (ys.map vint).sum
theorem isum_snoc (ys : List V) (i : Int) : isum (ys ++ [.int i]) = isum ys + i := by simp [isum, vint]
/-- the running total stands for what is out -/
def CSum (ys : List V) (o : Obj) : Prop := ∃ t c, o = lstObj #[.int (isum ys) t] c
section
variable {Xg : Cx} {ip : List (Addr × Obj)} {Go : List V → V → Prop} {La : List V → V → Hp → Prop} {Fin : List V → Hp → Prop}
/-- an object's list is written, all else stands -/
theorem slp_write {S : Addr} {C : List V → Obj → Prop} {ys : List V} {s' : Shared} {h' : Heap} {tk : Nat} {o : Obj} (hb : AllBare s'.gens) (hk : ∀ b u, b ≠ S → s'.heap.get? b = some u → h'.get? b = some u) (ho : h'.get? S = some o) (hd : ∀ v, o.data ≠ .cell v) (hc : C ys o) :
    Slp (some S) C ys s' { s' with heap := h', toks := tk } :=
  ⟨rfl, hb, fun b u hne e => hk b u (fun z => hne (by rw [z])) e, fun b e => by cases e; exact ⟨o, ho, hd, hc⟩⟩
theorem sum_loopG {A : Around} {a S : Addr} {g : Nat} {go : Obj} {R : Result → Shared → Prop} (hh : A.handled = none) (hroom : A.depth < recursionLimit) (hgo : ∀ h : Heap, h.get? a = some go → h.IsGen a g) (hip : ip = [(a, go)]) (haS : a ≠ S) (hSc : S ≠ cStatics)
    (h1 : ∀ ys y, Go ys y → ∃ i, y = .int i) (h2 : ∀ ys y H, ¬ La ys y H) (h3 : ∀ ys H σ' s' t, Fin ys H → Inv Xg ip σ' H s' → R (.ok (.ret (.int (isum ys) t))) s') :
    ∀ (n : Nat) (s : Shared) (tA : Tok) (c : Nat) (tot : Int) (stage : Int), (stage = 0 ∨ stage = 2) → s.heap.get? a = some go → s.heap.NoLimit → s.heap.get? S = some (lstObj #[.int tot tA] c) → GAt Xg ip (some S) CSum Go La Fin A.in1 g n s →
      codeAny (model Xg.prog Xg.w) A (.builtin "sum.loop" ⟨[.ref a, .ref S, rawInt stage, rawInt 0], []⟩) R s := by
  intro n
  induction n using Nat.strongRecOn with
  | ind n ih =>
  intro s tA c tot stage hstage ha hl hS hg
  refine codeAny_builtin F.entry_sum_loop ?_
  rw [Around.under_plainId F.plain_sum_loop _]
  show wpAny _ A.in1 (seqItems? (.ref S) >>= _) _ _ s
  refine wpAny_bind (wpAny_seqItems hS rfl ?_)
  show wpAny _ A.in1 (tryCatch (pyNext (.ref a)) _ >>= _) _ _ s
  refine wpAny_bind (wpAny_tryCatch (wpAny_mono (gen_next (E := fun _ _ => False) (A := A.in1) hh hroom hgo hip ha hl hg) (fun r s' hr => ?_) fun _ _ z => False.elim z))
  cases r with
  | none =>
    obtain ⟨ys, σ', H', I, cc, sk, q⟩ := hr
    obtain ⟨o, e1, _, t2, c2, rfl⟩ := cc S rfl
    rw [sk S _ rfl hS] at e1
    cases e1
    exact wpAny_pure (h3 ys H' σ' s' _ q I)
  | some v =>
    obtain ⟨ys, y, σ4, H4, ry, I, ha', hl', cc, sk, q⟩ := hr
    rcases q with ⟨hgo', nx⟩ | hla
    · obtain ⟨i, rfl⟩ := h1 ys y hgo'
      obtain ⟨t, rfl⟩ : ∃ t, v = Value.int i t := ry
      have hS' := sk S _ rfl hS
      obtain ⟨o, e1, _, t2, c2, rfl⟩ := cc S rfl
      rw [hS'] at e1
      cases e1
      have fin : ∀ (h' : Heap) (tk : Nat) (t' : Tok) (c' : Nat) (stage' : Int), (stage' = 0 ∨ stage' = 2) → (∀ b u, b ≠ S → s'.heap.get? b = some u → h'.get? b = some u) → h'.get? S = some (lstObj #[.int (isum ys + i) t'] c') →
          codeAny (model Xg.prog Xg.w) A (.builtin "sum.loop" ⟨[.ref a, .ref S, rawInt stage', rawInt 0], []⟩) R { s' with heap := h', toks := tk } := fun h' tk t' c' stage' hst hk hs => by
        obtain ⟨n', hn, hg'⟩ := nx { s' with heap := h', toks := tk } (slp_write I.bare hk hs (fun v z => by cases z) ⟨t', c', by rw [isum_snoc]⟩) rfl
        refine ih n' (by omega) _ t' c' _ stage' hst (hk _ _ haS ha') ?_ hs hg'
        obtain ⟨mc, hns, hnn⟩ := hl'
        exact ⟨mc, hns.at' fun o e => hk _ o (Ne.symm hSc) e, hnn⟩
      have upk : ∀ {hh : Heap} {f : Obj → Obj}, (∀ b u, b ≠ S → s'.heap.get? b = some u → hh.get? b = some u) → ∀ b u, b ≠ S → s'.heap.get? b = some u → (hh.update S f).get? b = some u := fun {hh f} q b u hb e => (Heap.get?_update_other _ _ (Ne.symm hb)).trans (q b u hb e)
      rcases hstage with rfl | rfl
      · show wpAny _ A.in1 (if (_ : Bool) = true then (mkInt (isum ys + i) >>= _) else _) _ _ _
        split
        · refine wpAny_bind (wpAny_mkInt ?_)
          show wpAny _ A.in1 (updateSeq S (fun _ => #[.int (isum ys + i) s'.toks]) >>= _) _ _ _
          refine wpAny_bind ?_
          exact wpAny_updateSeq hS' rfl (wpAny_pure ⟨plainId_quiet F.plain_sum_loop _, fin _ _ s'.toks _ 0 (.inl rfl) (upk fun _ _ _ e => e) (Heap.get?_update_self _ hS' rfl)⟩)
        · refine wpAny_bind (wpAny_rule ?_)
          refine wpAny_bind (wpAny_attempt (wpAny_holding (PySem.P.add_int ?_)))
          show wpAny _ A.in1 (updateSeq S (fun _ => #[.int (isum ys + i) s'.toks]) >>= _) _ _ _
          refine wpAny_bind ?_
          refine wpAny_updateSeq hS' rfl ?_
          have hS2 := Heap.get?_update_self (Obj.mapSeq fun _ => #[Value.int (isum ys + i) s'.toks]) hS' rfl
          refine wpAny_bind (wpAny_letGo ?_)
          refine wpAny_bind ?_
          exact wpAny_updateSeq hS2 rfl (wpAny_pure ⟨plainId_quiet F.plain_sum_loop _, fin _ _ s'.toks _ 2 (.inr rfl) (upk (upk fun _ _ _ e => e)) (Heap.get?_update_self _ hS2 rfl)⟩)
      · show wpAny _ A.in1 ((holding [Value.int i t] (binaryOp .Add (.int (isum ys) tA) (.int i t))).attempt >>= _) _ _ _
        refine wpAny_bind (wpAny_attempt (wpAny_holding (PySem.P.add_int ?_)))
        show wpAny _ A.in1 (updateSeq S (fun _ => #[.int (isum ys + i) s'.toks]) >>= _) _ _ _
        refine wpAny_bind ?_
        refine wpAny_updateSeq hS' rfl ?_
        have hS2 := Heap.get?_update_self (Obj.mapSeq fun _ => #[Value.int (isum ys + i) s'.toks]) hS' rfl
        refine wpAny_bind (wpAny_letGo ?_)
        refine wpAny_bind ?_
        exact wpAny_updateSeq hS2 rfl (wpAny_pure ⟨plainId_quiet F.plain_sum_loop _, fin _ _ s'.toks _ 2 (.inr rfl) (upk (upk fun _ _ _ e => e)) (Heap.get?_update_self _ hS2 rfl)⟩)
    · exact absurd hla (h2 ys y H4)
end
section
variable {X : Cx} {pins : List (Addr × Obj)} {σ : L2.St} {s : Shared} {Go : List V → V → Prop} {La : List V → V → Hp → Prop} {Fin : List V → Hp → Prop} {u : Value}
theorem call_sumG {Q : VK} (hr : Room 2 X.A) (M : Awake X pins σ X.A.in1 Go La Fin u s)
    (h1 : ∀ ys y, Go ys y → ∃ i, y = .int i) (h2 : ∀ ys y H, ¬ La ys y H) (h3 : ∀ ys H, Fin ys H → Q (.int (isum ys)) H) : wpAny (model X.prog X.w) X.A (call (.builtin "sum") [u]) (EP X pins σ Q) X.xe s := by
  obtain ⟨a, n, go, Xg, N, rfl, hgo, ha, hl, hb, e1, e2, e3, back, wake⟩ := M
  refine call_function_tree F.kind_sum F.plain_sum F.entry_sum (F.args_sum1 _) ?_
  unfold Builtin.«sum»
  simp only [List.length_cons, List.length_nil]
  rw [if_neg (by decide)]
  refine wpAny_bind (wpAny_of_eq (show Builtin.Builtins.bindParams "sum" ["start"] 0 { } = pure [none] from rfl) ?_)
  refine wpAny_bind (wpAny_pyIter_gen (hgo _ ha) ?_)
  refine wpAny_bind (wpAny_mkInt ?_)
  refine wpAny_bind (wpAny_pure ?_)
  simp only [List.forIn_cons, List.forIn_nil]
  refine wpAny_bind (wpAny_bind (wpAny_bind (wpAny_isInstance (T := "int") (b := false) (typeIs_int _ _ _) PySem.sub_int_str ?_)))
  simp only [Bool.false_eq_true, if_false]
  refine wpAny_pure (wpAny_bind (wpAny_bind (wpAny_isInstance (T := "int") (b := false) (typeIs_int _ _ _) PySem.sub_int_bytes ?_)))
  simp only [Bool.false_eq_true, if_false]
  refine wpAny_pure (wpAny_bind (wpAny_bind (wpAny_isInstance (T := "int") (b := false) (typeIs_int _ _ _) PySem.sub_int_bytearray ?_)))
  simp only [Bool.false_eq_true, if_false]
  refine wpAny_pure (wpAny_pure ?_)
  refine wpAny_bind (wpAny_newObj_type ?_)
  have hcl : cStatics < s.heap.objs.size := let ⟨_, hn, _⟩ := hl; hn.lt
  have hal : a < s.heap.objs.size := Heap.lt_size ha
  refine wpAny_pure ⟨plainId_quiet F.plain_sum_loop _, ?_⟩
  rw [← e1, ← e2]
  refine sum_loopG (Go := Go) (La := La) (Fin := Fin) (S := s.heap.objs.size) hr.hd (by have := hr.dp; omega) hgo rfl (Nat.ne_of_lt hal) (Nat.ne_of_gt hcl) h1 h2 (fun ys H σ' s' t q I => ⟨.int _, H, back _ _ _ I, ⟨t, rfl⟩, h3 ys H q⟩) N _ s.toks 0 0 0 (.inl rfl) (Heap.get?_push_of_some _ ha) (hl.push _) (Heap.get?_push_size _ rfl)
    (wake (some s.heap.objs.size) CSum _ (fun b q => by cases q; exact Nat.le_refl _) rfl rfl (fun b o _ e => Heap.get?_push_of_some _ e) fun b q => by cases q; exact ⟨_, Heap.get?_push_size _ rfl, fun v z => (by cases z), s.toks, 0, rfl⟩)
end
end Ev

set_option maxHeartbeats 4000000
namespace Ev
open PySem PySem.Spec PyProof.Rows L2 GenW

/-! ### tuple -/
/-- the consumer's list holds what is out -/
def CTup (ys : List V) (o : Obj) : Prop := ∃ acc c, o = lstObj acc c ∧ Vals ys acc.toList
section
variable {Xg : Cx} {ip : List (Addr × Obj)} {Go : List V → V → Prop} {La : List V → V → Hp → Prop} {Fin : List V → Hp → Prop}
theorem ext_loopG {A : Around} {a S : Addr} {g : Nat} {go : Obj} {res : Value} {R : Result → Shared → Prop} (hh : A.handled = none) (hroom : A.depth < recursionLimit) (hgo : ∀ h : Heap, h.get? a = some go → h.IsGen a g) (hip : ip = [(a, go)]) (haS : a ≠ S) (hSc : S ≠ cStatics)
    (h1 : ∀ ys y, Go ys y → ys.length < sizeLine) (h2 : ∀ ys y H, ¬ La ys y H) (h3 : ∀ ys H σ' s' acc c, Fin ys H → Inv Xg ip σ' H s' → s'.heap.get? S = some (lstObj acc c) → Vals ys acc.toList → R (.ok (.ret res)) s') :
    ∀ (n : Nat) (s : Shared) (acc : Array Value) (c : Nat), s.heap.get? a = some go → s.heap.NoLimit → s.heap.get? S = some (lstObj acc c) → GAt Xg ip (some S) CTup Go La Fin A.in1 g n s →
      codeAny (model Xg.prog Xg.w) A (.builtin "list.extend.loop" ⟨[.ref S, .ref a, res], []⟩) R s := by
  intro n
  induction n using Nat.strongRecOn with
  | ind n ih =>
  intro s acc c ha hl hS hg
  refine codeAny_builtin F.entry_extend_loop ?_
  rw [Around.under_plainId F.plain_extend_loop _]
  show wpAny _ A.in1 (pyNext (.ref a) >>= _) _ _ s
  refine wpAny_bind (wpAny_mono (gen_next (E := fun _ _ => False) (A := A.in1) hh hroom hgo hip ha hl hg) (fun r s' hr => ?_) fun _ _ z => False.elim z)
  cases r with
  | none =>
    obtain ⟨ys, σ', H', I, cc, sk, q⟩ := hr
    obtain ⟨o, e1, _, acc2, c2, rfl, rv⟩ := cc S rfl
    exact wpAny_pure (h3 ys H' σ' s' acc2 c2 q I e1 rv)
  | some v =>
    obtain ⟨ys, y, σ4, H4, ry, I, ha', hl', cc, sk, q⟩ := hr
    rcases q with ⟨hgo', nx⟩ | hla
    · have hlt := h1 ys y hgo'
      have hS' := sk S _ rfl hS
      obtain ⟨o, e1, _, acc2, c2, rfl, rv⟩ := cc S rfl
      rw [hS'] at e1
      cases e1
      have hsz : acc.size = ys.length := by
        have e1 := rv.length
        have e2 : acc.toList.length = acc.size := by simp
        omega
      show wpAny _ A.in1 (updateSeq S (·.push v) >>= _) _ _ _
      refine wpAny_bind ?_
      have hk : ∀ b u, b ≠ S → s'.heap.get? b = some u → (s'.heap.update S (Obj.mapSeq (·.push v))).get? b = some u := fun b u hb e => (Heap.get?_update_other _ _ (Ne.symm hb)).trans e
      refine wpAny_updateSeq hS' rfl (wpAny_pure ⟨plainId_quiet F.plain_extend_loop _, ?_⟩) (by omega) (by show (acc.push v).size ≤ sizeLine + 1; rw [Array.size_push]; omega)
      obtain ⟨n', hn, hg'⟩ := nx { s' with heap := s'.heap.update S (Obj.mapSeq (·.push v)), toks := s'.toks } (slp_write I.bare hk (Heap.get?_update_self _ hS' rfl) (fun v z => by cases z) ⟨acc.push v, _, rfl, by rw [Array.toList_push]; exact rv.append (.cons ry .nil)⟩) rfl
      refine ih n' (by omega) _ (acc.push v) _ (hk _ _ haS ha') ?_ (Heap.get?_update_self _ hS' rfl) hg'
      obtain ⟨mc, hns, hnn⟩ := hl'
      exact ⟨mc, hns.at' fun o e => hk _ o (Ne.symm hSc) e, hnn⟩
    · exact absurd hla (h2 ys y H4)
end
section
variable {X : Cx} {pins : List (Addr × Obj)} {σ : L2.St} {s : Shared} {Go : List V → V → Prop} {La : List V → V → Hp → Prop} {Fin : List V → Hp → Prop} {u : Value}
theorem collectG {A : Around} {E : Value → Shared → Prop} {Q : List Value → Shared → Prop} (hh : A.handled = none) (hroom : A.depth < recursionLimit) (M : Awake X pins σ A.in1 Go La Fin u s)
    (h1 : ∀ ys y, Go ys y → ys.length < sizeLine) (h2 : ∀ ys y H, ¬ La ys y H) (hQ : ∀ ys H s' vs, Fin ys H → Inv X pins σ H s' → Vals ys vs → Q vs s') : wpAny (model X.prog X.w) A (collect u) Q E s := by
  obtain ⟨a, n, go, Xg, N, rfl, hgo, ha, hl, hb, e1, e2, e3, back, wake⟩ := M
  have hcl : cStatics < s.heap.objs.size := let ⟨_, hn, _⟩ := hl; hn.lt
  have hal : a < s.heap.objs.size := Heap.lt_size ha
  have haS : s.heap.objs.size ≠ a := Nat.ne_of_gt hal
  unfold collect
  refine wpAny_bind (wpAny_runValue (codeAny_builtin F.entry_proto_collect ?_))
  rw [Around.under_plainId F.plain_proto_collect _]
  show wpAny _ A.in1 (newList [] >>= fun l => again (.builtin "list.__iadd__" ⟨[l, .ref a], []⟩)) _ _ s
  refine wpAny_bind (wpAny_newObj_type ?_)
  refine wpAny_pure ⟨plainId_quiet F.plain_list_iadd _, codeAny_builtin F.entry_list_iadd ?_⟩
  rw [Around.under_plainId F.plain_list_iadd _]
  have ty : ∀ {h : Heap} {tk : Nat}, (∀ b o, s.heap.get? b = some o → h.get? b = some o) → Shared.TypeIs { s with heap := h, toks := tk } (.ref a) "generator" := fun {h tk} k => Heap.IsGen.typeIs (s := { s with heap := h, toks := tk }) (g := n) (hgo h (k _ _ ha))
  have k1 : ∀ b o, s.heap.get? b = some o → (s.heap.push { cls := .type "list", data := .seq ([] : List Value).toArray }).get? b = some o := fun b o e => Heap.get?_push_of_some _ e
  show wpAny _ A.in1 (Builtin.List.listExtendWith (.ref s.heap.objs.size) (.ref a) (.ref s.heap.objs.size)) _ _ _
  unfold Builtin.List.listExtendWith
  refine wpAny_bind (wpAny_typeOf (ty k1) ?_)
  have h1' : Builtin.List.listSameRef (.ref s.heap.objs.size) (.ref a) = false := by simp [Builtin.List.listSameRef, haS]
  have h2' : (Value.type "generator" == Value.type "list") = false := by decide
  have h3' : (Value.type "generator" == Value.type "tuple") = false := by decide
  simp only [h1', h2', h3', Bool.or_false, Bool.false_eq_true, if_false]
  refine wpAny_bind (wpAny_pyIter_gen (hgo _ (k1 _ _ ha)) ?_)
  refine wpAny_bind (wpAny_holding ?_)
  unfold Builtin.List.listLengthHint
  refine wpAny_bind (wpAny_specialOf (ty k1) F.gen_no_len ?_)
  show wpAny _ A.in1 (specialOf (Value.ref a) (Str.ofString "__length_hint__") >>= _) _ _ _
  refine wpAny_bind (wpAny_specialOf (ty k1) F.gen_no_hint ?_)
  refine wpAny_pure ?_
  show wpAny _ A.in1 (rule "list.extend.makes-room" >>= fun _ => Builtin.List.listTouch (.ref s.heap.objs.size) >>= fun _ =>
    again (.builtin "list.extend.loop" ⟨[.ref s.heap.objs.size, .ref a, .ref s.heap.objs.size], []⟩)) _ _ _
  refine wpAny_bind (wpAny_rule ?_)
  have hS1 : (s.heap.push { cls := .type "list", data := .seq ([] : List Value).toArray }).get? s.heap.objs.size = some { cls := .type "list", data := .seq ([] : List Value).toArray } := Heap.get?_push_size _ rfl
  refine wpAny_bind ?_
  show wpAny _ A.in1 (updateSeq s.heap.objs.size (·.push .none) >>= fun _ => updateSeq s.heap.objs.size (·.pop)) _ _ _
  refine wpAny_bind (wpAny_updateSeq hS1 rfl ?_)
  have hS2 := Heap.get?_update_self (Obj.mapSeq (·.push Value.none)) hS1 rfl
  refine wpAny_updateSeq hS2 rfl ?_
  have hS3 := Heap.get?_update_self (Obj.mapSeq (·.pop)) hS2 rfl
  have oth : ∀ b o, b ≠ s.heap.objs.size → s.heap.get? b = some o →
      (((s.heap.push { cls := .type "list", data := .seq ([] : List Value).toArray }).update s.heap.objs.size (Obj.mapSeq (·.push Value.none))).update s.heap.objs.size (Obj.mapSeq (·.pop))).get? b = some o :=
    fun b o hb e => (Heap.get?_update_other _ _ (Ne.symm hb)).trans ((Heap.get?_update_other _ _ (Ne.symm hb)).trans (k1 b o e))
  refine wpAny_pure ⟨plainId_quiet F.plain_extend_loop _, ?_⟩
  have hl3 : (((s.heap.push { cls := .type "list", data := .seq ([] : List Value).toArray }).update s.heap.objs.size (Obj.mapSeq (·.push Value.none))).update s.heap.objs.size (Obj.mapSeq (·.pop))).NoLimit := by
    obtain ⟨mc, hns, hnn⟩ := hl
    exact ⟨mc, hns.at' fun o e => oth _ o (Nat.ne_of_lt hcl) e, hnn⟩
  rw [← e1, ← e2]
  refine ext_loopG (Go := Go) (La := La) (Fin := Fin) (S := s.heap.objs.size) hh hroom hgo rfl (Nat.ne_of_lt hal) (Nat.ne_of_gt hcl) h1 h2 (fun ys H σ' s' acc c q I hS' rv => ?_) N _ _ _ (oth _ _ (Nat.ne_of_lt hal) ha) hl3 hS3
    (wake (some s.heap.objs.size) CTup _ (fun b q => by cases q; exact Nat.le_refl _) rfl rfl (fun b o hne e => oth b o (fun z => hne (by rw [z])) e) fun b q => by cases q; exact ⟨_, hS3, fun v z => (by cases z), #[], _, rfl, .nil⟩)
  show wpAny _ A (load s.heap.objs.size >>= _) _ _ s'
  refine wpAny_bind (wpAny_load hS' ?_)
  exact wpAny_pure (hQ ys H s' _ q (back _ _ _ I) rv)
theorem call_tupG {Q : VK} (hr : Room 4 X.A) (M : Awake X pins σ X.A.in1.in1.in1 Go La Fin u s)
    (h1 : ∀ ys y, Go ys y → ys.length < sizeLine) (h2 : ∀ ys y H, ¬ La ys y H) (h3 : ∀ ys H, Fin ys H → ys.length ≤ sizeLine ∧ ∀ p, H p = none → Q (.ref p) (upd H p (.tup ys))) : wpAny (model X.prog X.w) X.A (call (.type "tuple") [u]) (EP X pins σ Q) X.xe s := by
  have hTI : ∃ a n go, u = .ref a ∧ (∀ h : Heap, h.get? a = some go → h.IsGen a n) ∧ s.heap.get? a = some go := by
    obtain ⟨a, n, go, Xg, N, rfl, hgo, ha, _⟩ := M
    exact ⟨a, n, go, rfl, hgo, ha⟩
  obtain ⟨a, n, go, rfl, hgo, ha⟩ := hTI
  refine callType_codes (Q₁ := fun obj s1 => s1.TypeIs obj "tuple" ∧ EP X pins σ Q obj s1) F.called_tuple (F.typeCall_tuple_1 _) F.entry_object_init ?_ fun obj s1 h1' => ?_
  · refine codeAny_of_tree ?_
    show wpAny _ X.A.in1.in1 (do checkBuiltinCall "tuple.__new__" ⟨[.type "tuple", .ref a], []⟩; again (.builtin "tuple.__new__" ⟨[.type "tuple", .ref a], []⟩)) _ _ s
    refine wpAny_bind (wpAny_of_eq (F.newCall_tuple_1 _) (wpAny_pure ⟨plainId_quiet F.plain_tuple_new _, codeAny_builtin F.entry_tuple_new ?_⟩))
    rw [Around.under_plainId F.plain_tuple_new _]
    have hsub := sub_tuple_self
    have hinit := init_tuple_lookup
    have hmh := madeHere_tuple
    have hT := (hgo _ ha).typeIs
    wp_walk using wpAny_typeOf hT, collectG (A := X.A.in1.in1) hr.hd (by have := hr.dp; show X.A.depth < _; omega) M h1 h2
    intro ys H s' vs q I rv
    show wpAny _ _ (Builtin.Tuple.tupleExact vs.toArray >>= fun v => ret v) _ _ _
    unfold Builtin.Tuple.tupleExact
    obtain ⟨hz, hQ⟩ := h3 ys H q
    have hlen := rv.length
    refine wpAny_bind (wpAny_newObj_type ?_ (by show vs.toArray.size ≤ sizeLine; simp only [List.size_toArray]; omega))
    refine wpAny_pure ?_
    have hn : H s'.heap.objs.size = none := I.hok.fresh (Nat.le_refl _)
    have hp : (s'.heap.push { cls := .type "tuple", data := .seq vs.toArray }).get? s'.heap.objs.size = some { cls := .type "tuple", data := .seq vs.toArray } := Heap.get?_push_size _ rfl
    refine ⟨⟨_, hp, rfl⟩, .ref s'.heap.objs.size, _, I.laid (t' := s'.toks) (fun b o e => Heap.get?_push_of_some _ e) (Nat.le_refl _) (o := .tup ys) ⟨hz, vs, rv, ?_⟩, rfl, hQ _ hn⟩
    exact ⟨_, hp, rfl, 0, rfl⟩
  · exact ⟨h1'.1, F.args_object_init_2 obj _, object_init_meets F.called_tuple.init.lookup F.called_tuple.made (by decide) _ _ X.A.in1 _ s1 ⟨h1'.1, rfl, h1'.2⟩⟩
end
end Ev

set_option maxHeartbeats 4000000
namespace Ev
open PySem PySem.Spec PyProof.Rows L2 GenW

/-! ### generator expressions, in the small language -/
section
variable {st : D → Bool} {f : D → En → Option (Option D × En)}
theorem evGen_pre : ∀ {xs acc : List D} {ρ : En} {r : List D × En}, evGen st f xs acc ρ = some r → acc <+: r.1
  | [], acc, ρ, r, h => by cases h; exact List.prefix_refl _
  | x :: xs, acc, ρ, r, h => by
    simp only [evGen] at h
    split at h
    · split at h
      · cases h; exact List.prefix_append _ _
      · exact (List.prefix_append _ _).trans (evGen_pre h)
    · exact evGen_pre h
    · cases h
end
theorem Rel.grow {K : PySem.W.Frag} {tb : List Addr} {pa : Nat → Addr} {B F : Hp} {σ : St} {H : Hp} {ρ : En} {P : Addr} {ps more : Array Value} (r : Rel K tb pa B F σ H ρ) (hP : P ∈ tb) (e : H P = some (.tbl ps)) (ht : TriplesOk (ps ++ more).toList) : Rel K tb pa B F σ (upd H P (.tbl (ps ++ more))) ρ := by
  obtain ⟨_, f0, b0⟩ := r.wf.tabs P hP
  refine ⟨⟨fun p o q => ?_, fun p o q => ?_, fun P' hP' => ?_⟩, r.len, fun i s hs => (r.sl i s hs).same (Sm.refl _) fun p w z => ⟨fun u q => ?_, fun y => y⟩, r.ne⟩
  · rw [upd_ne (ne_of_none q f0)]; exact r.wf.fz p o q
  · rw [upd_ne (ne_of_none q b0)]; exact r.wf.bg p o q
  · obtain ⟨a, b, c⟩ := r.wf.tabs P' hP'
    refine ⟨?_, b, c⟩
    by_cases z : P' = P
    · subst z
      exact ⟨_, upd_same, ht⟩
    · obtain ⟨ps', e', t'⟩ := a
      exact ⟨ps', by rw [upd_ne z]; exact e', t'⟩
  · by_cases y : p = P
    · subst y
      have := r.sl i s hs
      cases s with
      | u => cases w
      | v d => cases w
      | o mt ds =>
        obtain ⟨p', vs, a, _, b, _⟩ := this
        rw [a] at z; cases z
        rw [e] at b; cases b
    · rw [upd_ne y]; exact q

section
variable {T : Tb} {tb : List Addr} {k : Nat} {s : Sc} {X : Cx} {a b c e : Expr} {es : List Expr} {ρ ρ1 ρ2 ρ3 : En} {oa ob oc op res : Op} {ops : List Op} {ds : List D} {pa : Nat → Addr} {B F H : Hp} {σ : St} {pos : Pos} {r1 r2 : Bool}
theorem XOk.gx (o : XOk T tb k s X) (scope : Scope) (A : Around) (s0 : Shared) (H0 : Hp) (C : Addr) (code : Value) (fp : List Addr) (hr : Room k A) (hg : A.guards = some []) : XOk T tb k (gnS s scope) (Ev.gx X A s0 H0 (envG X scope C code) fp) :=
  { fns := o.fns, kws := o.kws, gls := o.gls, blt := o.blt, nm := o.nm, nd := o.nd, sc := rfl, fn := (fun x h => by cases h), calm := rfl, room8 := hr, tab := (fun h => by cases h), grd := hg, own := PassesOwn.never }
def gG (X : Cx) (k : Nat) (scope : Scope) (tg : Expr) : TG := fun v σ H Q => ∀ (A : Around) s H0 C code fp, Room k A → A.guards = some [] → WG (Ev.gx X A s H0 (envG X scope C code) fp) tg v σ H Q
def ttG (X : Cx) (k : Nat) (scope : Scope) (ifs : List Expr) : TT := fun σ H Q => ∀ (A : Around) s H0 C code fp, Room k A → A.guards = some [] → WTs (Ev.gx X A s H0 (envG X scope C code) fp) ifs σ H Q
def teG (X : Cx) (k : Nat) (scope : Scope) (elt : Expr) : TE := fun σ H Q => ∀ (A : Around) s H0 C code fp, Room k A → A.guards = some [] → WE (Ev.gx X A s H0 (envG X scope C code) fp) elt σ H Q
theorem gparts (X : Cx) (k : Nat) (elt tg : Expr) (ifs : List Expr) (scope : Scope) : GParts X k elt tg ifs scope (gG X k scope tg) (ttG X k scope ifs) (teG X k scope elt) :=
  ⟨fun A s H C code fp hr hg => ⟨fun pins s' σ H v u Q I r h => h A s _ C code fp hr hg pins s' u I r⟩, fun A s H C code fp hr hg => ⟨fun pins s' σ H Q I h => h A s _ C code fp hr hg pins s' I⟩, fun A s H C code fp hr hg => ⟨fun pins s' σ H Q I h => h A s _ C code fp hr hg pins s' I⟩⟩
/-- what a consumer may rely on: out, all that comes -/
structure GFacts (K : PySem.W.Frag) (st : D → Bool) (out : List D) (Fz : Hp → Hp → Prop) (Go : List V → V → Prop) (La : List V → V → Hp → Prop) (Fin : List V → Hp → Prop) : Prop where
  go : ∀ ys y, Go ys y → ∃ F acc d, RpAll K F ys acc ∧ Rp K F y d ∧ st d = false ∧ (acc ++ [d]) <+: out
  la : ∀ ys y H, La ys y H → ∃ F acc d, RpAll K F ys acc ∧ Rp K F y d ∧ st d = true ∧ out = acc ++ [d] ∧ Fz F H
  fin : ∀ ys H, Fin ys H → ∃ F, RpAll K F ys out ∧ (∀ d ∈ out, st d = false) ∧ Fz F H
theorem gn_ok {elt tg iter : Expr} {ifs : List Expr} {scope : Scope} {own : List (Str × Nat)} {ix : List Nat} {st : D → Bool} {f : D → En → Option (Option D × En)} {out : List D} {ρn : En} {P : Addr}
    (hP : P ∈ tb) (hi : SI tb X tg iter ρ ds ρ1) (hix : ∀ i ∈ ix, i ∈ own.map (·.2))
    (hb : ∀ x ρa q, f x ρa = some q → ∃ ρ2 b ρ3, (∀ A s H C code fp, Room k A → A.guards = some [] → SG tb (Ev.gx X A s H (envG X scope C code) fp) tg ix (wipeE ρa (own.map (·.2))) x ρ2) ∧ (∀ A s H C code fp, Room k A → A.guards = some [] → STs tb (Ev.gx X A s H (envG X scope C code) fp) ifs ρ2 b ρ3) ∧
      ((b = false ∧ q = (none, ρ3)) ∨ (b = true ∧ ∃ op ρ4 d ρb, (∀ A s H C code fp, Room k A → A.guards = some [] → SE tb (Ev.gx X A s H (envG X scope C code) fp) elt ρ3 op ρ4) ∧ keepOp ρ4 op = some (d, ρb) ∧ q = (some d, ρb))))
    (h : evGen st f ds [] ρ1 = some (out, ρn)) (r : Rel X.K tb pa B F σ H ρ) :
    WI X tg iter σ H (Grows P fun J H1 => ∃ Go La Fin, GFacts X.K st out (fun F' H' => Sm F F' ∧ Rel X.K tb pa B F' σ H' (backE ρ1 ρn (own.map (·.2)))) Go La Fin ∧ GenR (gG X k scope tg) (ttG X k scope ifs) (teG X k scope elt) σ (own.map (·.2)) Go La Fin J H1) := by
  obtain ⟨vs, hvs⟩ : ∃ vs, vs = own.map (·.2) := ⟨_, rfl⟩
  rw [← hvs] at hb hix ⊢
  refine hi pa B F σ H r _ fun J F1 H1 s1 r1 wk => ?_
  obtain ⟨⟨ps, eP, htp⟩, _, _⟩ := r1.wf.tabs P hP
  refine ⟨ps, eP, htp, fun more hmore => ?_⟩
  have r1' := r1.grow hP eP hmore
  generalize hH1 : upd H1 P (.tbl (ps ++ more)) = H1' at r1' ⊢
  have fz : ∀ {F' H'}, Sm F1 F' → Rel X.K tb pa B F' (wipe σ vs) H' (wipeE ρn vs) → Sm F F' ∧ Rel X.K tb pa B F' σ H' (backE ρ1 ρn vs) := fun s2 r2 => ⟨s1.trans s2, Rel.back r1 s2 r2⟩
  refine ⟨fun ys y => ∃ F acc d, RpAll X.K F ys acc ∧ Rp X.K F y d ∧ st d = false ∧ (acc ++ [d]) <+: out, fun ys y H => ∃ F' acc d, RpAll X.K F' ys acc ∧ Rp X.K F' y d ∧ st d = true ∧ out = acc ++ [d] ∧ Sm F1 F' ∧ Rel X.K tb pa B F' (wipe σ vs) H (wipeE ρn vs), fun ys H => ∃ F', RpAll X.K F' ys out ∧ (∀ d ∈ out, st d = false) ∧ Sm F1 F' ∧ Rel X.K tb pa B F' (wipe σ vs) H (wipeE ρn vs),
    ⟨fun ys y q => q, fun ys y H q => ?_, fun ys H q => ?_⟩, ?_⟩
  · obtain ⟨F', acc, d, a1, a2, a3, a4, a5, a6⟩ := q
    exact ⟨F', acc, d, a1, a2, a3, a4, fz a5 a6⟩
  · obtain ⟨F', a1, a2, a3, a4⟩ := q
    exact ⟨F', a1, a2, fz a3 a4⟩
  refine ⟨fun ys n i m H => m = ds.length - i ∧ ∃ F' ρa acc, Sm F1 F' ∧ RpAll X.K F' ys acc ∧ (∀ d ∈ acc, st d = false) ∧ Rel X.K tb pa B F' (wipe σ vs) H (wipeE ρa vs) ∧ n + acc.length = out.length ∧ evGen st f (ds.drop i) acc ρa = some (out, ρn), out.length, ds.length - 0,
    ⟨rfl, F1, ρ1, [], Sm.refl _, .nil, by simp, r1'.wipe vs, by simp, h⟩, ?_⟩
  rintro ys n i m H2 ⟨rfl, F2, ρa, acc, s2, rp, hacc, r2, hn, ev⟩
  by_cases hi2 : i < ds.length
  · have m2 : Sm F1 H2 := s2.trans r2.wf.fz
    refine .inr ⟨wk.go i H2 m2 hi2, fun x H3 hy => ?_⟩
    have hd : ds[i]? = some ds[i] := List.getElem?_eq_getElem hi2
    rw [List.drop_eq_getElem_cons hi2] at ev
    simp only [evGen] at ev
    obtain ⟨F3, s3, sH3, r3, dx⟩ := Yld.ok (tb := tb) (F := F2) (H := H2) (by
      rcases wk.yld i H2 x H3 _ m2 hd hy with ⟨a, b⟩ | ⟨p, ws, ds', a, b, c, e, g⟩
      · exact .inl ⟨a, Rp.mono s2 b⟩
      · exact .inr ⟨p, ws, ds', a, b, c, e, RpAll.mono s2 g⟩) r2
    cases hq : f ds[i] ρa with
    | none => rw [hq] at ev; cases ev
    | some qq =>
      rw [hq] at ev
      obtain ⟨ρ2, b, ρ3, h1, h2, h3⟩ := hb _ _ _ hq
      intro A s0 H0 C code fp hr hg
      refine h1 A s0 H0 C code fp hr hg pa _ F3 _ H3 x r3 dx _ fun σ2 r4 hw => ?_
      have hw : wipe σ2 vs = wipe σ vs := by
        rw [hw vs hix]
        have : ∀ us : List Nat, (∀ i ∈ us, i ∈ vs) → wipe (wipe σ us) vs = wipe σ vs := by
          intro us hu
          induction us with
          | nil => rfl
          | cons u us ih =>
            show wipe ((wipe σ us).set u none) vs = _
            rw [wipe_set (hu u List.mem_cons_self)]
            exact ih fun i hi => hu i (List.mem_cons_of_mem _ hi)
        exact this vs fun i hi => hi
      refine ⟨hw, fun A s0 H0 C code fp hr hg => ?_⟩
      refine h2 A s0 H0 C code fp hr hg pa _ F3 σ2 H3 r4 _ fun F4 H4 s4 r5 => ?_
      have wipd : ∀ {F5 : Hp} {H5 : Hp} {ρb : En}, Rel X.K tb pa B F5 σ2 H5 ρb → Rel X.K tb pa B F5 (wipe σ vs) H5 (wipeE ρb vs) := fun {F5 H5 ρb} r6 => by
        have r7 := r6.wipe vs
        rw [hw] at r7
        exact r7
      rcases h3 with ⟨rfl, rfl⟩ | ⟨rfl, op, ρ4, d, ρb, h4, h5, rfl⟩
      · rw [if_neg Bool.false_ne_true]
        exact ⟨_, by omega, rfl, F4, ρ3, acc, (s2.trans s3).trans s4, RpAll.mono (s3.trans s4) rp, hacc, wipd r5, hn, ev⟩
      · rw [if_pos rfl]
        intro A s0 H0 C code fp hr hg
        refine h4 A s0 H0 C code fp hr hg pa _ F4 σ2 H4 r5 _ fun y F5 H5 s5 r6 oy => ?_
        obtain ⟨F6, s6, r7, dy⟩ := keep_ok r6 oy h5
        have sA : Sm F2 F6 := ((s3.trans s4).trans s5).trans s6
        cases hst : st d with
        | true =>
          simp only [hst, if_true] at ev
          cases ev
          rw [List.length_append] at hn
          simp only [List.length_cons, List.length_nil] at hn
          exact ⟨0, by omega, .inr ⟨F6, acc, d, RpAll.mono sA rp, dy, hst, rfl, s2.trans sA, wipd r7⟩⟩
        | false =>
          simp only [hst, Bool.false_eq_true, if_false] at ev
          have hpre := evGen_pre ev
          have hlen := hpre.length_le
          rw [List.length_append] at hlen
          simp only [List.length_cons, List.length_nil] at hlen
          refine ⟨out.length - acc.length - 1, by omega, .inl ⟨⟨F6, acc, d, RpAll.mono sA rp, dy, hst, hpre⟩, _, rfl, F6, ρb, acc ++ [d], s2.trans sA, RpAll.append (RpAll.mono sA rp) (.cons dy .nil), fun e he => ?_, wipd r7, ?_, ev⟩⟩
          · rcases List.mem_append.mp he with z | z
            · exact hacc e z
            · rw [List.mem_singleton.mp z]; exact hst
          · rw [List.length_append]; simp only [List.length_cons, List.length_nil]; omega
  · have hdr : ds.drop i = [] := List.drop_eq_nil_of_le (by omega)
    rw [hdr] at ev
    cases ev
    exact .inl ⟨wk.stop i H2 (s2.trans r2.wf.fz) (by omega), F2, rp, hacc, s2, r2⟩
theorem GMk.split {pins : List (Addr × Obj)} {vs : List Nat} {elt tg iter : Expr} {ifs : List Expr} {scope : Scope} {gpos : Pos} {u : Value} {sh : Shared} {CF : (List V → V → Prop) → (List V → V → Hp → Prop) → (List V → Hp → Prop) → Prop} {R : (List V → V → Prop) → (List V → V → Hp → Prop) → (List V → Hp → Prop) → It → Hp → Prop}
    (M : GMk X pins σ vs elt tg iter ifs scope gpos (fun J H1 => ∃ Go La Fin, CF Go La Fin ∧ R Go La Fin J H1) u sh) : ∃ Go La Fin, CF Go La Fin ∧ GMk X pins σ vs elt tg iter ifs scope gpos (R Go La Fin) u sh := by
  obtain ⟨a, n, go, it, fp, tn, J, s4, H4, code, e1, hgo, ha, hnc, I4, Tn, st, hfp, ⟨Go, La, Fin, cf, hR⟩, rest⟩ := M
  exact ⟨Go, La, Fin, cf, a, n, go, it, fp, tn, J, s4, H4, code, e1, hgo, ha, hnc, I4, Tn, st, hfp, hR, rest⟩
theorem boolsD_all {out : List D} {bs : List Bool} (h : boolsD out = some bs) : out = bs.map .bool := by
  induction out generalizing bs with
  | nil => cases h; rfl
  | cons d ds ih =>
    cases d <;> simp [boolsD] at h
    obtain ⟨m, h1, rfl⟩ := h
    rw [ih h1]; rfl
theorem intsD_all {out : List D} {bs : List Int} (h : intsD out = some bs) : out = bs.map .int := by
  induction out generalizing bs with
  | nil => cases h; rfl
  | cons d ds ih =>
    cases d <;> simp [intsD] at h
    obtain ⟨m, h1, rfl⟩ := h
    rw [ih h1]; rfl
theorem se_gn (o : XOk T tb k s X) {f : String} {elt tg iter : Expr} {ifs : List Expr} {scope : Scope} {own : List (Str × Nat)} {ix : List Nat} {fv : D → En → Option (Option D × En)} {out : List D} {ρn : En} {pn gpos : Pos} {d : D}
    (hgl : glB s.sc (Str.ofString f) = true) (hok : okN (Str.ofString f) = true) (hgd : s.gd = true) (ok : GnOk X.N X.env.scope scope own) (hfold : ∀ v, genFold iter X.env v = pure v)
    (hi : SI tb X tg iter ρ ds ρ1) (hix : ∀ i ∈ ix, i ∈ own.map (·.2))
    (hb : ∀ x ρa q, fv x ρa = some q → ∃ ρ2 b ρ3, (∀ A s H C code fp, Room k A → A.guards = some [] → SG tb (Ev.gx X A s H (envG X scope C code) fp) tg ix (wipeE ρa (own.map (·.2))) x ρ2) ∧ (∀ A s H C code fp, Room k A → A.guards = some [] → STs tb (Ev.gx X A s H (envG X scope C code) fp) ifs ρ2 b ρ3) ∧
      ((b = false ∧ q = (none, ρ3)) ∨ (b = true ∧ ∃ op ρ4 d ρb, (∀ A s H C code fp, Room k A → A.guards = some [] → SE tb (Ev.gx X A s H (envG X scope C code) fp) elt ρ3 op ρ4) ∧ keepOp ρ4 op = some (d, ρb) ∧ q = (some d, ρb))))
    (h : evGen (gnSt f) fv ds [] ρ1 = some (out, ρn)) (hd : gnD f out = some d) :
    SE tb X (.Call (.Name (Str.ofString f) pn) [.GeneratorExp elt [⟨tg, iter, ifs, 0⟩] scope gpos] [] pos) ρ (.val d) (backE ρ1 ρn (own.map (·.2))) := by
  intro pa B F σ H r Q q pins sh I
  obtain ⟨c, P, hcode, TB, hP⟩ := o.tab hgd
  have hr := o.room5 hgd
  have he : starEach [.GeneratorExp elt [⟨tg, iter, ifs, 0⟩] scope gpos] X.env = (false, eval (.GeneratorExp elt [⟨tg, iter, ifs, 0⟩] scope gpos) X.env) :: starEach [] X.env := by rfl
  have hw := gn_ok (k := k) (scope := scope) (pa := pa) (B := B) (F := F) (σ := σ) (H := H) hP hi hix hb h r
  have hdb := (okN_ok hok).1
  have mk : ∀ (A : Around), Room (k + 3) A → A.frames = some X.stack → A.guards = some [] → ∀ {Q' : Value → Shared → Prop}, (∀ u s' Go La Fin, GFacts X.K (gnSt f) out (fun F' H' => Sm F F' ∧ Rel X.K tb pa B F' σ H' (backE ρ1 ρn (own.map (·.2)))) Go La Fin → Awake X pins σ A Go La Fin u s' → Q' u s') → wpAny (model X.prog X.w) X.A (eval (.GeneratorExp elt [⟨tg, iter, ifs, 0⟩] scope gpos) X.env) Q' X.xe sh := fun A hrA hfA hgA {Q'} hQ' => by
    refine gen_make hr TB hcode ok o.nd hfold I hw fun u s' M => ?_
    obtain ⟨Go, La, Fin, cf, M'⟩ := M.split
    exact hQ' u s' Go La Fin cf (gmk_wake (A := A) (k := k) (hrA.mono (by omega)) hfA hgA ok.co (gparts X k elt tg ifs scope) M')
  have hr1 : Room (k + 3) X.A.in1 := (hr.mono (show k + 4 ≤ k + 8 by omega)).in1
  have hr3 : Room (k + 3) X.A.in1.in1.in1 := (((hr.mono (show k + 6 ≤ k + 8 by omega)).in1).in1).in1
  unfold gnD at hd
  split at hd
  · simp only [Option.map_eq_some_iff] at hd
    obtain ⟨bs, h1, rfl⟩ := hd
    have hout := boolsD_all h1
    refine wpAny_Call_Name_kw (ld_blt I (glB_ok o hgl) (o.blt _ (by decide)) boot_all ?_)
    refine PyProof.Rows.callWith_builtin1 ?_ he (by rfl)
    rw [he]
    show wpAny _ _ (spliced ((false, eval (.GeneratorExp elt [⟨tg, iter, ifs, 0⟩] scope gpos) X.env) :: backTo pos (starEach [] X.env))) _ _ sh
    refine Calls.spliced_cons (mk X.A.in1 hr1 I.ok.frames o.grd fun u s' Go La Fin cf aw => ?_)
    refine Calls.spliced_nil ?_
    refine call_allG (x := .non) (hr.mono (by omega)) aw (fun ys y hg => ?_) (fun ys y H hl => ?_) (fun ys H hf => ?_)
    · obtain ⟨F', acc, d, a1, a2, a3, a4⟩ := cf.go ys y hg
      have hm : d ∈ out := a4.subset (List.mem_append_right _ (List.mem_singleton.mpr rfl))
      rw [hout] at hm
      obtain ⟨b, hb, rfl⟩ := List.mem_map.mp hm
      cases a2
      simp only [gnSt, Bool.not_eq_false'] at a3
      rw [a3]
    · obtain ⟨F', acc, d, a1, a2, a3, a4, a5, a6⟩ := cf.la ys y H hl
      have hm : d ∈ out := by rw [a4]; simp
      rw [hout] at hm
      obtain ⟨b, hb, rfl⟩ := List.mem_map.mp hm
      cases a2
      simp only [gnSt, Bool.not_eq_true'] at a3
      subst a3
      refine ⟨rfl, ?_⟩
      have : bs.all id = false := by
        rw [List.all_eq_false]
        exact ⟨false, hb, by simp⟩
      rw [this] at q
      exact q _ F' H a5 a6 (.bl false)
    · obtain ⟨F', a1, a2, a5, a6⟩ := cf.fin ys H hf
      have : bs.all id = true := by
        rw [List.all_eq_true]
        intro b hb
        have := a2 (.bool b) (by rw [hout]; exact List.mem_map.mpr ⟨b, hb, rfl⟩)
        simpa [gnSt] using this
      rw [this] at q
      exact q _ F' H a5 a6 (.bl true)
  · simp only [Option.map_eq_some_iff] at hd
    obtain ⟨bs, h1, rfl⟩ := hd
    have hout := boolsD_all h1
    refine wpAny_Call_Name_kw (ld_blt I (glB_ok o hgl) (o.blt _ (by decide)) boot_any ?_)
    refine PyProof.Rows.callWith_builtin1 ?_ he (by rfl)
    rw [he]
    show wpAny _ _ (spliced ((false, eval (.GeneratorExp elt [⟨tg, iter, ifs, 0⟩] scope gpos) X.env) :: backTo pos (starEach [] X.env))) _ _ sh
    refine Calls.spliced_cons (mk X.A.in1 hr1 I.ok.frames o.grd fun u s' Go La Fin cf aw => ?_)
    refine Calls.spliced_nil ?_
    refine call_anyG (x := .non) (hr.mono (by omega)) aw (fun ys y hg => ?_) (fun ys y H hl => ?_) (fun ys H hf => ?_)
    · obtain ⟨F', acc, d, a1, a2, a3, a4⟩ := cf.go ys y hg
      have hm : d ∈ out := a4.subset (List.mem_append_right _ (List.mem_singleton.mpr rfl))
      rw [hout] at hm
      obtain ⟨b, hb, rfl⟩ := List.mem_map.mp hm
      cases a2
      simp only [gnSt] at a3
      rw [a3]
    · obtain ⟨F', acc, d, a1, a2, a3, a4, a5, a6⟩ := cf.la ys y H hl
      have hm : d ∈ out := by rw [a4]; simp
      rw [hout] at hm
      obtain ⟨b, hb, rfl⟩ := List.mem_map.mp hm
      cases a2
      simp only [gnSt] at a3
      subst a3
      refine ⟨rfl, ?_⟩
      have : bs.any id = true := by
        rw [List.any_eq_true]
        exact ⟨true, hb, rfl⟩
      rw [this] at q
      exact q _ F' H a5 a6 (.bl true)
    · obtain ⟨F', a1, a2, a5, a6⟩ := cf.fin ys H hf
      have : bs.any id = false := by
        rw [List.any_eq_false]
        intro b hb
        have := a2 (.bool b) (by rw [hout]; exact List.mem_map.mpr ⟨b, hb, rfl⟩)
        simpa [gnSt] using this
      rw [this] at q
      exact q _ F' H a5 a6 (.bl false)
  · simp only [Option.map_eq_some_iff] at hd
    obtain ⟨ns, h1, rfl⟩ := hd
    have hout := intsD_all h1
    refine wpAny_Call_Name_kw (ld_blt I (glB_ok o hgl) (o.blt _ (by decide)) boot_sum ?_)
    refine PyProof.Rows.callWith_builtin1 ?_ he (by rfl)
    rw [he]
    show wpAny _ _ (spliced ((false, eval (.GeneratorExp elt [⟨tg, iter, ifs, 0⟩] scope gpos) X.env) :: backTo pos (starEach [] X.env))) _ _ sh
    refine Calls.spliced_cons (mk X.A.in1 hr1 I.ok.frames o.grd fun u s' Go La Fin cf aw => ?_)
    refine Calls.spliced_nil ?_
    refine call_sumG (hr.mono (by omega)) aw (fun ys y hg => ?_) (fun ys y H hl => ?_) (fun ys H hf => ?_)
    · obtain ⟨F', acc, d, a1, a2, a3, a4⟩ := cf.go ys y hg
      have hm : d ∈ out := a4.subset (List.mem_append_right _ (List.mem_singleton.mpr rfl))
      rw [hout] at hm
      obtain ⟨b, hb, rfl⟩ := List.mem_map.mp hm
      cases a2
      exact ⟨b, rfl⟩
    · obtain ⟨F', acc, d, a1, a2, a3, a4, a5, a6⟩ := cf.la ys y H hl
      have : gnSt "sum" d = false := by cases d <;> rfl
      rw [this] at a3
      cases a3
    · obtain ⟨F', a1, a2, a5, a6⟩ := cf.fin ys H hf
      have e : ys = ns.map V.int := intsD_ok a1 h1
      have : isum ys = ns.sum := by
        rw [e]; unfold isum
        rw [List.map_map]
        congr 1
        exact List.map_id _
      rw [this]
      exact q _ F' H a5 a6 (.int _)
  · split at hd
    · rename_i hlen
      cases hd
      have hlen : out.length ≤ sizeLine := of_decide_eq_true hlen
      refine wpAny_Call_Name_kw (ld_blt I (glB_ok o hgl) (o.blt _ (by decide)) boot_tuple ?_)
      refine PyProof.Rows.callWith_type1 ?_ he (by rfl)
      rw [he]
      show wpAny _ _ (spliced ((false, eval (.GeneratorExp elt [⟨tg, iter, ifs, 0⟩] scope gpos) X.env) :: backTo pos (starEach [] X.env))) _ _ sh
      refine Calls.spliced_cons (mk X.A.in1.in1.in1 hr3 I.ok.frames o.grd fun u s' Go La Fin cf aw => ?_)
      refine Calls.spliced_nil ?_
      refine call_tupG (hr.mono (by omega)) aw (fun ys y hg => ?_) (fun ys y H hl => ?_) (fun ys H hf => ?_)
      · obtain ⟨F', acc, d, a1, a2, a3, a4⟩ := cf.go ys y hg
        have h1 := a4.length_le
        rw [List.length_append] at h1
        simp only [List.length_cons, List.length_nil] at h1
        have h2 := RpAll.length a1
        omega
      · obtain ⟨F', acc, d, a1, a2, a3, a4, a5, a6⟩ := cf.la ys y H hl
        have : gnSt "tuple" d = false := by cases d <;> rfl
        rw [this] at a3
        cases a3
      · obtain ⟨F', a1, a2, a5, a6⟩ := cf.fin ys H hf
        refine ⟨by rw [RpAll.length a1]; exact hlen, fun p hp => ?_⟩
        obtain ⟨f0, b0⟩ := a6.wf.none hp
        exact q _ (upd F' p (.tup ys)) _ (a5.trans (Sm.upd f0)) ((a6.laid hp (.tup ys)).freeze upd_same (fun ps z => by cases z) f0 b0 (a6.off_none hp)) (.tup (SqT.of upd_same) (RpAll.mono (Sm.upd f0) a1))
    · cases hd
  · cases hd
end
end Ev

set_option maxHeartbeats 4000000
namespace Ev
open PySem PySem.Spec PyProof.Rows L2

section
variable {T : Tb} {tb : List Addr} {k : Nat} {s : Sc} {X : Cx} {a b c e tg : Expr} {es : List Expr} {ρ ρ1 ρ2 ρ3 : En} {oa ob oc op res : Op} {ops : List Op} {ds : List D} {d : D} {pa : Nat → Addr} {B F H : Hp} {σ : St} {pos : Pos} {r1 r2 : Bool}

/-! ### tests -/
def plainT : Expr → Bool
  | .UnaryOp .. => false
  | .BoolOp .. => false
  | .IfExp .. => false
  | .Compare .. => false
  | _ => true
theorem plainT_eq {e : Expr} (h : plainT e = true) (env : Env) (whole : Sem Value) : isTrue e env whole = (do let v ← whole; standAt e.pos; holding [v] (truthy v)) := by
  cases e <;> first | rfl | cases h
theorem tru_of {K : PySem.W.Frag} {x : V} {t : Bool} (v : Vw K F H x d) (m : Sm F H) (h : trD d = some t) : TruV K x H t := by
  cases v with
  | non => cases h; rfl
  | bl b => cases h; rfl
  | int i => cases h; rfl
  | str y => cases h
  | lst a b =>
    cases h
    refine .inl ⟨_, .inl a, ?_⟩
    cases b <;> rfl
  | tup a b =>
    cases h
    refine .inr (.inl ⟨_, SqT.mono m a, ?_⟩)
    cases b <;> rfl
theorem st_val {t : Bool} (hp : plainT a = true) (ha : SE tb X a ρ op ρ1) (hd : viewOp ρ1 op = some d) (ht : trD d = some t) : ST tb X a ρ t ρ1 := by
  intro pa B F σ H r Q q
  refine wt_of (pt_truth (pe_we X a) (plainT_eq hp X.env)) (ha.use r hd fun x F' H' s' r' v => ?_)
  exact ⟨t, tru_of v r'.wf.fz ht, q F' H' s' r'⟩
theorem st_not {t : Bool} (ha : ST tb X a ρ t ρ1) : ST tb X (.UnaryOp .Not a pos) ρ (!t) ρ1 := by
  intro pa B F σ H r Q q pins s I
  exact isTrue_not (ha pa B F σ H r (fun c H1 => Q (!c) H1) (fun F' H' s' r' => q F' H' s' r') pins s I)
theorem st_andT {rest : List Expr} {t : Bool} (ha : ST tb X a ρ true ρ1) (hb : ST tb X (.BoolOp .And rest pos) ρ1 t ρ2) : ST tb X (.BoolOp .And (a :: rest) pos) ρ t ρ2 := by
  intro pa B F σ H r Q q pins s I
  refine isTrue_and (thn (ha pa B F σ H r (fun c H1 => c = true ∧ WT X (.BoolOp .And rest pos) σ H1 Q) (fun F' H' s' r' => ⟨rfl, hb pa B F' σ H' r' Q fun F2 H2 s2 r2 => q F2 H2 (s'.trans s2) r2⟩) pins s I) fun c s1 ⟨H1, I1, hc, h⟩ => ?_)
  subst hc
  rw [if_pos rfl]
  exact h pins s1 I1
theorem st_andF {rest : List Expr} (ha : ST tb X a ρ false ρ1) : ST tb X (.BoolOp .And (a :: rest) pos) ρ false ρ1 := by
  intro pa B F σ H r Q q pins s I
  refine isTrue_and (thn (ha pa B F σ H r (fun c H1 => c = false ∧ Q false H1) (fun F' H' s' r' => ⟨rfl, q F' H' s' r'⟩) pins s I) fun c s1 ⟨H1, I1, hc, h⟩ => ?_)
  subst hc
  rw [if_neg Bool.false_ne_true]
  exact ⟨H1, I1, h⟩
theorem st_orF {rest : List Expr} {t : Bool} (ha : ST tb X a ρ false ρ1) (hb : ST tb X (.BoolOp .Or rest pos) ρ1 t ρ2) : ST tb X (.BoolOp .Or (a :: rest) pos) ρ t ρ2 := by
  intro pa B F σ H r Q q pins s I
  refine isTrue_or (thn (ha pa B F σ H r (fun c H1 => c = false ∧ WT X (.BoolOp .Or rest pos) σ H1 Q) (fun F' H' s' r' => ⟨rfl, hb pa B F' σ H' r' Q fun F2 H2 s2 r2 => q F2 H2 (s'.trans s2) r2⟩) pins s I) fun c s1 ⟨H1, I1, hc, h⟩ => ?_)
  subst hc
  rw [if_neg Bool.false_ne_true]
  exact h pins s1 I1
theorem st_orT {rest : List Expr} (ha : ST tb X a ρ true ρ1) : ST tb X (.BoolOp .Or (a :: rest) pos) ρ true ρ1 := by
  intro pa B F σ H r Q q pins s I
  refine isTrue_or (thn (ha pa B F σ H r (fun c H1 => c = true ∧ Q true H1) (fun F' H' s' r' => ⟨rfl, q F' H' s' r'⟩) pins s I) fun c s1 ⟨H1, I1, hc, h⟩ => ?_)
  subst hc
  rw [if_pos rfl]
  exact ⟨H1, I1, h⟩
theorem st_one {o : BoolOp} {t : Bool} (ha : ST tb X a ρ t ρ1) : ST tb X (.BoolOp o [a] pos) ρ t ρ1 := by
  intro pa B F σ H r Q q pins s I
  cases o with
  | And =>
    refine isTrue_and (thn (ha pa B F σ H r Q q pins s I) fun c s1 ⟨H1, I1, h⟩ => ?_)
    cases c
    · exact ⟨H1, I1, h⟩
    · exact isTrue_and_nil ⟨H1, I1, h⟩
  | Or =>
    refine isTrue_or (thn (ha pa B F σ H r Q q pins s I) fun c s1 ⟨H1, I1, h⟩ => ?_)
    cases c
    · exact isTrue_or_nil ⟨H1, I1, h⟩
    · exact ⟨H1, I1, h⟩
theorem sts_nil : STs tb X [] ρ true ρ := fun pa B F σ H r Q q => wts_of pts_nil (q F H (Sm.refl _) r)
theorem sts_one {t : Bool} (h : ST tb X c ρ t ρ1) : STs tb X [c] ρ t ρ1 := fun pa B F σ H r Q q => wts_of (pts_one (pt_wt X c)) (h pa B F σ H r Q q)

/-! ### targets -/
theorem stB_ok (o : XOk T tb k s X) {x : Str} (h : stB s x = true) : Loc X.env.scope x ∧ (X.fn x = true ∨ X.env.scope.names.lookup x = some .local) := by
  unfold stB at h
  rw [o.sc]
  split at h
  · rename_i e; exact ⟨.inl e, .inr e⟩
  · rename_i e; exact ⟨.inr e, .inl (o.fn x h)⟩
  · cases h
theorem sg_nm (o : XOk T tb k s X) {i : Nat} {x : Str} (hN : s.N[i]? = some x) (hs : stB s x = true) (h : setE ρ i (.v d) = some ρ1) : SG tb X (.Name x pos) [i] ρ d ρ1 := by
  intro pa B F σ H y r rp Q q
  unfold setE at h
  split at h
  · rename_i hi
    cases h
    obtain ⟨h1, h2⟩ := stB_ok o hs
    refine wg_of (pg_name o.nd (by rw [o.nm]; exact hN) h1 h2) (q _ (r.store rp (of_decide_eq_true hi)) fun vs hv => wipe_set (hv i List.mem_cons_self))
  · cases h
def WGs (X : Cx) (es : List Expr) : TGs := fun vs σ H Q => ∀ (pins : List (Addr × Obj)) (s : Shared) (us : List Value), Inv X pins σ H s → Vals vs us →
  wpAny (model X.prog X.w) X.A (assignInOrder ((assignEach es X.env).map (·.2)) us) (fun _ s' => ∃ σ' H', Inv X pins σ' H' s' ∧ Q σ' H') X.xe s
theorem pgs_wgs (X : Cx) (es : List Expr) : PGs X es (WGs X es) := ⟨fun pins s σ H vs us Q I r h => h pins s us I r⟩
theorem wgs_of {t : TGs} {vs : List V} {Q : St → Hp → Prop} (h : PGs X es t) (q : t vs σ H Q) : WGs X es vs σ H Q := fun pins s us I r => h.run pins s σ H vs us Q I r q
def SGs (tb : List Addr) (X : Cx) (es : List Expr) (ix : List Nat) (ρ : En) (ds : List D) (ρ' : En) : Prop := ∀ pa B F σ H xs, Rel X.K tb pa B F σ H ρ → RpAll X.K F xs ds → ∀ Q : St → Hp → Prop, (∀ σ', Rel X.K tb pa B F σ' H ρ' → (∀ vs : List Nat, (∀ i ∈ ix, i ∈ vs) → wipe σ' vs = wipe σ vs) → Q σ' H) → WGs X es xs σ H Q
theorem sgs_nil : SGs tb X [] [] ρ [] ρ := fun pa B F σ H xs r rp Q q => by
  cases rp
  exact wgs_of pgs_nil ⟨rfl, q σ r fun vs _ => rfl⟩
theorem asg_cons {e : Expr} (h : noStar e = true) (es : List Expr) (env : Env) : assignEach (e :: es) env = (false, assign e env) :: assignEach es env := by
  cases e <;> first | rfl | cases h
theorem asg_plain : ∀ {es : List Expr} (env : Env), (∀ e ∈ es, noStar e = true) → (assignEach es env).length = es.length ∧ (assignEach es env).findIdx? (·.1) = none
  | [], _, _ => ⟨rfl, rfl⟩
  | e :: es, env, h => by
    rw [asg_cons (h e List.mem_cons_self)]
    obtain ⟨a, b⟩ := asg_plain env fun e' he => h e' (List.mem_cons_of_mem _ he)
    exact ⟨by rw [List.length_cons, List.length_cons, a], by rw [List.findIdx?_cons, b]; rfl⟩
theorem sgs_cons {ix jx : List Nat} (hn : noStar e = true) (h1 : SG tb X e ix ρ d ρ1) (h2 : SGs tb X es jx ρ1 ds ρ2) : SGs tb X (e :: es) (ix ++ jx) ρ (d :: ds) ρ2 := by
  intro pa B F σ H xs r rp Q q
  cases rp with
  | cons a rr =>
    refine wgs_of (pgs_cons (pg_wg X e) (pgs_wgs X es) (by rw [asg_cons hn]; rfl)) ⟨_, _, rfl, ?_⟩
    refine h1 pa B F σ H _ r a _ fun σ1 r1 w1 => ?_
    refine h2 pa B F σ1 H _ r1 rr _ fun σ2 r2 w2 => q σ2 r2 fun vs hv => ?_
    rw [w2 vs fun i hi => hv i (List.mem_append_right _ hi), w1 vs fun i hi => hv i (List.mem_append_left _ hi)]
theorem sg_tup (o : XOk T tb k s X) {j : Nat} {ix : List Nat} (hn : ∀ e ∈ es, noStar e = true) (h : SGs tb X es ix ρ ds ρ1) (hl : es.length = ds.length) : SG tb X (.Tuple es j pos) ix ρ (.tuple ds) ρ1 := by
  intro pa B F σ H y r rp Q q
  obtain ⟨h1, h2⟩ := asg_plain X.env hn
  cases rp with
  | tup a b =>
    refine wg_of (pg_tup o.calm (pgs_wgs X es) h1 h2) ⟨_, _, rfl, SqT.mono r.wf.fz a, by rw [RpAll.length b]; exact hl.symm, ?_⟩
    exact h pa B F σ H _ r b Q q

/-! ### what loops walk -/
theorem wk_list {K : PySem.W.Frag} {a : Addr} {xs : List V} (h : Rd F a (.lst xs)) (rp : RpAll K F xs ds) : Wk K F (Itl K a) ds := by
  have l := RpAll.length rp
  refine ⟨fun i H m hi => ⟨xs, xs[i]'(by omega), .inl (Rd.mono m h), List.getElem?_eq_getElem _⟩, fun i H m hi => ⟨xs, .inl (Rd.mono m h), by omega⟩, fun i H x H' d m hd hy => ?_⟩
  obtain ⟨rfl, q⟩ := hy
  obtain ⟨x', e1, e2⟩ := RpAll.get rp hd
  have := q xs (.inl (Rd.mono m h))
  rw [e1] at this; cases this
  exact .inl ⟨rfl, e2⟩
theorem wk_tup {K : PySem.W.Frag} {a : Addr} {xs : List V} (h : SqT K F a xs) (rp : RpAll K F xs ds) : Wk K F (Itt K a) ds := by
  have l := RpAll.length rp
  refine ⟨fun i H m hi => ⟨xs, xs[i]'(by omega), SqT.mono m h, List.getElem?_eq_getElem _⟩, fun i H m hi => ⟨xs, SqT.mono m h, by omega⟩, fun i H x H' d m hd hy => ?_⟩
  obtain ⟨rfl, q⟩ := hy
  obtain ⟨x', e1, e2⟩ := RpAll.get rp hd
  have := q xs (SqT.mono m h)
  rw [e1] at this; cases this
  exact .inl ⟨rfl, e2⟩
theorem wk_rng {K : PySem.W.Frag} (lo : Int) (n : Nat) : Wk K F (Itr lo n) (rngD lo n) := by
  have l : (rngD lo n).length = n := by unfold rngD; rw [List.length_map, List.length_range]
  refine ⟨fun i H m hi => (by rw [l] at hi; exact hi), fun i H m hi => (by rw [l] at hi; exact hi), fun i H x H' d m hd hy => ?_⟩
  obtain ⟨rfl, rfl⟩ := hy
  have hi : i < n := by
    have := (List.getElem?_eq_some_iff.mp hd).1
    rw [l] at this; exact this
  unfold rngD at hd
  rw [List.getElem?_map, List.getElem?_range hi] at hd
  cases hd
  exact .inl ⟨rfl, .int _⟩
theorem si_ex (ha : SE tb X a ρ op ρ1) (hk : keepOp ρ1 op = some (d, ρ2)) (hd : d = .list ds ∨ d = .tuple ds) : SI tb X tg a ρ ds ρ2 := by
  intro pa B F σ H r R q
  rcases hd with rfl | rfl
  · refine wi_of (pi_list (pe_we X a)) (ha pa B F σ H r _ fun x F' H' s' r' o' => ?_)
    obtain ⟨F2, s2, r2, dp⟩ := keep_ok r' o' hk
    cases dp with
    | lst h1 h2 => exact ⟨_, rfl, ⟨_, .inl (Rd.mono r2.wf.fz h1)⟩, q _ F2 H' (s'.trans s2) r2 (wk_list h1 h2)⟩
  · refine wi_of (pi_tup (pe_we X a)) (ha pa B F σ H r _ fun x F' H' s' r' o' => ?_)
    obtain ⟨F2, s2, r2, dp⟩ := keep_ok r' o' hk
    cases dp with
    | tup h1 h2 => exact ⟨_, rfl, ⟨_, SqT.mono r2.wf.fz h1⟩, q _ F2 H' (s'.trans s2) r2 (wk_tup h1 h2)⟩
theorem pa_one (hn : noStar a = true) : PA X [a] (fun σ H Q => WE X a σ H fun x H1 => Q [x] H1) := ⟨fun pos pins s σ H Q I h => (pa_cons (pe_we X a) pa_nil (noStar_eq hn _ _)).run pos pins s σ H Q I h⟩
theorem rngOk_iff {i : Int} (h : rngOk i = true) : -(2 ^ 62) ≤ i ∧ i < 2 ^ 62 := of_decide_eq_true h
theorem si_r1 (o : XOk T tb k s X) {j : Int} {P : Pos} (hg : glB s.sc "range" = true) (hn : noStar a = true) (ha : SE tb X a ρ op ρ1) (hd : viewOp ρ1 op = some (.int j)) (hj : rngOk j = true) : SI tb X tg (.Call (.Name "range" P) [a] [] pos) ρ (rngD 0 j.toNat) ρ1 := by
  intro pa B F σ H r R q
  obtain ⟨h1, h2⟩ := rngOk_iff hj
  refine wi_of (pi_range1 (glB_ok o hg) (o.blt _ (by decide)) (pa_cons (pe_we X a) pa_nil (noStar_eq hn _ _)) (noStar_eq hn [] X.env)) ?_
  refine ha.use r hd fun x F' H' s' r' v => ?_
  exact ⟨j, by rw [v.intE], h1, h2, q _ F' H' s' r' (wk_rng _ _)⟩
theorem si_r2 (o : XOk T tb k s X) {i j : Int} {P : Pos} (hg : glB s.sc "range" = true) (hn : noStar a = true) (hn2 : noStar b = true) (ha : SE tb X a ρ oa ρ1) (hb : SE tb X b ρ1 ob ρ2) (hd : viewOp ρ2 oa = some (.int i)) (hd2 : viewOp ρ2 ob = some (.int j)) (hi : rngOk i = true) (hj : rngOk j = true) :
    SI tb X tg (.Call (.Name "range" P) [a, b] [] pos) ρ (rngD i (j - i).toNat) ρ2 := by
  intro pa B F σ H r R q
  obtain ⟨h1, h2⟩ := rngOk_iff hi
  obtain ⟨h3, h4⟩ := rngOk_iff hj
  refine wi_of (pi_range2 (glB_ok o hg) (o.blt _ (by decide)) (pa_cons (pe_we X a) (pa_cons (pe_we X b) pa_nil (noStar_eq hn2 _ _)) (noStar_eq hn _ _)) ((noStar_eq hn [b] X.env).trans (by rw [noStar_eq hn2]; rfl)) (noStar_eq hn2 [] X.env)) ?_
  refine SE.two' ha hb r hd hd2 fun x y F' H' s1 r1 v1 v2 => ?_
  exact ⟨i, j, by rw [v1.intE, v2.intE], ⟨h1, h2, h3, h4⟩, q _ F' H' s1 r1 (wk_rng _ _)⟩
theorem wk_rngC {K : PySem.W.Frag} (lo c : Int) (n : Nat) : Wk K F (Itc lo c n) (rngC lo c n) := by
  have l : (rngC lo c n).length = n := by unfold rngC; rw [List.length_map, List.length_range]
  refine ⟨fun i H m hi => (by rw [l] at hi; exact hi), fun i H m hi => (by rw [l] at hi; exact hi), fun i H x H' d m hd hy => ?_⟩
  obtain ⟨rfl, rfl⟩ := hy
  have hi : i < n := by
    have := (List.getElem?_eq_some_iff.mp hd).1
    rw [l] at this; exact this
  unfold rngC at hd
  rw [List.getElem?_map, List.getElem?_range hi] at hd
  cases hd
  exact .inl ⟨rfl, .int _⟩
theorem VwAll.three {K : PySem.W.Frag} {F H : Hp} {xs : List V} {d e f : D} (h : VwAll K F H xs [d, e, f]) : ∃ x y z, xs = [x, y, z] ∧ Vw K F H x d ∧ Vw K F H y e ∧ Vw K F H z f := by
  cases h with
  | cons a r =>
    cases r with
    | cons b r =>
      cases r with
      | cons c r => cases r; exact ⟨_, _, _, rfl, a, b, c⟩
theorem si_r3 (o : XOk T tb k s X) {i j : Int} {P : Pos} (hg : glB s.sc "range" = true) (hn : ∀ e' ∈ [a, b, c], noStar e' = true) (ha : SA tb X [a, b, c] ρ ops ρ1) (hd : viewL ρ1 ops = some [.int i, .int j, .int (-1)]) (hi : rngOk i = true) (hj : rngOk j = true) :
    SI tb X tg (.Call (.Name "range" P) [a, b, c] [] pos) ρ (rngC i (-1) (i - j).toNat) ρ1 := by
  intro pa B F σ H r R q
  obtain ⟨h1, h2⟩ := rngOk_iff hi
  obtain ⟨h3, h4⟩ := rngOk_iff hj
  refine wi_of (pi_range3 (glB_ok o hg) (o.blt _ (by decide)) (pa_wa X [a, b, c]) (noStar_eq (hn a List.mem_cons_self) _ _) (noStar_any _ _ fun e' he => hn e' (List.mem_cons_of_mem _ he))) ?_
  refine ha pa B F σ H r _ fun xs F' H' s' r' os => ?_
  obtain ⟨x, y, z, rfl, v1, v2, v3⟩ := (viewL_ok r' os hd).three
  exact ⟨i, j, -1, _, by rw [v1.intE, v2.intE, v3.intE], RgC.neg h1 h2 h3 h4, q _ F' H' s' r' (wk_rngC _ _ _)⟩
theorem enumD_get {ds : List D} {i : Nat} {d : D} (h : (enumD ds)[i]? = some d) : ∃ d', ds[i]? = some d' ∧ d = .tuple [.int (i : Nat), d'] := by
  unfold enumD at h
  rw [List.getElem?_zipWith] at h
  split at h
  · rename_i x y hx hy
    cases h
    have hi := (List.getElem?_eq_some_iff.mp hx).1
    rw [List.length_range] at hi
    rw [List.getElem?_range hi] at hx
    cases hx
    exact ⟨y, hy, rfl⟩
  · cases h
theorem enumD_len (ds : List D) : (enumD ds).length = ds.length := by unfold enumD; rw [List.length_zipWith, List.length_range, Nat.min_self]
theorem wk_enum {K : PySem.W.Frag} {a : Addr} {xs : List V} (h : Rd F a (.lst xs)) (rp : RpAll K F xs ds) : Wk K F (Ite K a) (enumD ds) := by
  have l := RpAll.length rp
  have l2 := enumD_len ds
  refine ⟨fun i H m hi => ⟨xs, xs[i]'(by omega), .inl (Rd.mono m h), List.getElem?_eq_getElem _⟩, fun i H m hi => ⟨xs, .inl (Rd.mono m h), by omega⟩, fun i H x H' d m hd hy => ?_⟩
  obtain ⟨T, y, rfl, hT, rfl, q⟩ := hy
  obtain ⟨d', e1, rfl⟩ := enumD_get hd
  obtain ⟨x', e2, e3⟩ := RpAll.get rp e1
  have := q xs (.inl (Rd.mono m h))
  rw [e2] at this; cases this
  exact .inr ⟨T, _, _, rfl, hT, rfl, rfl, .cons (.int _) (.cons e3 .nil)⟩
theorem zipD_get {xs ys : List D} {i : Nat} {d : D} (h : (zipD xs ys)[i]? = some d) : ∃ x y, xs[i]? = some x ∧ ys[i]? = some y ∧ d = .tuple [x, y] := by
  unfold zipD at h
  rw [List.getElem?_zipWith] at h
  split at h
  · rename_i x y hx hy
    cases h
    exact ⟨x, y, hx, hy, rfl⟩
  · cases h
theorem zipD_len (xs ys : List D) : (zipD xs ys).length = min xs.length ys.length := by unfold zipD; rw [List.length_zipWith]
theorem wk_zip {K : PySem.W.Frag} {a b : Addr} {xs ys : List V} {ds es : List D} (h : Rd F a (.lst xs)) (rp : RpAll K F xs ds) (h2 : Rd F b (.lst ys)) (rp2 : RpAll K F ys es) : Wk K F (Itz K a b) (zipD ds es) := by
  have l := RpAll.length rp
  have l' := RpAll.length rp2
  have l2 := zipD_len ds es
  refine ⟨fun i H m hi => ⟨xs, ys, xs[i]'(by omega), ys[i]'(by omega), .inl (Rd.mono m h), .inl (Rd.mono m h2), List.getElem?_eq_getElem _, List.getElem?_eq_getElem _⟩, fun i H m hi => ⟨xs, ys, .inl (Rd.mono m h), .inl (Rd.mono m h2), by omega⟩, fun i H x H' d m hd hy => ?_⟩
  obtain ⟨T, y, z, rfl, hT, rfl, q, q2⟩ := hy
  obtain ⟨d1, d2, e1, e2, rfl⟩ := zipD_get hd
  obtain ⟨x1, e3, e4⟩ := RpAll.get rp e1
  obtain ⟨x2, e5, e6⟩ := RpAll.get rp2 e2
  have := q xs (.inl (Rd.mono m h))
  rw [e3] at this; cases this
  have := q2 ys (.inl (Rd.mono m h2))
  rw [e5] at this; cases this
  exact .inr ⟨T, _, _, rfl, hT, rfl, rfl, .cons e4 (.cons e6 .nil)⟩
theorem wk_zipT {K : PySem.W.Frag} {a b : Addr} {xs ys : List V} {ds es : List D} (h : SqT K F a xs) (rp : RpAll K F xs ds) (h2 : SqT K F b ys) (rp2 : RpAll K F ys es) : Wk K F (RZ.ItzT K a b) (zipD ds es) := by
  have l := RpAll.length rp
  have l' := RpAll.length rp2
  have l2 := zipD_len ds es
  refine ⟨fun i H m hi => ⟨xs, ys, xs[i]'(by omega), ys[i]'(by omega), SqT.mono m h, SqT.mono m h2, List.getElem?_eq_getElem _, List.getElem?_eq_getElem _⟩, fun i H m hi => ⟨xs, ys, SqT.mono m h, SqT.mono m h2, by omega⟩, fun i H x H' d m hd hy => ?_⟩
  obtain ⟨T, y, z, rfl, hT, rfl, q, q2⟩ := hy
  obtain ⟨d1, d2, e1, e2, rfl⟩ := zipD_get hd
  obtain ⟨x1, e3, e4⟩ := RpAll.get rp e1
  obtain ⟨x2, e5, e6⟩ := RpAll.get rp2 e2
  have := q xs (SqT.mono m h)
  rw [e3] at this; cases this
  have := q2 ys (SqT.mono m h2)
  rw [e5] at this; cases this
  exact .inr ⟨T, _, _, rfl, hT, rfl, rfl, .cons e4 (.cons e6 .nil)⟩
theorem si_en (o : XOk T tb k s X) {P tpos : Pos} {elts : List Expr} {kk : Nat} (hg : glB s.sc "enumerate" = true) (hn : noStar a = true) (ha : SE tb X a ρ op ρ1) (hk : keepOp ρ1 op = some (.list ds, ρ2)) : SI tb X (.Tuple elts kk tpos) (.Call (.Name "enumerate" P) [a] [] pos) ρ (enumD ds) ρ2 := by
  intro pa B F σ H r R q
  refine wi_of (pi_enum (glB_ok o hg) (o.blt _ (by decide)) (pa_cons (pe_we X a) pa_nil (noStar_eq hn _ _)) (noStar_eq hn [] X.env)) ?_
  refine ha pa B F σ H r _ fun x F' H' s' r' o' => ?_
  obtain ⟨F2, s2, r2, dp⟩ := keep_ok r' o' hk
  cases dp with
  | lst h1 h2 => exact ⟨_, _, rfl, .inl (Rd.mono r2.wf.fz h1), q _ F2 H' (s'.trans s2) r2 (wk_enum h1 h2)⟩
theorem si_zp (o : XOk T tb k s X) {P tpos : Pos} {elts : List Expr} {kk : Nat} {xs ys : List D} {da db : D} (hg : glB s.sc "zip" = true) (hn : noStar a = true) (hn2 : noStar b = true) (ha : SE tb X a ρ oa ρ1) (hb : SE tb X b ρ1 ob ρ2) (hk : keepL ρ2 [oa, ob] = some ([da, db], ρ3))
    (hd : (da = .list xs ∧ db = .list ys) ∨ (da = .tuple xs ∧ db = .tuple ys)) : SI tb X (.Tuple elts kk tpos) (.Call (.Name "zip" P) [a, b] [] pos) ρ (zipD xs ys) ρ3 := by
  intro pa B F σ H r R q
  refine wi_of (RZ.pi_zipA (glB_ok o hg) (o.blt _ (by decide)) (pa_wa X [a, b]) (noStar_eq hn _ _) (noStar_any _ _ fun e' he => by
    rcases List.mem_cons.mp he with rfl | he
    · exact hn2
    · cases he)) ?_
  refine sa_cons hn ha (sa_cons hn2 hb sa_nil) pa B F σ H r _ fun zs F' H' s' r' os => ?_
  obtain ⟨F2, s2, r2, dp⟩ := keepL_ok r' os hk
  cases dp with
  | cons d1 dp =>
    cases dp with
    | cons d2 dp =>
      cases dp
      rcases hd with ⟨rfl, rfl⟩ | ⟨rfl, rfl⟩
      · cases d1 with
        | lst h1 h2 =>
          cases d2 with
          | lst h3 h4 => exact ⟨_, _, _, _, rfl, .inl ⟨.inl (Rd.mono r2.wf.fz h1), .inl (Rd.mono r2.wf.fz h3), q _ F2 H' (s'.trans s2) r2 (wk_zip h1 h2 h3 h4)⟩⟩
      · cases d1 with
        | tup h1 h2 =>
          cases d2 with
          | tup h3 h4 => exact ⟨_, _, _, _, rfl, .inr ⟨SqT.mono r2.wf.fz h1, SqT.mono r2.wf.fz h3, q _ F2 H' (s'.trans s2) r2 (wk_zipT h1 h2 h3 h4)⟩⟩
theorem zipD3_get {xs ys zs : List D} {i : Nat} {d : D} (h : (zipD3 xs ys zs)[i]? = some d) : ∃ x y z, xs[i]? = some x ∧ ys[i]? = some y ∧ zs[i]? = some z ∧ d = .tuple [x, y, z] := by
  unfold zipD3 at h
  rw [List.getElem?_zipWith] at h
  split at h
  · rename_i x p hx hp
    cases h
    obtain ⟨hy, hz⟩ := List.getElem?_zip_eq_some.mp hp
    exact ⟨x, p.1, p.2, hx, hy, hz, rfl⟩
  · cases h
theorem zipD3_len (xs ys zs : List D) : (zipD3 xs ys zs).length = min xs.length (min ys.length zs.length) := by unfold zipD3; rw [List.length_zipWith, List.length_zip]
theorem wk_zip3 {K : PySem.W.Frag} {a b c : Addr} {xs ys zs : List V} {ds es fs : List D} (h : SqT K F a xs) (rp : RpAll K F xs ds) (h2 : SqT K F b ys) (rp2 : RpAll K F ys es) (h3 : SqT K F c zs) (rp3 : RpAll K F zs fs) : Wk K F (Z3.Itz3 K a b c) (zipD3 ds es fs) := by
  have l := RpAll.length rp
  have l' := RpAll.length rp2
  have l'' := RpAll.length rp3
  have l2 := zipD3_len ds es fs
  refine ⟨fun i H m hi => ⟨xs, ys, zs, xs[i]'(by omega), ys[i]'(by omega), zs[i]'(by omega), SqT.mono m h, SqT.mono m h2, SqT.mono m h3, List.getElem?_eq_getElem _, List.getElem?_eq_getElem _, List.getElem?_eq_getElem _⟩, fun i H m hi => ⟨xs, ys, zs, SqT.mono m h, SqT.mono m h2, SqT.mono m h3, by omega⟩, fun i H x H' d m hd hy => ?_⟩
  obtain ⟨T, y, z, u, rfl, hT, rfl, q, q2, q3⟩ := hy
  obtain ⟨d1, d2, d3, e1, e2, e9, rfl⟩ := zipD3_get hd
  obtain ⟨x1, e3, e4⟩ := RpAll.get rp e1
  obtain ⟨x2, e5, e6⟩ := RpAll.get rp2 e2
  obtain ⟨x3, e7, e8⟩ := RpAll.get rp3 e9
  have := q xs (SqT.mono m h)
  rw [e3] at this; cases this
  have := q2 ys (SqT.mono m h2)
  rw [e5] at this; cases this
  have := q3 zs (SqT.mono m h3)
  rw [e7] at this; cases this
  exact .inr ⟨T, _, _, rfl, hT, rfl, rfl, .cons e4 (.cons e6 (.cons e8 .nil))⟩
theorem wk_enumT {K : PySem.W.Frag} {a : Addr} {xs : List V} (h : SqT K F a xs) (rp : RpAll K F xs ds) : Wk K F (Z3.IteT K a) (enumD ds) := by
  have l := RpAll.length rp
  have l2 := enumD_len ds
  refine ⟨fun i H m hi => ⟨xs, xs[i]'(by omega), SqT.mono m h, List.getElem?_eq_getElem _⟩, fun i H m hi => ⟨xs, SqT.mono m h, by omega⟩, fun i H x H' d m hd hy => ?_⟩
  obtain ⟨T, y, rfl, hT, rfl, q⟩ := hy
  obtain ⟨d', e1, rfl⟩ := enumD_get hd
  obtain ⟨x', e2, e3⟩ := RpAll.get rp e1
  have := q xs (SqT.mono m h)
  rw [e2] at this; cases this
  exact .inr ⟨T, _, _, rfl, hT, rfl, rfl, .cons (.int _) (.cons e3 .nil)⟩
theorem si_enT (o : XOk T tb k s X) {P tpos : Pos} {elts : List Expr} {kk : Nat} (hg : glB s.sc "enumerate" = true) (hn : noStar a = true) (ha : SE tb X a ρ op ρ1) (hk : keepOp ρ1 op = some (.tuple ds, ρ2)) : SI tb X (.Tuple elts kk tpos) (.Call (.Name "enumerate" P) [a] [] pos) ρ (enumD ds) ρ2 := by
  intro pa B F σ H r R q
  refine wi_of (Z3.pi_enT (glB_ok o hg) (o.blt _ (by decide)) (pa_cons (pe_we X a) pa_nil (noStar_eq hn _ _)) (noStar_eq hn [] X.env)) ?_
  refine ha pa B F σ H r _ fun x F' H' s' r' o' => ?_
  obtain ⟨F2, s2, r2, dp⟩ := keep_ok r' o' hk
  cases dp with
  | tup h1 h2 => exact ⟨_, _, rfl, SqT.mono r2.wf.fz h1, q _ F2 H' (s'.trans s2) r2 (wk_enumT h1 h2)⟩
theorem si_zp3 (o : XOk T tb k s X) {P tpos : Pos} {elts : List Expr} {kk : Nat} {xs ys zs : List D} (hg : glB s.sc "zip" = true) (hn : ∀ e' ∈ [a, b, c], noStar e' = true) (ha : SA tb X [a, b, c] ρ ops ρ1) (hk : keepL ρ1 ops = some ([.tuple xs, .tuple ys, .tuple zs], ρ2)) : SI tb X (.Tuple elts kk tpos) (.Call (.Name "zip" P) [a, b, c] [] pos) ρ (zipD3 xs ys zs) ρ2 := by
  intro pa B F σ H r R q
  refine wi_of (Z3.pi_zip3 (glB_ok o hg) (o.blt _ (by decide)) (pa_wa X [a, b, c]) (noStar_eq (hn a List.mem_cons_self) _ _) (noStar_any _ _ fun e' he => hn e' (List.mem_cons_of_mem _ he))) ?_
  refine ha pa B F σ H r _ fun vs F' H' s' r' os => ?_
  obtain ⟨F2, s2, r2, dp⟩ := keepL_ok r' os hk
  cases dp with
  | cons d1 dp =>
    cases dp with
    | cons d2 dp =>
      cases dp with
      | cons d3 dp =>
        cases dp
        cases d1 with
        | tup h1 h2 =>
          cases d2 with
          | tup h3 h4 =>
            cases d3 with
            | tup h5 h6 => exact ⟨_, _, _, _, _, _, rfl, SqT.mono r2.wf.fz h1, SqT.mono r2.wf.fz h3, SqT.mono r2.wf.fz h5, q _ F2 H' (s'.trans s2) r2 (wk_zip3 h1 h2 h3 h4 h5 h6)⟩
theorem si_zps (o : XOk T tb k s X) {P sp tpos : Pos} {elts : List Expr} {kk : Nat} {xs ys zs : List D} (hg : glB s.sc "zip" = true) (ha : SE tb X a ρ op ρ1) (hk : keepOp ρ1 op = some (.tuple [.tuple xs, .tuple ys, .tuple zs], ρ2)) : SI tb X (.Tuple elts kk tpos) (.Call (.Name "zip" P) [.Starred a sp] [] pos) ρ (zipD3 xs ys zs) ρ2 := by
  intro pa B F σ H r R q
  refine wi_of (Z3.pi_zipS (glB_ok o hg) (o.blt _ (by decide)) (pe_we X a)) ?_
  refine ha pa B F σ H r _ fun x F' H' s' r' o' => ?_
  obtain ⟨F2, s2, r2, dp⟩ := keep_ok r' o' hk
  cases dp with
  | tup h0 dp =>
    cases dp with
    | cons d1 dp =>
      cases dp with
      | cons d2 dp =>
        cases dp with
        | cons d3 dp =>
          cases dp
          cases d1 with
          | tup h1 h2 =>
            cases d2 with
            | tup h3 h4 =>
              cases d3 with
              | tup h5 h6 => exact ⟨_, _, _, _, _, _, _, rfl, SqT.mono r2.wf.fz h0, SqT.mono r2.wf.fz h1, SqT.mono r2.wf.fz h3, SqT.mono r2.wf.fz h5, q _ F2 H' (s'.trans s2) r2 (wk_zip3 h1 h2 h3 h4 h5 h6)⟩
theorem wk_zip2 {K : PySem.W.Frag} {a b : Addr} {xs ys : List V} {ds es : List D} (h : SqT K F a xs) (rp : RpAll K F xs ds) (h2 : Rd F b (.lst ys)) (rp2 : RpAll K F ys es) : Wk K F (Z2.Itz2 K a b) (zipD ds es) := by
  have l := RpAll.length rp
  have l' := RpAll.length rp2
  have l2 := zipD_len ds es
  refine ⟨fun i H m hi => ⟨xs, ys, xs[i]'(by omega), ys[i]'(by omega), SqT.mono m h, .inl (Rd.mono m h2), List.getElem?_eq_getElem _, List.getElem?_eq_getElem _⟩, fun i H m hi => ⟨xs, ys, SqT.mono m h, .inl (Rd.mono m h2), by omega⟩, fun i H x H' d m hd hy => ?_⟩
  obtain ⟨T, y, z, rfl, hT, rfl, q, q2⟩ := hy
  obtain ⟨d1, d2, e1, e2, rfl⟩ := zipD_get hd
  obtain ⟨x1, e3, e4⟩ := RpAll.get rp e1
  obtain ⟨x2, e5, e6⟩ := RpAll.get rp2 e2
  have := q xs (SqT.mono m h)
  rw [e3] at this; cases this
  have := q2 ys (.inl (Rd.mono m h2))
  rw [e5] at this; cases this
  exact .inr ⟨T, _, _, rfl, hT, rfl, rfl, .cons e4 (.cons e6 .nil)⟩
theorem si_zp2 (o : XOk T tb k s X) {P tpos : Pos} {elts : List Expr} {kk : Nat} {xs ys : List D} (hg : glB s.sc "zip" = true) (hn : noStar a = true) (hn2 : noStar b = true) (ha : SE tb X a ρ oa ρ1) (hb : SE tb X b ρ1 ob ρ2) (hk : keepL ρ2 [oa, ob] = some ([.tuple xs, .list ys], ρ3)) :
    SI tb X (.Tuple elts kk tpos) (.Call (.Name "zip" P) [a, b] [] pos) ρ (zipD xs ys) ρ3 := by
  intro pa B F σ H r R q
  refine wi_of (Z2.pi_zip2 (glB_ok o hg) (o.blt _ (by decide)) (pa_wa X [a, b]) (noStar_eq hn _ _) (noStar_any _ _ fun e' he => by
    rcases List.mem_cons.mp he with rfl | he
    · exact hn2
    · cases he)) ?_
  refine sa_cons hn ha (sa_cons hn2 hb sa_nil) pa B F σ H r _ fun zs F' H' s' r' os => ?_
  obtain ⟨F2, s2, r2, dp⟩ := keepL_ok r' os hk
  cases dp with
  | cons d1 dp =>
    cases dp with
    | cons d2 dp =>
      cases dp
      cases d1 with
      | tup h1 h2 =>
        cases d2 with
        | lst h3 h4 => exact ⟨_, _, _, _, rfl, SqT.mono r2.wf.fz h1, .inl (Rd.mono r2.wf.fz h3), q _ F2 H' (s'.trans s2) r2 (wk_zip2 h1 h2 h3 h4)⟩
/-! ### a comprehension over a list that goes on being changed -/
theorem smp_ok {j : Nat} : ∀ (ir : IE) {ρ ρ' : En} {op : Op}, smp j ir = true → evE T ρ ir = some (op, ρ') → ρ' = ρ
  | .var i, ρ, ρ', op, hs, h => by
    simp only [evE] at h
    split at h
    · cases h
    · cases h; rfl
    · cases h
  | .cst c, ρ, ρ', op, hs, h => by
    simp only [evE, Option.map_eq_some_iff] at h
    obtain ⟨d, _, e⟩ := h
    cases e; rfl
  | .bin f a b, ρ, ρ', op, hs, h => by
    simp only [smp, Bool.and_eq_true] at hs
    simp only [evE, Option.bind_eq_some_iff, Option.map_eq_some_iff] at h
    obtain ⟨⟨o1, ρ1⟩, h1, ⟨o2, ρ2⟩, h2, d1, _, d2, _, r, _, e⟩ := h
    have e1 := smp_ok a hs.1 h1
    subst e1
    have e2 := smp_ok b hs.2 h2
    subst e2
    cases e; rfl
  | .idx a b, ρ, ρ', op, hs, h => by
    simp only [smp, Bool.and_eq_true] at hs
    simp only [evE, Option.bind_eq_some_iff, Option.map_eq_some_iff] at h
    obtain ⟨⟨o1, ρ1⟩, h1, ⟨o2, ρ2⟩, h2, d1, _, d2, _, r, _, e⟩ := h
    have e1 := smp_ok a hs.1 h1
    subst e1
    have e2 := smp_ok b hs.2 h2
    subst e2
    cases e; rfl
theorem lcO_ok (o : XOk T tb k s X) {elt tg : Expr} {x : Str} {xp : Pos} {scope : Scope} {own : List (Str × Nat)} {ix : List Nat} {i0 : Nat} {f : D → En → Option (Option D × En)} {out : List D} {ρn : En}
    (hN : s.N[i0]? = some x) (hvv : visB s.sc x = true) (hkk : okN x = true) (hin : i0 ∉ own.map (·.2)) (hs0 : ρ[i0]? = some (.o false ds)) (hix : ∀ i ∈ ix, i ∈ own.map (·.2))
    (hb : ∀ x ρa q, f x ρa = some q → ∃ ρ2 ρ4 d, (∀ s H C cl fp, SG tb (X.blk s H scope (compEnvC scope cl C X.env) fp) tg ix (wipeE ρa (own.map (·.2))) x ρ2) ∧ (∀ s H C cl fp, STs tb (X.blk s H scope (compEnvC scope cl C X.env) fp) [] ρ2 true ρ2) ∧
      (∀ s H C cl fp, SE tb (X.blk s H scope (compEnvC scope cl C X.env) fp) elt ρ2 (.val d) ρ4) ∧ q = (some d, ρ4))
    (hpr : ∀ x ρa q, f x ρa = some q → q.2[i0]? = ρa[i0]?)
    (h : evComp f ds [] ρ = some (out, ρn)) (hl : lenOk out.length = true) :
    SLc tb X elt tg (.Name x xp) [] scope (own.map (·.2)) ρ out (backE ρ ρn (own.map (·.2))) := by
  obtain ⟨vs, hvs⟩ : ∃ vs, vs = own.map (·.2) := ⟨_, rfl⟩
  rw [← hvs] at hb hix hin
  intro pa B F σ H r Q q
  rw [← hvs] at q ⊢
  refine wi_of (pi_list (pe_we X _)) (se_var o hN hvv hkk hs0 (fun z => by cases z) pa B F σ H r _ fun v F1 H1 s1 r1 ov => ?_)
  obtain ⟨a, xs0, ha, _, hH1, _, _, rp1⟩ := r1.sl i0 _ hs0
  have hv : v = .ref a := by
    have : σ[i0]? = some (some v) := ov
    rw [ha] at this
    exact (Option.some.inj (Option.some.inj this)).symm
  refine ⟨a, hv, ⟨_, .inl (.inl hH1)⟩, fun D hD => ?_⟩
  obtain ⟨hF1, hB⟩ := r1.wf.none hD
  have at0 : ∀ {F2 H2 : Hp} {ρa : En}, Rel X.K tb pa B F2 (wipe σ vs) H2 (wipeE ρa vs) → ρa[i0]? = some (.o false ds) → ∃ xs, SqL X.K H2 a xs ∧ RpAll X.K F2 xs ds := fun {F2 H2 ρa} r2 hρ => by
    obtain ⟨p, xs, hp, _, hH, _, _, rp⟩ := r2.sl i0 _ (by rw [wipeE_out hin]; exact hρ)
    rw [wipe_out hin, ha] at hp
    cases hp
    exact ⟨xs, .inl (.inl hH), rp⟩
  refine ⟨fun i m H => m = ds.length - i ∧ ∃ F ρa accV accD, Sm F1 F ∧ H D = some (.lst accV) ∧ F D = none ∧ RpAll X.K F accV accD ∧ Rel X.K tb pa B F (wipe σ vs) H (wipeE ρa vs) ∧ Off (wipe σ vs) (wipeE ρa vs) D ∧ ρa[i0]? = some (.o false ds) ∧ evComp f (ds.drop i) accD ρa = some (out, ρn), ⟨_, rfl, F1, ρ, [], [], Sm.refl _, upd_same, hF1, .nil, (r1.laid hD _).wipe vs, (r1.wipe vs).off_none hD, hs0, h⟩, ?_⟩
  rintro i m H2 ⟨rfl, F2, ρa, accV, accD, s2, hD2, hF2, dp, r2, off, hρa, ev⟩
  obtain ⟨xs, hq0, rp⟩ := at0 r2 hρa
  have hlx := RpAll.length rp
  by_cases hi2 : i < ds.length
  · refine .inr ⟨⟨xs, xs[i]'(by omega), hq0, List.getElem?_eq_getElem _⟩, fun H' => ∃ F ρa accV accD, Sm F1 F ∧ H' D = some (.lst accV) ∧ F D = none ∧ RpAll X.K F accV accD ∧ Rel X.K tb pa B F (wipe σ vs) H' (wipeE ρa vs) ∧ Off (wipe σ vs) (wipeE ρa vs) D ∧ ρa[i0]? = some (.o false ds) ∧ evComp f (ds.drop (i + 1)) accD ρa = some (out, ρn), fun H' z => ⟨ds.length - (i + 1), by omega, rfl, z⟩, fun x H3 hy => ?_⟩
    have hd : ds[i]? = some ds[i] := List.getElem?_eq_getElem hi2
    rw [List.drop_eq_getElem_cons hi2] at ev
    simp only [evComp] at ev
    have r2' := r2.more hD2 (fun ps z => by cases z) hF2 off
    obtain ⟨F3, s3, sH3, r3, dx⟩ := Yld.ok (tb := tb) (F := F2) (H := H2) (x := x) (d := ds[i]) (by
      obtain ⟨rfl, qy⟩ := hy
      obtain ⟨x', e1, e2⟩ := RpAll.get rp hd
      have := qy xs hq0
      rw [e1] at this; cases this
      exact .inl ⟨rfl, e2⟩) r2'
    cases hq : f ds[i] ρa with
    | none => rw [hq] at ev; cases ev
    | some qq =>
      rw [hq] at ev
      obtain ⟨ρ2, ρ4, d, h1, h2, h3, rfl⟩ := hb _ _ _ hq
      have hρ4 : ρ4[i0]? = some (.o false ds) := (hpr _ _ _ hq).trans hρa
      intro s0 H0 C cl fp
      refine h1 s0 H0 C cl fp pa _ F3 _ H3 x r3 dx _ fun σ2 r4 hw => ?_
      have hw : wipe σ2 vs = wipe σ vs := by
        rw [hw vs hix]
        have : ∀ us : List Nat, (∀ i ∈ us, i ∈ vs) → wipe (wipe σ us) vs = wipe σ vs := by
          intro us hu
          induction us with
          | nil => rfl
          | cons u us ih =>
            show wipe ((wipe σ us).set u none) vs = _
            rw [wipe_set (hu u List.mem_cons_self)]
            exact ih fun i hi => hu i (List.mem_cons_of_mem _ hi)
        exact this vs fun i hi => hi
      refine ⟨hw, fun s0 H0 C cl fp => ?_⟩
      refine h2 s0 H0 C cl fp pa _ F3 σ2 H3 r4 _ fun F4 H4 s4 r5 => ?_
      rw [if_pos rfl]
      intro s0 H0 C cl fp
      refine h3 s0 H0 C cl fp pa _ F4 σ2 H4 r5 _ fun y F5 H5 s5 r6 oy => ?_
      obtain ⟨F6, s6, r7, dy⟩ := keep_ok (d := d) (ρ' := ρ4) r6 oy rfl
      have r8 := r7.wipe vs
      rw [hw] at r8
      obtain ⟨z1, z2⟩ := r8.wf.bg D _ upd_same
      have hlen := evComp_len ev
      rw [List.length_append] at hlen
      simp only [List.length_cons, List.length_nil] at hlen
      have hl' : out.length ≤ sizeLine := of_decide_eq_true hl
      have hacc := RpAll.length dp
      have sA : Sm F2 F6 := ((s3.trans s4).trans s5).trans s6
      have z3 := r8.less (Sm.upd hB)
      have z4 := r8.off_bg upd_same
      refine ⟨accV, z1, by omega, F6, ρ4, accV ++ [y], accD ++ [d], s2.trans sA, upd_same, z2, RpAll.append (RpAll.mono sA dp) (.cons dy .nil), z3.writeFree z1 z2 hB z4, z4, hρ4, ev⟩
  · have hdr : ds.drop i = [] := List.drop_eq_nil_of_le (by omega)
    rw [hdr] at ev
    cases ev
    refine .inl ⟨⟨xs, hq0, by omega⟩, ?_⟩
    have r3 := Rel.back r1 s2 r2
    refine q (.ref D) F2 H2 (s1.trans s2) r3 ⟨D, accV, rfl, hD2, hF2, hB, fun j s hs os z => ?_, dp⟩
    by_cases hj : j ∈ vs
    · rcases backE_in hj hs with rfl | ⟨d, _, rfl⟩ <;> cases os
    · rw [backE_out hj] at hs
      exact off j s (by rw [wipeE_out hj]; exact hs) os (by rw [wipe_out hj]; exact z)
end
end Ev

set_option maxHeartbeats 2000000
/-! slices taken backward: xs[lo:hi:-1] -/
namespace Ev
open PySem PySem.Spec PyProof.Rows L2
theorem revIx_len (n : Nat) (lo hi : Option Int) : (revIx n lo hi).length ≤ n := by
  have h := slicePick_size_le (Array.replicate n Value.none) lo hi (some (-1))
  have e : ∀ l : List Nat, (∀ j ∈ l, j < n) → (l.filterMap ((Array.replicate n Value.none)[·]?)).length = l.length := by
    intro l
    induction l with
    | nil => intro _; rfl
    | cons a l ih =>
      intro h
      have h1 := h a List.mem_cons_self
      have h2 := ih fun j hj => h j (List.mem_cons_of_mem _ hj)
      rw [List.filterMap_cons]
      have : (Array.replicate n Value.none)[a]? = some Value.none := by simp [h1]
      rw [this]
      simp only [List.length_cons]
      omega
  unfold revIx
  refine sliceRange_length_le _ _ _ n (fun h => absurd h ?_) fun _ => ⟨?_, ?_⟩
  · show ¬ ((-1 : Int) > 0); decide
  · show (sliceBounds lo hi (some (-1)) n).1 ≤ (n : Int) - 1
    cases lo with
    | none => simp [sliceBounds]
    | some v => simp [sliceBounds]; omega
  · show -1 ≤ (sliceBounds lo hi (some (-1)) n).2.1
    cases hi with
    | none => simp [sliceBounds]
    | some v => simp [sliceBounds]; omega
theorem pick_len {α : Type} (xs : List α) : ∀ l : List Nat, (l.filterMap (xs[·]?)).length ≤ l.length := fun l => List.length_filterMap_le _ _
theorem pick_vals {xs : List V} {us : List Value} (r : Vals xs us) : ∀ l : List Nat, Vals (l.filterMap (xs[·]?)) (l.filterMap (us[·]?))
  | [] => .nil
  | j :: l => by
    have ih := pick_vals r l
    rw [List.filterMap_cons, List.filterMap_cons]
    have hl := r.length
    cases q : xs[j]? with
    | none =>
      have : us[j]? = none := by
        rw [List.getElem?_eq_none_iff] at q ⊢
        omega
      rw [this]; exact ih
    | some x =>
      obtain ⟨u, h1, h2⟩ := Vals.get r q
      rw [h1]; exact .cons h2 ih
theorem pick_rp {K : PySem.W.Frag} {F : Hp} {xs : List V} {ds : List D} (r : RpAll K F xs ds) : ∀ l : List Nat, RpAll K F (l.filterMap (xs[·]?)) (l.filterMap (ds[·]?))
  | [] => .nil
  | j :: l => by
    have ih := pick_rp r l
    rw [List.filterMap_cons, List.filterMap_cons]
    have hl := RpAll.length r
    cases q : ds[j]? with
    | none =>
      have : xs[j]? = none := by
        rw [List.getElem?_eq_none_iff] at q ⊢
        omega
      rw [this]; exact ih
    | some d =>
      obtain ⟨x, h1, h2⟩ := RpAll.get r q
      rw [h1]; exact .cons h2 ih
theorem rev_rp {K : PySem.W.Frag} {F : Hp} {xs : List V} {ds : List D} {lo hi : Option Int} (r : RpAll K F xs ds) : RpAll K F (revL xs lo hi) (revL ds lo hi) := by
  unfold revL; rw [RpAll.length r]; exact pick_rp r _
theorem revL_len {α : Type} (xs : List α) (lo hi : Option Int) : (revL xs lo hi).length ≤ xs.length := Nat.le_trans (pick_len xs _) (revIx_len _ _ _)
/-- a backward slice by values -/
def SlB (X : Cx) (r : V → Option Int → Option Int → Hp → VK → Prop) : Prop :=
  ∀ (pins : List (Addr × Obj)) (s : Shared) (σ : St) (H : Hp) (x : V) (v vl vu : Value) (lo hi : Option Int) (sl : Addr) (t : Tok) (Q : VK), Inv X pins σ H s → RelV x v → s.heap.IsSliceOf sl vl vu (.int (-1) t) → IsPart vl lo → IsPart vu hi → r x lo hi H Q →
    ∃ T id, typeLookup (.type T) "__getitem__" = pure (some (.builtin id)) ∧ s.TypeIs v T ∧ wpAny (model X.prog X.w) X.A (getItem v (.ref sl)) (EP X pins σ Q) X.xe s
def tSb (r : V → Option Int → Option Int → Hp → VK → Prop) (te : TE) (tl th ts : TO) : TE := fun σ H Q => te σ H fun x H1 => tl σ H1 fun l H2 => th σ H2 fun u H3 => ts σ H3 fun w H4 => w = some (-1) ∧ r x l u H4 Q
section
variable {X : Cx} {e st : Expr} {te : TE} {lo hi : Option Expr} {tl th ts : TO} {pos p2 : Pos}
theorem pe_sliceB {r : V → Option Int → Option Int → Hp → VK → Prop} (hr : SlB X r) (he : PE X e te) (hl : PO X lo tl) (hu : PO X hi th) (hs : PO X (some st) ts) : PE X (.Subscript e (.Slice lo hi (some st) p2) pos) (tSb r te tl th ts) := by
  refine ⟨fun pins s σ H Q I h => ?_⟩
  refine Subscript_ (thn (he.run pins s σ H _ I h) fun v s1 ⟨x, H1, I1, r1, q1⟩ => ?_)
  refine wpAny_Slice (thn (hl.run pins s1 σ H1 _ I1 q1) fun vl s2 ⟨l, H2, I2, pl, q2⟩ => thn (hu.run pins s2 σ H2 _ I2 q2) fun vu s3 ⟨u, H3, I3, pu, q3⟩ => thn (hs.run pins s3 σ H3 _ I3 q3) fun vs s4 ⟨w, H4, I4', ps, q4, q5⟩ => ?_)
  subst q4
  cases ps with
  | int _ t =>
  have I4 : Inv X pins σ H4 { s4 with heap := s4.heap.push { cls := .type "slice", data := .fields #[vl, vu, .int (-1) t] } } := I4'.kept (t' := s4.toks) fun b ob q => Heap.get?_push_of_some _ q
  obtain ⟨T, id, hT, ht, hg⟩ := hr pins { s4 with heap := s4.heap.push { cls := .type "slice", data := .fields #[vl, vu, .int (-1) t] } } σ H4 x v vl vu l u s4.heap.objs.size t Q I4 r1 (Heap.IsSliceOf.new ..) pl pu q5
  show wpAny (model X.prog X.w) X.A (subscriptTail e (.Slice lo hi (some st) p2) v (.ref s4.heap.objs.size)) (EP X pins σ Q) X.xe { s4 with heap := s4.heap.push { cls := .type "slice", data := .fields #[vl, vu, .int (-1) t] } }
  exact tail_any (ops := [v, .ref s4.heap.objs.size]) ht hT hg (by with_unfolding_all rfl)
def rSbL (K : PySem.W.Frag) : V → Option Int → Option Int → Hp → VK → Prop := fun x lo hi H Q => ∃ a xs, x = .ref a ∧ SqL K H a xs ∧ ∀ p, H p = none → Q (.ref p) (upd H p (.lst (revL xs lo hi)))
theorem sb_list : SlB X (rSbL X.K) := by
  intro pins s σ H x v vl vu lo hi sl t Q I rx hs pl pu h
  obtain ⟨a, xs, rfl, hx, q⟩ := h
  cases rx
  obtain ⟨its, r, ht, hz⟩ := I.list hx
  have hlen := r.length
  refine ⟨"list", _, slot_list_getitem.lookup, ht.isList.typeIs, ?_⟩
  refine wpAny_getItem_list_slice ht.isList hs pl pu (.int (-1) t) (by decide) ?_ (by rw [List.size_toArray] <;> omega)
  have e : slicePick its.toArray lo hi (some (-1)) = ((revIx xs.length lo hi).filterMap (its[·]?)).toArray := by
    unfold slicePick revIx
    rw [List.size_toArray, hlen]
    simp
  rw [e]
  refine ⟨.ref s.heap.objs.size, _, I.laid (t' := s.toks) (o := .lst (revL xs lo hi)) (fun b ob q => Heap.get?_push_of_some _ q) (Nat.le_refl _) ?_, rfl, q _ (I.hok.fresh (Nat.le_refl _))⟩
  exact ⟨Nat.le_trans (revL_len xs lo hi) hz, _, 0, pick_vals r _, Heap.get?_push_size _ rfl⟩
end
theorem adj_bounds (lo hi : Option Int) (n : Nat) : Builtin.Slice.sliceAdjust lo hi (-1) (n : Int) = ((sliceBounds lo hi (some (-1)) n).1, (sliceBounds lo hi (some (-1)) n).2.1) := by
  unfold Builtin.Slice.sliceAdjust sliceBounds
  have h1 : (-1 : Int) < 0 := by decide
  have h2 : ¬ ((-1 : Int) > 0) := by decide
  simp only [h1, if_true, Option.getD_some, h2, if_false]
  refine Prod.ext ?_ ?_
  · cases lo with
    | none => rfl
    | some v => dsimp only; split <;> omega
  · cases hi with
    | none => rfl
    | some v => dsimp only; split <;> omega
theorem places_rev (a b : Int) : sliceRange a b (-1) = (List.range (Builtin.Slice.slicePlaces a b (-1))).map fun (m : Nat) => (a + (m : Int) * (-1)).toNat := by
  unfold sliceRange Builtin.Slice.slicePlaces
  have h2 : ¬ ((-1 : Int) > 0) := by decide
  have e1 : (-(-1) : Int) = 1 := by decide
  simp only [h2, if_false, e1, Int.ediv_one]
  have e : (if a > b then a - b - -1 - 1 else 0) = (if a > b then a - b - 1 + 1 else 0) := by split <;> omega
  rw [e]
  refine List.map_congr_left fun k _ => ?_
  have : a + -1 * (k : Int) = a + (k : Int) * -1 := by omega
  rw [this]
section
variable {prog : Program} {w : World} {A : Around} {E : Value → Shared → Prop} {s : Shared}
theorem sliceApplied_rev {sl : Addr} {vl vu : Value} {t : Tok} {lo hi : Option Int} {n : Nat} {Q : Int × Int × Nat → Shared → Prop} (hs : s.heap.IsSliceOf sl vl vu (.int (-1) t)) (pl : IsPart vl lo) (pu : IsPart vu hi)
    (h : Q ((sliceBounds lo hi (some (-1)) n).1, -1, Builtin.Slice.slicePlaces (sliceBounds lo hi (some (-1)) n).1 (sliceBounds lo hi (some (-1)) n).2.1 (-1)) s) : wpAny (model prog w) A (Builtin.Slice.sliceApplied (.ref sl) (pure (n : Int))) Q E s := by
  obtain ⟨os, hos, hcs, hds⟩ := id hs
  unfold Builtin.Slice.sliceApplied Builtin.Slice.sliceFields
  refine wpAny_bind (wpAny_bind (wpAny_field hos hds (x := vl) rfl (wpAny_bind (wpAny_field hos hds (x := vu) rfl (wpAny_bind (wpAny_field hos hds (x := .int (-1) t) rfl (wpAny_pure ?_)))))))
  refine wpAny_bind (slicePart_int ?_)
  show wpAny _ _ (if ((-1 : Int) == 0) = true then _ else _) _ _ s
  rw [if_neg (by decide)]
  refine wpAny_bind (HT.slicePart_ pl (wpAny_bind (HT.slicePart_ pu (wpAny_bind (wpAny_pure ?_)))))
  show wpAny _ _ (match Builtin.Slice.sliceAdjust lo hi (-1) (n : Int) with | (lo, hi) => pure (lo, (-1 : Int), Builtin.Slice.slicePlaces lo hi (-1))) _ _ s
  rw [adj_bounds lo hi n]
  exact wpAny_pure h
theorem getItem_tuple_rev {tt sl : Addr} {items : Array Value} {vl vu : Value} {t : Tok} {lo hi : Option Int} {Q : Value → Shared → Prop} (ht : IsTup s.heap tt items) (hs : s.heap.IsSliceOf sl vl vu (.int (-1) t)) (pl : IsPart vl lo) (pu : IsPart vu hi)
    (h : Q (.ref s.heap.objs.size) { s with heap := s.heap.push { cls := .type "tuple", data := .seq (revL items.toList lo hi).toArray } })
    (hsz : items.size ≤ sizeLine) : wpAny (model prog w) A (getItem (.ref tt) (.ref sl)) Q E s := by
  have htake : sizeOk (.seq (revL items.toList lo hi).toArray) := by
    show (revL items.toList lo hi).toArray.size ≤ sizeLine
    rw [List.size_toArray]
    exact Nat.le_trans (revL_len items.toList lo hi) hsz
  have epick : ((List.range (Builtin.Slice.slicePlaces (sliceBounds lo hi (some (-1)) items.size).1 (sliceBounds lo hi (some (-1)) items.size).2.1 (-1))).filterMap fun (k : Nat) => items[((sliceBounds lo hi (some (-1)) items.size).1 + (k : Int) * (-1)).toNat]?).toArray = (revL items.toList lo hi).toArray := by
    unfold revL revIx
    rw [Array.length_toList, show (sliceBounds lo hi (some (-1)) items.size).2.2 = -1 from rfl, places_rev, List.filterMap_map]
    congr 2
    funext k
    simp
  obtain ⟨os, hos, hcs, hds⟩ := id hs
  have hTs : s.TypeIs (.ref sl) "slice" := ⟨os, hos, hcs⟩
  unfold getItem
  try with_reducible refine wpAny_holding ?_
  first | refine wpAny_bind (wpAny_pure ?_) | skip
  refine wpAny_bind (wpAny_sequenceKey ht.typeIs (by decide) ?_)
  refine wpAny_bind (wpAny_callSpecial?_slot (name := Str.ofString "__getitem__") ht.typeIs PyProof.Rows.slot_tuple_getitem
    (wpAny_call_entry PyProof.Rows.slot_tuple_getitem ht.typeIs entry_tuple_getitem ?_ (args_tuple_getitem _ _)))
  show wpAny _ _ (Builtin.Tuple.tupleItemsOf (.ref tt) >>= _) _ _ s
  refine wpAny_bind (tupleItemsOf_ ht ?_)
  refine wpAny_bind (wpAny_typeOf hTs ?_)
  rw [if_pos (by decide)]
  refine wpAny_bind (sliceApplied_rev hs pl pu ?_)
  show wpAny _ _ (if ((sliceBounds lo hi (some (-1)) items.size).1 == 0 && (-1 : Int) == 1 && (Builtin.Slice.slicePlaces (sliceBounds lo hi (some (-1)) items.size).1 (sliceBounds lo hi (some (-1)) items.size).2.1 (-1)) == items.size) = true then _ else _) _ _ s
  rw [if_neg (by simp), epick]
  first
    | exact wpAny_bind (m := Builtin.Tuple.tupleExact _) (wpAny_newObj_type (wpAny_pure ⟨_, rfl, wpAny_pure h⟩) htake)
    | exact wpAny_bind (m := Builtin.Tuple.tupleExact _) (wpAny_newObj_type (wpAny_bind (wpAny_pure (wpAny_pure ⟨_, rfl, wpAny_pure h⟩))) htake)
    | exact wpAny_bind (wpAny_bind (m := Builtin.Tuple.tupleExact _) (wpAny_newObj_type (wpAny_pure (wpAny_pure ⟨_, rfl, wpAny_pure h⟩)) htake))
    | exact wpAny_bind (wpAny_bind (m := Builtin.Tuple.tupleExact _) (wpAny_newObj_type (wpAny_pure ⟨_, rfl, wpAny_pure h⟩) htake))
end
section
variable {X : Cx}
def rSbT (K : PySem.W.Frag) : V → Option Int → Option Int → Hp → VK → Prop := fun x lo hi H Q => ∃ a xs, x = .ref a ∧ SqT K H a xs ∧ ∀ p, H p = none → Q (.ref p) (upd H p (.tup (revL xs lo hi)))
theorem sb_tup : SlB X (rSbT X.K) := by
  intro pins s σ H x v vl vu lo hi sl t Q I rx hs pl pu h
  obtain ⟨a, xs, rfl, hx, q⟩ := h
  cases rx
  obtain ⟨its, r, ht, hz⟩ := I.tuple hx
  have hlen := r.length
  refine ⟨"tuple", _, PyProof.Rows.slot_tuple_getitem.lookup, ht.typeIs, ?_⟩
  refine getItem_tuple_rev ht hs pl pu ?_ (by rw [List.size_toArray]; omega)
  refine ⟨.ref s.heap.objs.size, _, I.laid (t' := s.toks) (o := .tup (revL xs lo hi)) (fun b ob q => Heap.get?_push_of_some _ q) (Nat.le_refl _) ?_, rfl, q _ (I.hok.fresh (Nat.le_refl _))⟩
  have e : revL its lo hi = (revIx xs.length lo hi).filterMap (its[·]?) := by unfold revL; rw [hlen]
  exact ⟨Nat.le_trans (revL_len xs lo hi) hz, _, by rw [e]; exact pick_vals r _, IsTup.new _ _⟩
end
section
variable {T : Tb} {tb : List Addr} {k : Nat} {s : Sc} {X : Cx} {a b c e : Expr} {es : List Expr} {ρ ρ1 ρ2 ρ3 : En} {oa ob oc op : Op} {pos : Pos}
theorem so_m1 (h : isM1 e = true) : SO tb X (some e) ρ (some (-1)) ρ := by
  unfold isM1 at h
  split at h
  · exact so_so (oa := .val (.int (-1))) (se_neg (i := 1) (se_cst (d := .int 1) rfl) rfl) rfl
  · cases h
theorem se_slb {lo hi : Option Expr} {st : Expr} {p2 : Pos} {da : D} {i j : Option Int} {res : Op} (hm : isM1 st = true) (ha : SE tb X a ρ oa ρ1) (hl : SO tb X lo ρ1 i ρ2) (hh : SO tb X hi ρ2 j ρ3) (ea : viewOp ρ3 oa = some da) (h : slbD da i j = some res) :
    SE tb X (.Subscript a (.Slice lo hi (some st) p2) pos) ρ res ρ3 := by
  have key : ∀ {rr : V → Option Int → Option Int → Hp → VK → Prop}, SlB X rr → (∀ pa B F σ H x, Rel X.K tb pa B F σ H ρ3 → Vw X.K F H x da → ∀ Q : VK, (∀ v F' H', Sm F F' → Rel X.K tb pa B F' σ H' ρ3 → OpR X.K B F' H' σ ρ3 v res → Q v H') → rr x i j H Q) →
      SE tb X (.Subscript a (.Slice lo hi (some st) p2) pos) ρ res ρ3 := by
    intro rr hr hq pa B F σ H r Q q
    refine we_of (pe_sliceB hr (pe_we X a) (po_wo X lo) (po_wo X hi) (po_wo X (some st))) ?_
    refine ha pa B F σ H r _ fun x F1 H1 s1 r1 o1 => ?_
    obtain ⟨B1, sB, nB, rB⟩ := OpR.hold1 r1 o1
    refine hl pa B1 F1 σ H1 rB _ fun F2 H2 s2 r2 => ?_
    refine hh pa B1 F2 σ H2 r2 _ fun F3 H3 s3 r3 => ?_
    refine so_m1 hm pa B1 F3 σ H3 r3 _ fun F4 H4 s4 r4 => ⟨rfl, ?_⟩
    have o3 := o1.back nB sB rB ((s2.trans s3).trans s4) r4
    have r3' := r4.less sB
    exact hq pa B F4 σ H4 x r3' (vw_ok r3' o3 ea) Q fun v F5 H5 s5 r5 o5 => q v F5 H5 ((((s1.trans s2).trans s3).trans s4).trans s5) r5 o5
  unfold slbD at h
  split at h
  · cases h
    refine key sb_list fun pa B F σ H x r v Q q => ?_
    obtain ⟨p, vs, rfl, a1, b1⟩ := v.lstE
    refine ⟨p, vs, rfl, .inl a1, fun l hl => ?_⟩
    obtain ⟨r3, o3⟩ := new_ok r (rev_rp (lo := i) (hi := j) b1) hl
    exact q _ F _ (Sm.refl _) r3 o3
  · cases h
    refine key sb_tup fun pa B F σ H x r v Q q => ?_
    obtain ⟨p, vs, rfl, a1, b1⟩ := v.tupE
    refine ⟨p, vs, rfl, SqT.mono r.wf.fz a1, fun l hl => ?_⟩
    obtain ⟨F2, s2, r3, o3⟩ := newT_ok r (rev_rp (lo := i) (hi := j) b1) hl
    exact q _ F2 _ s2 r3 o3
  · cases h
end
/-- the whole, backward -/
theorem revL_all {α : Type} (xs : List α) : revL xs none none = xs.reverse := by
  have e : revIx xs.length none none = (List.range xs.length).map fun k => xs.length - 1 - k := by
    unfold revIx sliceBounds sliceRange
    simp only [Option.getD_some]
    have h2 : ¬ ((-1 : Int) > 0) := by decide
    simp only [h2, if_false]
    have c : (if (xs.length : Int) - 1 > -1 then ((xs.length : Int) - 1 - -1 - -1 - 1) / (- -1) else 0).toNat = xs.length := by
      have e1 : (-(-1) : Int) = 1 := by decide
      rw [e1, Int.ediv_one]
      split <;> omega
    rw [c]
    refine List.map_congr_left fun k hk => ?_
    have := List.mem_range.mp hk
    omega
  have e2 : ((List.range xs.length).map fun k => xs.length - 1 - k) = (List.range xs.length).reverse := by
    apply List.ext_getElem (by simp)
    intro j h1 h2
    simp
  have all : ∀ ys : List α, (List.range ys.length).filterMap (ys[·]?) = ys := by
    intro ys
    induction ys with
    | nil => rfl
    | cons y ys ih =>
      rw [List.length_cons, List.range_succ_eq_map, List.filterMap_cons, List.filterMap_map]
      simp only [List.getElem?_cons_zero]
      congr 1
  unfold revL
  rw [e, e2, List.filterMap_reverse, all]
end Ev

set_option maxHeartbeats 2000000
/-! displays with stars: (a, *b) -/
namespace Ev
open PySem PySem.Spec PyProof.Rows L2
def SF (tb : List Addr) (X : Cx) (es : List Expr) (ρ : En) (ds : List D) (ρ' : En) : Prop := ∀ pa B F σ H, Rel X.K tb pa B F σ H ρ → ∀ Q : List V → Hp → Prop, (∀ xs F' H', Sm F F' → Rel X.K tb pa B F' σ H' ρ' → RpAll X.K F' xs ds → Q xs H') → WA X es σ H Q
section
variable {tb : List Addr} {X : Cx} {e : Expr} {es : List Expr} {ρ ρ1 ρ2 ρ3 : En} {oa : Op} {d : D} {ds ds0 : List D} {pos p : Pos}
theorem sf_nil : SF tb X [] ρ [] ρ := fun pa B F σ H r Q q => wa_of pa_nil (q [] F H (Sm.refl _) r .nil)
theorem sf_cons (hn : noStar e = true) (ha : SE tb X e ρ oa ρ1) (hk : keepOp ρ1 oa = some (d, ρ2)) (hb : SF tb X es ρ2 ds ρ3) : SF tb X (e :: es) ρ (d :: ds) ρ3 := by
  intro pa B F σ H r Q h
  refine wa_of (pa_cons (pe_we X e) (pa_wa X es) (noStar_eq hn _ _)) ?_
  refine ha pa B F σ H r _ fun x F1 H1 s1 r1 o1 => ?_
  obtain ⟨F2, s2, r2, dp⟩ := keep_ok r1 o1 hk
  refine hb pa B F2 σ H1 r2 _ fun xs F3 H3 s3 r3 rp => ?_
  exact h (x :: xs) F3 H3 ((s1.trans s2).trans s3) r3 (.cons (Rp.mono s3 dp) rp)
theorem sf_star (ha : SE tb X e ρ oa ρ1) (hk : keepOp ρ1 oa = some (d, ρ2)) (hd : itemsD d = some ds0) (hb : SF tb X es ρ2 ds ρ3) : SF tb X (.Starred e p :: es) ρ (ds0 ++ ds) ρ3 := by
  intro pa B F σ H r Q h
  refine wa_of (StX.pa_star (pe_we X e) (pa_wa X es)) ?_
  refine ha pa B F σ H r _ fun x F1 H1 s1 r1 o1 => ?_
  obtain ⟨F2, s2, r2, dp⟩ := keep_ok r1 o1 hk
  cases dp with
  | lst a b =>
    cases hd
    refine ⟨_, _, rfl, .inr (.inl (Rd.mono r2.wf.fz a)), ?_⟩
    refine hb pa B F2 σ H1 r2 _ fun xs F3 H3 s3 r3 rp => ?_
    exact h _ F3 H3 ((s1.trans s2).trans s3) r3 (RpAll.append (RpAll.mono s3 b) rp)
  | tup a b =>
    cases hd
    refine ⟨_, _, rfl, .inl (SqT.mono r2.wf.fz a), ?_⟩
    refine hb pa B F2 σ H1 r2 _ fun xs F3 H3 s3 r3 rp => ?_
    exact h _ F3 H3 ((s1.trans s2).trans s3) r3 (RpAll.append (RpAll.mono s3 b) rp)
  | _ => cases hd
theorem se_tupS {j : Nat} (ha : SF tb X es ρ ds ρ1) (hl : lenOk ds.length = true) : SE tb X (.Tuple es j pos) ρ (.val (.tuple ds)) ρ1 := by
  intro pa B F σ H r Q q
  refine we_of (pe_tup (pa_wa X es)) (ha pa B F σ H r _ fun xs F' H' s' r' dp => ?_)
  refine ⟨by rw [RpAll.length dp]; exact of_decide_eq_true hl, fun p hp => ?_⟩
  obtain ⟨F3, s3, r3, o3⟩ := newT_ok r' dp hp
  exact q _ F3 _ (s'.trans s3) r3 o3
theorem se_lstS (ha : SF tb X es ρ ds ρ1) (hl : lenOk ds.length = true) : SE tb X (.List es pos) ρ (.new ds) ρ1 := by
  intro pa B F σ H r Q q
  refine we_of (pe_lst (pa_wa X es)) (ha pa B F σ H r _ fun xs F' H' s' r' dp => ?_)
  refine ⟨by rw [RpAll.length dp]; exact of_decide_eq_true hl, fun p hp => ?_⟩
  obtain ⟨r3, o3⟩ := new_ok r' dp hp
  exact q _ F' _ s' r3 o3
end
end Ev

set_option maxHeartbeats 4000000
namespace Ev
open PySem PySem.Spec PyProof.Rows L2

section
variable {T : Tb} {tb : List Addr} {k : Nat}
theorem XOk.blk {s : Sc} {X : Cx} (o : XOk T tb k s X) (scope : Scope) (s0 : Shared) (H0 : Hp) (C : Addr) (cl : List (Str × Addr)) (fp : List Addr) : XOk T tb k (blkS s scope) (X.blk s0 H0 scope (compEnvC scope cl C X.env) fp) :=
  { fns := o.fns, kws := o.kws, gls := o.gls, blt := o.blt, nm := o.nm, nd := o.nd, sc := (by show relS scope X.env.scope = relS scope s.sc; rw [o.sc]), fn := fun x h => h, calm := o.calm, room8 := o.room8, tab := o.tab, grd := o.grd, own := PassesOwn.never }
theorem noSet_fold {e : Expr} (h : noSet e = true) (env : Env) (x : Value) : foldedSetIterable e env x = pure x := by
  cases e <;> first | rfl | cases h
theorem chIt_set {s : Sc} {ir : IT} {tg e : Expr} (h : chIt s ir tg e = true) : noSet e = true := by
  cases e <;> first | rfl | (cases ir <;> simp [chIt] at h <;> exact chE_set h)

theorem chT_ns {s : Sc} {ir : Tg} {e : Expr} (h : chT s ir e = true) : noStar e = true := by
  cases e <;> first | rfl | (cases ir <;> simp [chT] at h)
theorem chTs_ns {s : Sc} : ∀ {irs : Tgs} {es : List Expr}, chTs s irs es = true → ∀ e ∈ es, noStar e = true
  | .nil, [], _, e, he => by simp at he
  | .nil, _ :: _, h, _, _ => by simp [chTs] at h
  | .cons ir irs, [], h, _, _ => by simp [chTs] at h
  | .cons ir irs, e' :: es, h, e, he => by
    simp only [chTs, Bool.and_eq_true] at h
    rcases List.mem_cons.mp he with rfl | he
    · exact chT_ns h.1
    · exact chTs_ns h.2 e he
theorem genFold_pure {e : Expr} {env : Env} (h1 : noLst e = true) (h2 : noSet e = true) (v : Value) : genFold e env v = pure v := by
  cases e <;> first | (cases h1; done) | exact noSet_fold h2 env v
mutual
theorem evE_ok : ∀ (ir : IE) {s : Sc} {X : Cx} {e : Expr} {ρ ρ' : En} {op : Op}, XOk T tb k s X → chE s ir e = true → evE T ρ ir = some (op, ρ') → SE tb X e ρ op ρ'
  | .var i, s, X, e, ρ, ρ', op, o, hc, h => by
    unfold chE at hc
    split at hc
    · simp only [Bool.and_eq_true, decide_eq_true_eq] at hc
      simp only [evE] at h
      split at h
      · cases h
      · rename_i sl hu hs
        cases h
        exact se_var o hc.1.1 hc.1.2 hc.2 hs (fun z => hu z)
      · cases h
    · cases hc
  | .cst c, s, X, e, ρ, ρ', op, o, hc, h => by
    unfold chE at hc
    split at hc
    · simp only [decide_eq_true_eq] at hc
      subst hc
      simp only [evE, Option.map_eq_some_iff] at h
      obtain ⟨d, h1, h2⟩ := h
      cases h2
      exact se_cst h1
    · cases hc
  | .glb x, s, X, e, ρ, ρ', op, o, hc, h => by
    unfold chE at hc
    split at hc
    · simp only [Bool.and_eq_true, decide_eq_true_eq] at hc
      obtain ⟨⟨rfl, h1⟩, h2⟩ := hc
      simp only [evE, Option.map_eq_some_iff] at h
      obtain ⟨d, h3, h4⟩ := h
      cases h4
      exact se_glb o h1 h2 h3
    · cases hc
  | .bin op a b, s, X, e, ρ, ρ', res, o, hc, h => by
    unfold chE at hc
    split at hc
    · simp only [Bool.and_eq_true, decide_eq_true_eq] at hc
      obtain ⟨⟨rfl, c1⟩, c2⟩ := hc
      simp only [evE, Option.bind_eq_some_iff, Option.map_eq_some_iff] at h
      obtain ⟨⟨oa, ρ1⟩, h1, ⟨ob, ρ2⟩, h2, x, hx, y, hy, r, hr, e⟩ := h
      cases e
      exact se_binD (evE_ok a o c1 h1) (evE_ok b o c2 h2) hx hy hr
    · cases hc
  | .neg a, s, X, e, ρ, ρ', res, o, hc, h => by
    unfold chE at hc
    split at hc
    · simp only [evE, Option.bind_eq_some_iff] at h
      obtain ⟨⟨oa, ρ1⟩, h1, h2⟩ := h
      dsimp only at h2
      split at h2
      · rename_i i hi
        cases h2
        exact se_neg (evE_ok a o hc h1) hi
      · cases h2
    · cases hc
  | .not a, s, X, e, ρ, ρ', res, o, hc, h => by
    unfold chE at hc
    split at hc
    · simp only [evE, Option.bind_eq_some_iff] at h
      obtain ⟨⟨oa, ρ1⟩, h1, h2⟩ := h
      dsimp only at h2
      split at h2
      · rename_i i hi
        cases h2
        exact se_not (evE_ok a o hc h1) hi
      · cases h2
    · cases hc
  | .cmp op a b, s, X, e, ρ, ρ', res, o, hc, h => by
    unfold chE at hc
    split at hc
    · simp only [Bool.and_eq_true, decide_eq_true_eq] at hc
      obtain ⟨⟨rfl, c1⟩, c2⟩ := hc
      simp only [evE, Option.bind_eq_some_iff, Option.map_eq_some_iff] at h
      obtain ⟨⟨oa, ρ1⟩, h1, ⟨ob, ρ2⟩, h2, x, hx, y, hy, r, hr, e⟩ := h
      cases e
      exact se_cmp o (chE_set c2) (evE_ok a o c1 h1) (evE_ok b o c2 h2) hx hy hr
    · cases hc
  | .cmp2 op op2 a b c, s, X, e, ρ, ρ', res, o, hc, h => by
    unfold chE at hc
    split at hc
    · simp only [Bool.and_eq_true, decide_eq_true_eq] at hc
      obtain ⟨⟨⟨⟨rfl, rfl⟩, c1⟩, c2⟩, c3⟩ := hc
      simp only [evE, Option.bind_eq_some_iff] at h
      obtain ⟨⟨oa, ρ1⟩, h1, ⟨ob, ρ2⟩, h2, x, hx, y, hy, r, hr, h3⟩ := h
      cases r with
      | false =>
        rw [if_neg Bool.false_ne_true] at h3
        cases h3
        exact se_chain o (ρ3 := ρ) (db' := .none) (dc := .none) (chE_set c3) (evE_ok a o c1 h1) (evE_ok b o c2 h2) hx hy hr (.inl ⟨rfl, rfl, rfl⟩)
      | true =>
        rw [if_pos rfl] at h3
        simp only [Option.bind_eq_some_iff, Option.map_eq_some_iff] at h3
        obtain ⟨⟨oc, ρ3⟩, h4, y', hy', z, hz, r2, hr2, e⟩ := h3
        cases e
        exact se_chain o (chE_set c3) (evE_ok a o c1 h1) (evE_ok b o c2 h2) hx hy hr (.inr ⟨rfl, oc, evE_ok c o c3 h4, hy', hz, hr2, rfl⟩)
    · cases hc
  | .and a b, s, X, e, ρ, ρ', res, o, hc, h => by
    unfold chE at hc
    split at hc
    · simp only [Bool.and_eq_true] at hc
      simp only [evE, Option.bind_eq_some_iff] at h
      obtain ⟨⟨oa, ρ1⟩, h1, h2⟩ := h
      dsimp only at h2
      split at h2
      · rename_i hi
        exact se_andT (evE_ok a o hc.1 h1) hi (evE_ok b o hc.2 h2)
      · rename_i hi
        cases h2
        exact se_andF (evE_ok a o hc.1 h1) hi
      · cases h2
    · cases hc
  | .or a b, s, X, e, ρ, ρ', res, o, hc, h => by
    unfold chE at hc
    split at hc
    · simp only [Bool.and_eq_true] at hc
      simp only [evE, Option.bind_eq_some_iff] at h
      obtain ⟨⟨oa, ρ1⟩, h1, h2⟩ := h
      dsimp only at h2
      split at h2
      · rename_i hi
        cases h2
        exact se_orT (evE_ok a o hc.1 h1) hi
      · rename_i hi
        exact se_orF (evE_ok a o hc.1 h1) hi (evE_ok b o hc.2 h2)
      · cases h2
    · cases hc
  | .one a, s, X, e, ρ, ρ', res, o, hc, h => by
    unfold chE at hc
    split at hc
    · simp only [evE] at h
      exact se_one (evE_ok a o hc h)
    · cases hc
  | .ite c a b, s, X, e, ρ, ρ', res, o, hc, h => by
    unfold chE at hc
    split at hc
    · simp only [Bool.and_eq_true] at hc
      simp only [evE] at h
      split at h
      · rename_i ρ1 h1
        exact se_iteT (evT_ok c o hc.1.1 h1) (evE_ok a o hc.1.2 h)
      · rename_i ρ1 h1
        exact se_iteF (evT_ok c o hc.1.1 h1) (evE_ok b o hc.2 h)
      · cases h
    · cases hc
  | .tup es, s, X, e, ρ, ρ', res, o, hc, h => by
    unfold chE at hc
    split at hc
    · simp only [evE, Option.bind_eq_some_iff] at h
      obtain ⟨⟨ops, ρ1⟩, h1, ⟨ds, ρ2⟩, h2, h3⟩ := h
      dsimp only at h3
      split at h3
      · rename_i hl
        cases h3
        exact se_tup (evEs_ok es o hc h1) h2 hl
      · cases h3
    · cases hc
  | .lst es, s, X, e, ρ, ρ', res, o, hc, h => by
    unfold chE at hc
    split at hc
    · simp only [evE, Option.bind_eq_some_iff] at h
      obtain ⟨⟨ops, ρ1⟩, h1, ⟨ds, ρ2⟩, h2, h3⟩ := h
      dsimp only at h3
      split at h3
      · rename_i hl
        cases h3
        exact se_lst (evEs_ok es o hc h1) h2 hl
      · cases h3
    · cases hc
  | .idx a i, s, X, e, ρ, ρ', res, o, hc, h => by
    unfold chE at hc
    split at hc
    · simp only [Bool.and_eq_true] at hc
      simp only [evE, Option.bind_eq_some_iff, Option.map_eq_some_iff] at h
      obtain ⟨⟨oa, ρ1⟩, h1, ⟨ob, ρ2⟩, h2, x, hx, y, hy, r, hr, e⟩ := h
      cases e
      exact se_idx (chE_slice hc.2) (evE_ok a o hc.1 h1) (evE_ok i o hc.2 h2) hx hy hr
    · cases hc
  | .slc a lo hi, s, X, e, ρ, ρ', res, o, hc, h => by
    unfold chE at hc
    split at hc
    · simp only [Bool.and_eq_true] at hc
      simp only [evE, Option.bind_eq_some_iff, Option.map_eq_some_iff] at h
      obtain ⟨⟨oa, ρ1⟩, h1, ⟨i, ρ2⟩, h2, ⟨j, ρ3⟩, h3, x, hx, r, hr, e⟩ := h
      cases e
      exact se_slc (evE_ok a o hc.1.1 h1) (evC_ok lo o hc.1.2 h2) (evC_ok hi o hc.2 h3) hx hr
    · cases hc
  | .tupS fl es, s, X, e, ρ, ρ', res, o, hc, h => by
    unfold chE at hc
    split at hc
    · simp only [evE, Option.bind_eq_some_iff] at h
      obtain ⟨⟨ds, ρ2⟩, h2, h3⟩ := h
      dsimp only at h3
      split at h3
      · rename_i hl
        cases h3
        exact se_tupS (evSt_ok es o hc h2) hl
      · cases h3
    · cases hc
  | .lstS fl es, s, X, e, ρ, ρ', res, o, hc, h => by
    unfold chE at hc
    split at hc
    · simp only [evE, Option.bind_eq_some_iff] at h
      obtain ⟨⟨ds, ρ2⟩, h2, h3⟩ := h
      dsimp only at h3
      split at h3
      · rename_i hl
        cases h3
        exact se_lstS (evSt_ok es o hc h2) hl
      · cases h3
    · cases hc
  | .slb a lo hi, s, X, e, ρ, ρ', res, o, hc, h => by
    unfold chE at hc
    split at hc
    · simp only [Bool.and_eq_true] at hc
      simp only [evE, Option.bind_eq_some_iff, Option.map_eq_some_iff] at h
      obtain ⟨⟨oa, ρ1⟩, h1, ⟨i, ρ2⟩, h2, ⟨j, ρ3⟩, h3, x, hx, r, hr, e⟩ := h
      cases e
      exact se_slb hc.1.1.1 (evE_ok a o hc.1.1.2 h1) (evC_ok lo o hc.1.2 h2) (evC_ok hi o hc.2 h3) hx hr
    · cases hc
  | .cal f es, s, X, e, ρ, ρ', res, o, hc, h => by
    unfold chE at hc
    split at hc
    · simp only [Bool.and_eq_true, decide_eq_true_eq] at hc
      obtain ⟨⟨⟨rfl, c1⟩, c2⟩, c3⟩ := hc
      simp only [evE, Option.bind_eq_some_iff] at h
      obtain ⟨⟨ops, ρ1⟩, h1, fs, h2, h3⟩ := h
      refine se_call o c1 c2 h2 (chEs_ns c3) (evEs_ok es o c3 h1) (fun z => ?_) h3
      subst z
      cases es with
      | nil => simp only [evEs] at h1; cases h1; exact ⟨rfl, rfl⟩
      | cons a b => simp [chEs] at c3
    · cases hc
  | .calk f n es ks, s, X, e, ρ, ρ', res, o, hc, h => by
    unfold chE at hc
    split at hc
    · simp only [Bool.and_eq_true, decide_eq_true_eq] at hc
      obtain ⟨⟨⟨⟨⟨⟨rfl, c1⟩, c2⟩, c3⟩, c4⟩, c5⟩, _⟩ := hc
      simp only [evE, Option.bind_eq_some_iff] at h
      obtain ⟨⟨ops, ρ1⟩, h1, ⟨ds, ρ2⟩, h2, pm, h3, fs, h4, h5⟩ := h
      exact se_calk o c1 c2 h3 h4 (fun e' he => chEs_ns c3 e' (List.mem_append_left _ he)) c4 c5 (evEs_ses es o c3 h1) h2 h5
    · cases hc
  | .bi f es, s, X, e, ρ, ρ', res, o, hc, h => by
    unfold chE at hc
    split at hc
    · simp only [Bool.and_eq_true, decide_eq_true_eq] at hc
      obtain ⟨⟨⟨rfl, c1⟩, c2⟩, c3⟩ := hc
      simp only [evE, Option.bind_eq_some_iff, Option.map_eq_some_iff] at h
      obtain ⟨⟨ops, ρ1⟩, h1, ds, h2, r, h3, e⟩ := h
      cases e
      refine se_bi o c1 c2 (chEs_ns c3) (fun z => ?_) (evEs_ok es o c3 h1) h2 h3
      subst z
      cases es with
      | nil => simp only [evEs] at h1; cases h1; rfl
      | cons a b => simp [chEs] at c3
    · cases hc
  | .isi a t, s, X, e, ρ, ρ', res, o, hc, h => by
    unfold chE at hc
    split at hc
    · simp only [Bool.and_eq_true, decide_eq_true_eq] at hc
      obtain ⟨⟨⟨⟨⟨⟨rfl, c1⟩, rfl⟩, c2⟩, c3⟩, c4⟩, c5⟩ := hc
      simp only [evE, Option.bind_eq_some_iff, Option.map_eq_some_iff] at h
      obtain ⟨⟨oa, ρ1⟩, h1, x, hx, b, hb, e⟩ := h
      cases e
      exact se_isi o c5 c1 c2 c3 (chE_ns c4) (evE_ok a o c4 h1) hx hb
    · cases hc
  | .lc elt t own it c, s, X, e, ρ, ρ', res, o, hc, h => by
    unfold chE at hc
    split at hc
    · simp only [Bool.and_eq_true] at hc
      obtain ⟨⟨⟨⟨⟨c1, c2⟩, c3⟩, c4⟩, c5⟩, c6⟩ := hc
      simp only [evE, Option.bind_eq_some_iff] at h
      obtain ⟨⟨ds, ρ1⟩, h1, ⟨out, ρn⟩, h2, h3⟩ := h
      dsimp only at h2 h3
      split at h3
      · rename_i hl
        cases h3
        refine se_lc o (by rw [← o.nm] at c1; rw [o.sc]; exact blkOk_by c1) (noSet_fold (chIt_set c2) _) (lc_ok o (evIt_ok it o c2 h1) (ix := tgIx t) (fun i hi => ?_) (fun x ρa q hq => ?_) h2 hl)
        · have := List.all_eq_true.mp c6 i hi
          simpa using this
        · simp only [Option.bind_eq_some_iff] at hq
          obtain ⟨ρ2, q1, ⟨b, ρ3⟩, q2, q3⟩ := hq
          refine ⟨ρ2, b, ρ3, fun s H C cl fp => bindT_ok t (o.blk _ s H C cl fp) c3 q1, fun s H C cl fp => evIf_ok c (o.blk _ s H C cl fp) c4 q2, ?_⟩
          dsimp only at q3
          cases b with
          | false =>
            rw [if_neg Bool.false_ne_true] at q3
            cases q3
            exact .inl ⟨rfl, rfl⟩
          | true =>
            rw [if_pos rfl] at q3
            simp only [Option.bind_eq_some_iff, Option.map_eq_some_iff] at q3
            obtain ⟨⟨op, ρ4⟩, q4, ⟨d, ρb⟩, q5, e⟩ := q3
            cases e
            exact .inr ⟨rfl, op, ρ4, d, ρb, fun s H C cl fp => evE_ok elt (o.blk _ s H C cl fp) c5 q4, q5, rfl⟩
      · cases h3
    · cases hc
  | .lcO elt j nm i, s, X, e, ρ, ρ', res, o, hc, h => by
    unfold chE at hc
    split at hc
    · simp only [Bool.and_eq_true, decide_eq_true_eq] at hc
      obtain ⟨⟨⟨⟨⟨⟨⟨c1, c2⟩, c3⟩, c4⟩, c5⟩, c6⟩, c7⟩, c8⟩ := hc
      simp only [evE] at h
      split at h
      · rename_i hs0
        simp only [Option.bind_eq_some_iff] at h
        obtain ⟨⟨out, ρn⟩, h2, h3⟩ := h
        dsimp only at h3
        split at h3
        · rename_i hl
          cases h3
          refine se_lc (own := [(nm, j)]) o (by rw [← o.nm] at c1; rw [o.sc]; exact blkOk_by c1) (noSet_fold rfl _) (lcO_ok (own := [(nm, j)]) o c2 c3 c4 (by simpa using c8) hs0 (ix := tgIx (.nm j)) (fun i hi => by simpa [tgIx] using hi) (fun x ρa q hq => ?_) (fun x ρa q hq => ?_) h2 hl)
          · simp only [Option.bind_eq_some_iff] at hq
            obtain ⟨ρ2, q1, ⟨op, ρ4⟩, q2, q3⟩ := hq
            dsimp only at q3
            cases op with
            | val d =>
              cases q3
              exact ⟨ρ2, ρ4, d, fun s H C cl fp => bindT_ok (.nm j) (o.blk _ s H C cl fp) (by unfold chT; simpa using c5) q1, fun s H C cl fp => evIf_ok .no (o.blk _ s H C cl fp) rfl rfl, fun s H C cl fp => evE_ok elt (o.blk _ s H C cl fp) c6 q2, rfl⟩
            | slot i => cases q3
            | new ds => cases q3
          · simp only [Option.bind_eq_some_iff] at hq
            obtain ⟨ρ2, q1, ⟨op, ρ4⟩, q2, q3⟩ := hq
            dsimp only at q3
            cases op with
            | val d =>
              cases q3
              have := smp_ok elt c7 q2
              subst this
              simp only [setE] at q1
              split at q1
              · cases q1
                rw [List.getElem?_set_ne (Ne.symm c8)]
                simp only [wipeE]
                rw [List.getElem?_set_ne (Ne.symm c8)]
              · cases q1
            | slot i => cases q3
            | new ds => cases q3
        · cases h3
      · cases h
    · cases hc
  | .gn f elt t own it c, s, X, e, ρ, ρ', res, o, hc, h => by
    unfold chE at hc
    split at hc
    · simp only [Bool.and_eq_true, decide_eq_true_eq] at hc
      obtain ⟨⟨⟨⟨⟨⟨⟨⟨⟨⟨rfl, c1⟩, c2⟩, c3⟩, c4⟩, c5⟩, c6⟩, c7⟩, c8⟩, c9⟩, c10⟩ := hc
      simp only [evE, Option.bind_eq_some_iff, Option.map_eq_some_iff] at h
      obtain ⟨⟨ds, ρ1⟩, h1, ⟨out, ρn⟩, h2, d, h3, e⟩ := h
      cases e
      refine se_gn o c1 c2 c3 (by rw [← o.nm] at c4; rw [o.sc]; exact gnOk_by c4) (genFold_pure c5 (chIt_set c6)) (evIt_ok it o c6 h1) (ix := tgIx t) (fun i hi => ?_) (fun x ρa q hq => ?_) h2 h3
      · have := List.all_eq_true.mp c10 i hi
        simpa using this
      · simp only [Option.bind_eq_some_iff] at hq
        obtain ⟨ρ2, q1, ⟨b, ρ3⟩, q2, q3⟩ := hq
        refine ⟨ρ2, b, ρ3, fun A s H C code fp hr hg => bindT_ok t (o.gx _ A s H C code fp hr hg) c7 q1, fun A s H C code fp hr hg => evIf_ok c (o.gx _ A s H C code fp hr hg) c8 q2, ?_⟩
        dsimp only at q3
        cases b with
        | false =>
          rw [if_neg Bool.false_ne_true] at q3
          cases q3
          exact .inl ⟨rfl, rfl⟩
        | true =>
          rw [if_pos rfl] at q3
          simp only [Option.bind_eq_some_iff, Option.map_eq_some_iff] at q3
          obtain ⟨⟨op, ρ4⟩, q4, ⟨d, ρb⟩, q5, e⟩ := q3
          cases e
          exact .inr ⟨rfl, op, ρ4, d, ρb, fun A s H C code fp hr hg => evE_ok elt (o.gx _ A s H C code fp hr hg) c9 q4, q5, rfl⟩
    · cases hc
theorem evEs_ok : ∀ (irs : IEs) {s : Sc} {X : Cx} {es : List Expr} {ρ ρ' : En} {ops : List Op}, XOk T tb k s X → chEs s irs es = true → evEs T ρ irs = some (ops, ρ') → SA tb X es ρ ops ρ'
  | .nil, s, X, es, ρ, ρ', ops, o, hc, h => by
    unfold chEs at hc
    split at hc
    · simp only [evEs] at h
      cases h
      exact sa_nil
    · cases hc
  | .cons ir irs, s, X, es, ρ, ρ', ops, o, hc, h => by
    unfold chEs at hc
    split at hc
    · simp only [Bool.and_eq_true] at hc
      simp only [evEs, Option.bind_eq_some_iff, Option.map_eq_some_iff] at h
      obtain ⟨⟨oa, ρ1⟩, h1, ⟨os, ρ2⟩, h2, e⟩ := h
      cases e
      exact sa_cons (chE_ns hc.1) (evE_ok ir o hc.1 h1) (evEs_ok irs o hc.2 h2)
    · cases hc
theorem evSt_ok : ∀ (irs : IEs) {fl : List Bool} {s : Sc} {X : Cx} {es : List Expr} {ρ ρ' : En} {ds : List D}, XOk T tb k s X → chSt s fl irs es = true → evSt T ρ fl irs = some (ds, ρ') → SF tb X es ρ ds ρ'
  | .nil, fl, s, X, es, ρ, ρ', ds, o, hc, h => by
    unfold chSt at hc
    split at hc
    · unfold evSt at h
      split at h
      · cases h
        exact sf_nil
      · cases h
    · cases hc
  | .cons ir irs, fl, s, X, es, ρ, ρ', ds, o, hc, h => by
    unfold chSt at hc
    split at hc
    · simp only [Bool.and_eq_true] at hc
      simp only [evSt, Option.bind_eq_some_iff, Option.map_eq_some_iff] at h
      obtain ⟨⟨oa, ρ1⟩, h1, ⟨d, ρ2⟩, h2, ds0, h3, ⟨r, ρ3⟩, h4, e⟩ := h
      cases e
      exact sf_star (evE_ok ir o hc.1 h1) h2 h3 (evSt_ok irs o hc.2 h4)
    · simp only [Bool.and_eq_true] at hc
      simp only [evSt, Option.bind_eq_some_iff, Option.map_eq_some_iff] at h
      obtain ⟨⟨oa, ρ1⟩, h1, ⟨d, ρ2⟩, h2, ⟨r, ρ3⟩, h4, e⟩ := h
      cases e
      exact sf_cons (chE_ns hc.1) (evE_ok ir o hc.1 h1) h2 (evSt_ok irs o hc.2 h4)
    · cases hc
theorem evEs_ses : ∀ (irs : IEs) {s : Sc} {X : Cx} {es : List Expr} {ρ ρ' : En} {ops : List Op}, XOk T tb k s X → chEs s irs es = true → evEs T ρ irs = some (ops, ρ') → SEs tb X es ρ ops ρ'
  | .nil, s, X, es, ρ, ρ', ops, o, hc, h => by
    unfold chEs at hc
    split at hc
    · simp only [evEs] at h
      cases h
      exact .nil
    · cases hc
  | .cons ir irs, s, X, es, ρ, ρ', ops, o, hc, h => by
    unfold chEs at hc
    split at hc
    · simp only [Bool.and_eq_true] at hc
      simp only [evEs, Option.bind_eq_some_iff, Option.map_eq_some_iff] at h
      obtain ⟨⟨oa, ρ1⟩, h1, ⟨os, ρ2⟩, h2, e⟩ := h
      cases e
      exact .cons (chE_ns hc.1) (evE_ok ir o hc.1 h1) (evEs_ses irs o hc.2 h2)
    · cases hc
theorem evC_ok : ∀ (ir : IC) {s : Sc} {X : Cx} {e : Option Expr} {ρ ρ' : En} {i : Option Int}, XOk T tb k s X → chC s ir e = true → evC T ρ ir = some (i, ρ') → SO tb X e ρ i ρ'
  | .no, s, X, e, ρ, ρ', i, o, hc, h => by
    unfold chC at hc
    split at hc
    · simp only [evC] at h
      cases h
      exact so_no
    · cases hc
  | .so a, s, X, e, ρ, ρ', i, o, hc, h => by
    unfold chC at hc
    split at hc
    · simp only [evC, Option.bind_eq_some_iff] at h
      obtain ⟨⟨oa, ρ1⟩, h1, h2⟩ := h
      dsimp only at h2
      split at h2
      · rename_i hi
        cases h2
        exact so_so (evE_ok a o hc h1) hi
      · cases h2
    · cases hc
theorem evIf_ok : ∀ (ir : IC) {s : Sc} {X : Cx} {e : List Expr} {ρ ρ' : En} {b : Bool}, XOk T tb k s X → chIf s ir e = true → evIf T ρ ir = some (b, ρ') → STs tb X e ρ b ρ'
  | .no, s, X, e, ρ, ρ', i, o, hc, h => by
    unfold chIf at hc
    split at hc
    · simp only [evIf] at h
      cases h
      exact sts_nil
    · cases hc
  | .so a, s, X, e, ρ, ρ', i, o, hc, h => by
    unfold chIf at hc
    split at hc
    · simp only [evIf] at h
      exact sts_one (evT_ok a o hc h)
    · cases hc
theorem evT_ok : ∀ (ir : IE) {s : Sc} {X : Cx} {e : Expr} {ρ ρ' : En} {b : Bool}, XOk T tb k s X → chE s ir e = true → evT T ρ ir = some (b, ρ') → ST tb X e ρ b ρ'
  | .var i, s, X, e, ρ, ρ', op, o, hc, h => by
    have hc' := hc
    unfold chE at hc
    split at hc
    · simp only [evT, Option.bind_eq_some_iff, Option.map_eq_some_iff] at h
      obtain ⟨d, h1, b, h2, e⟩ := h
      cases e
      simp only [Bool.and_eq_true, decide_eq_true_eq] at hc
      have hs : ∃ sl, ρ[i]? = some sl ∧ sl ≠ .u := by
        simp only [viewOp] at h1
        split at h1
        · rename_i q; exact ⟨_, q, fun z => by cases z⟩
        · rename_i q; exact ⟨_, q, fun z => by cases z⟩
        · cases h1
      obtain ⟨sl, q1, q2⟩ := hs
      exact st_val rfl (se_var o hc.1.1 hc.1.2 hc.2 q1 q2) h1 h2
    · cases hc
  | .cst c, s, X, e, ρ, ρ', op, o, hc, h => by simp [evT] at h
  | .glb x, s, X, e, ρ, ρ', op, o, hc, h => by simp [evT] at h
  | .bin op a b, s, X, e, ρ, ρ', res, o, hc, h => by simp [evT] at h
  | .neg a, s, X, e, ρ, ρ', res, o, hc, h => by simp [evT] at h
  | .not a, s, X, e, ρ, ρ', res, o, hc, h => by
    unfold chE at hc
    split at hc
    · simp only [evT, Option.map_eq_some_iff] at h
      obtain ⟨⟨t, ρ1⟩, h1, e⟩ := h
      cases e
      exact st_not (evT_ok a o hc h1)
    · cases hc
  | .cmp op a b, s, X, e, ρ, ρ', res, o, hc, h => by
    unfold chE at hc
    split at hc
    · simp only [Bool.and_eq_true, decide_eq_true_eq] at hc
      obtain ⟨⟨rfl, c1⟩, c2⟩ := hc
      simp only [evT, Option.bind_eq_some_iff, Option.map_eq_some_iff] at h
      obtain ⟨⟨oa, ρ1⟩, h1, ⟨ob, ρ2⟩, h2, x, hx, y, hy, r, hr, e⟩ := h
      cases e
      exact st_cmp o (chE_set c2) (evE_ok a o c1 h1) (evE_ok b o c2 h2) hx hy hr
    · cases hc
  | .cmp2 op op2 a b c, s, X, e, ρ, ρ', res, o, hc, h => by
    unfold chE at hc
    split at hc
    · simp only [Bool.and_eq_true, decide_eq_true_eq] at hc
      obtain ⟨⟨⟨⟨rfl, rfl⟩, c1⟩, c2⟩, c3⟩ := hc
      simp only [evT, Option.bind_eq_some_iff] at h
      obtain ⟨⟨oa, ρ1⟩, h1, ⟨ob, ρ2⟩, h2, x, hx, y, hy, r, hr, h3⟩ := h
      cases r with
      | false =>
        rw [if_neg Bool.false_ne_true] at h3
        cases h3
        exact st_chain o (ρ3 := ρ) (db' := .none) (dc := .none) (chE_set c3) (evE_ok a o c1 h1) (evE_ok b o c2 h2) hx hy hr (.inl ⟨rfl, rfl, rfl⟩)
      | true =>
        rw [if_pos rfl] at h3
        simp only [Option.bind_eq_some_iff, Option.map_eq_some_iff] at h3
        obtain ⟨⟨oc, ρ3⟩, h4, y', hy', z, hz, r2, hr2, e⟩ := h3
        cases e
        exact st_chain o (chE_set c3) (evE_ok a o c1 h1) (evE_ok b o c2 h2) hx hy hr (.inr ⟨rfl, oc, evE_ok c o c3 h4, hy', hz, hr2, rfl⟩)
    · cases hc
  | .and a b, s, X, e, ρ, ρ', res, o, hc, h => by
    unfold chE at hc
    split at hc
    · simp only [Bool.and_eq_true] at hc
      simp only [evT] at h
      split at h
      · rename_i ρ1 h1
        exact st_andT (evT_ok a o hc.1 h1) (evT_ok b o hc.2 h)
      · rename_i ρ1 h1
        cases h
        exact st_andF (evT_ok a o hc.1 h1)
      · cases h
    · cases hc
  | .or a b, s, X, e, ρ, ρ', res, o, hc, h => by
    unfold chE at hc
    split at hc
    · simp only [Bool.and_eq_true] at hc
      simp only [evT] at h
      split at h
      · rename_i ρ1 h1
        cases h
        exact st_orT (evT_ok a o hc.1 h1)
      · rename_i ρ1 h1
        exact st_orF (evT_ok a o hc.1 h1) (evT_ok b o hc.2 h)
      · cases h
    · cases hc
  | .one a, s, X, e, ρ, ρ', res, o, hc, h => by
    unfold chE at hc
    split at hc
    · simp only [evT] at h
      exact st_one (evT_ok a o hc h)
    · cases hc
  | .ite c a b, s, X, e, ρ, ρ', res, o, hc, h => by simp [evT] at h
  | .tup es, s, X, e, ρ, ρ', res, o, hc, h => by simp [evT] at h
  | .lst es, s, X, e, ρ, ρ', res, o, hc, h => by simp [evT] at h
  | .idx a i, s, X, e, ρ, ρ', res, o, hc, h => by
    unfold chE at hc
    split at hc
    · simp only [Bool.and_eq_true] at hc
      simp only [evT, Option.bind_eq_some_iff, Option.map_eq_some_iff] at h
      obtain ⟨⟨oa, ρ1⟩, h1, ⟨ob, ρ2⟩, h2, x, hx, y, hy, r, hr, b, hb, e⟩ := h
      cases e
      exact st_val rfl (se_idx (chE_slice hc.2) (evE_ok a o hc.1 h1) (evE_ok i o hc.2 h2) hx hy hr) rfl hb
    · cases hc
  | .slc a lo hi, s, X, e, ρ, ρ', res, o, hc, h => by simp [evT] at h
  | .slb a lo hi, s, X, e, ρ, ρ', res, o, hc, h => by simp [evT] at h
  | .tupS fl es, s, X, e, ρ, ρ', res, o, hc, h => by simp [evT] at h
  | .lstS fl es, s, X, e, ρ, ρ', res, o, hc, h => by simp [evT] at h
  | .cal f es, s, X, e, ρ, ρ', res, o, hc, h => by
    unfold chE at hc
    split at hc
    · simp only [Bool.and_eq_true, decide_eq_true_eq] at hc
      obtain ⟨⟨⟨rfl, c1⟩, c2⟩, c3⟩ := hc
      simp only [evT, Option.bind_eq_some_iff, Option.map_eq_some_iff] at h
      obtain ⟨⟨ops, ρ1⟩, h1, fs, h2, ⟨r, ρ2⟩, h3, d, h4, b, h5, e⟩ := h
      cases e
      refine st_val rfl (se_call o c1 c2 h2 (chEs_ns c3) (evEs_ok es o c3 h1) (fun z => ?_) h3) h4 h5
      subst z
      cases es with
      | nil => simp only [evEs] at h1; cases h1; exact ⟨rfl, rfl⟩
      | cons a b => simp [chEs] at c3
    · cases hc
  | .calk f n es ks, s, X, e, ρ, ρ', res, o, hc, h => by
    unfold chE at hc
    split at hc
    · simp only [Bool.and_eq_true, decide_eq_true_eq] at hc
      obtain ⟨⟨⟨⟨⟨⟨rfl, c1⟩, c2⟩, c3⟩, c4⟩, c5⟩, _⟩ := hc
      simp only [evT, Option.bind_eq_some_iff, Option.map_eq_some_iff] at h
      obtain ⟨⟨ops, ρ1⟩, h1, ⟨ds, ρ2⟩, h2, pm, h3, fs, h4, ⟨r, ρ3⟩, h5, d, h6, b, h7, e⟩ := h
      cases e
      exact st_val rfl (se_calk o c1 c2 h3 h4 (fun e' he => chEs_ns c3 e' (List.mem_append_left _ he)) c4 c5 (evEs_ses es o c3 h1) h2 h5) h6 h7
    · cases hc
  | .bi f es, s, X, e, ρ, ρ', res, o, hc, h => by
    unfold chE at hc
    split at hc
    · simp only [Bool.and_eq_true, decide_eq_true_eq] at hc
      obtain ⟨⟨⟨rfl, c1⟩, c2⟩, c3⟩ := hc
      simp only [evT, Option.bind_eq_some_iff, Option.map_eq_some_iff] at h
      obtain ⟨⟨ops, ρ1⟩, h1, ds, h2, r, h3, d, h4, b, h5, e⟩ := h
      cases e
      refine st_val rfl (se_bi o c1 c2 (chEs_ns c3) (fun z => ?_) (evEs_ok es o c3 h1) h2 h3) h4 h5
      subst z
      cases es with
      | nil => simp only [evEs] at h1; cases h1; rfl
      | cons a b => simp [chEs] at c3
    · cases hc
  | .isi a t, s, X, e, ρ, ρ', res, o, hc, h => by
    unfold chE at hc
    split at hc
    · simp only [Bool.and_eq_true, decide_eq_true_eq] at hc
      obtain ⟨⟨⟨⟨⟨⟨rfl, c1⟩, rfl⟩, c2⟩, c3⟩, c4⟩, c5⟩ := hc
      simp only [evT, Option.bind_eq_some_iff, Option.map_eq_some_iff] at h
      obtain ⟨⟨oa, ρ1⟩, h1, x, hx, b, hb, e⟩ := h
      cases e
      exact st_val rfl (se_isi o c5 c1 c2 c3 (chE_ns c4) (evE_ok a o c4 h1) hx hb) rfl rfl
    · cases hc
  | .lc elt t own it c, s, X, e, ρ, ρ', res, o, hc, h => by simp [evT] at h
  | .lcO elt j nm i, s, X, e, ρ, ρ', res, o, hc, h => by simp [evT] at h
  | .gn f elt t own it c, s, X, e, ρ, ρ', res, o, hc, h => by
    unfold chE at hc
    split at hc
    · simp only [Bool.and_eq_true, decide_eq_true_eq] at hc
      obtain ⟨⟨⟨⟨⟨⟨⟨⟨⟨⟨rfl, c1⟩, c2⟩, c3⟩, c4⟩, c5⟩, c6⟩, c7⟩, c8⟩, c9⟩, c10⟩ := hc
      simp only [evT, Option.bind_eq_some_iff, Option.map_eq_some_iff] at h
      obtain ⟨⟨ds, ρ1⟩, h1, ⟨out, ρn⟩, h2, d, h3, bb, h4, e⟩ := h
      cases e
      refine st_val (op := .val d) rfl ?_ rfl h4
      refine se_gn o c1 c2 c3 (by rw [← o.nm] at c4; rw [o.sc]; exact gnOk_by c4) (genFold_pure c5 (chIt_set c6)) (evIt_ok it o c6 h1) (ix := tgIx t) (fun i hi => ?_) (fun x ρa q hq => ?_) h2 h3
      · have := List.all_eq_true.mp c10 i hi
        simpa using this
      · simp only [Option.bind_eq_some_iff] at hq
        obtain ⟨ρ2, q1, ⟨b, ρ3⟩, q2, q3⟩ := hq
        refine ⟨ρ2, b, ρ3, fun A s H C code fp hr hg => bindT_ok t (o.gx _ A s H C code fp hr hg) c7 q1, fun A s H C code fp hr hg => evIf_ok c (o.gx _ A s H C code fp hr hg) c8 q2, ?_⟩
        dsimp only at q3
        cases b with
        | false =>
          rw [if_neg Bool.false_ne_true] at q3
          cases q3
          exact .inl ⟨rfl, rfl⟩
        | true =>
          rw [if_pos rfl] at q3
          simp only [Option.bind_eq_some_iff, Option.map_eq_some_iff] at q3
          obtain ⟨⟨op, ρ4⟩, q4, ⟨d, ρb⟩, q5, e⟩ := q3
          cases e
          exact .inr ⟨rfl, op, ρ4, d, ρb, fun A s H C code fp hr hg => evE_ok elt (o.gx _ A s H C code fp hr hg) c9 q4, q5, rfl⟩
    · cases hc
theorem evIt_ok : ∀ (ir : IT) {s : Sc} {X : Cx} {tg e : Expr} {ρ ρ' : En} {ds : List D}, XOk T tb k s X → chIt s ir tg e = true → evIt T ρ ir = some (ds, ρ') → SI tb X tg e ρ ds ρ'
  | .ex a, s, X, tg, e, ρ, ρ', ds, o, hc, h => by
    simp only [chIt] at hc
    simp only [evIt, Option.bind_eq_some_iff] at h
    obtain ⟨⟨oa, ρ1⟩, h1, ⟨d, ρ2⟩, h2, h3⟩ := h
    dsimp only at h3
    split at h3
    · cases h3
      exact si_ex (evE_ok a o hc h1) h2 (.inl rfl)
    · cases h3
      exact si_ex (evE_ok a o hc h1) h2 (.inr rfl)
    · cases h3
  | .r1 a, s, X, tg, e, ρ, ρ', ds, o, hc, h => by
    simp only [chIt] at hc
    split at hc
    · simp only [Bool.and_eq_true, decide_eq_true_eq] at hc
      obtain ⟨⟨rfl, c1⟩, c2⟩ := hc
      simp only [evIt, Option.bind_eq_some_iff] at h
      obtain ⟨⟨oa, ρ1⟩, h1, h3⟩ := h
      dsimp only at h3
      split at h3
      · split at h3
        · rename_i hv hj
          cases h3
          exact si_r1 o c1 (chE_ns c2) (evE_ok a o c2 h1) hv hj
        · cases h3
      · cases h3
    · cases hc
  | .r2 a b, s, X, tg, e, ρ, ρ', ds, o, hc, h => by
    simp only [chIt] at hc
    split at hc
    · simp only [Bool.and_eq_true, decide_eq_true_eq] at hc
      obtain ⟨⟨⟨rfl, c1⟩, c2⟩, c3⟩ := hc
      simp only [evIt, Option.bind_eq_some_iff] at h
      obtain ⟨⟨oa, ρ1⟩, h1, ⟨ob, ρ2⟩, h2, h3⟩ := h
      dsimp only at h3
      split at h3
      · split at h3
        · rename_i hv hv2 hj
          cases h3
          rw [Bool.and_eq_true] at hj
          exact si_r2 o c1 (chE_ns c2) (chE_ns c3) (evE_ok a o c2 h1) (evE_ok b o c3 h2) hv hv2 hj.1 hj.2
        · cases h3
      · cases h3
    · cases hc
  | .r3 es, s, X, tg, e, ρ, ρ', ds, o, hc, h => by
    simp only [chIt] at hc
    split at hc
    · simp only [Bool.and_eq_true, decide_eq_true_eq] at hc
      obtain ⟨⟨rfl, c1⟩, c2⟩ := hc
      simp only [evIt, Option.bind_eq_some_iff] at h
      obtain ⟨⟨ops, ρ1⟩, h1, h3⟩ := h
      dsimp only at h3
      split at h3
      · split at h3
        · rename_i hv hj
          cases h3
          rw [Bool.and_eq_true] at hj
          exact si_r3 o c1 (chEs_ns c2) (evEs_ok es o c2 h1) hv hj.1 hj.2
        · cases h3
      · cases h3
    · cases hc
  | .en a, s, X, tg, e, ρ, ρ', ds, o, hc, h => by
    simp only [chIt] at hc
    split at hc
    · simp only [Bool.and_eq_true, decide_eq_true_eq] at hc
      obtain ⟨⟨rfl, c1⟩, c2⟩ := hc
      simp only [evIt, Option.bind_eq_some_iff] at h
      obtain ⟨⟨oa, ρ1⟩, h1, ⟨d, ρ2⟩, h2, h3⟩ := h
      dsimp only at h3
      split at h3
      · cases h3
        exact si_en o c1 (chE_ns c2) (evE_ok a o c2 h1) h2
      · cases h3
        exact si_enT o c1 (chE_ns c2) (evE_ok a o c2 h1) h2
      · cases h3
    · cases hc
  | .zp a b, s, X, tg, e, ρ, ρ', ds, o, hc, h => by
    simp only [chIt] at hc
    split at hc
    · simp only [Bool.and_eq_true, decide_eq_true_eq] at hc
      obtain ⟨⟨⟨rfl, c1⟩, c2⟩, c3⟩ := hc
      simp only [evIt, Option.bind_eq_some_iff] at h
      obtain ⟨⟨oa, ρ1⟩, h1, ⟨ob, ρ2⟩, h2, ⟨l, ρ3⟩, h3, h4⟩ := h
      dsimp only at h3 h4
      split at h4
      · cases h4
        exact si_zp o c1 (chE_ns c2) (chE_ns c3) (evE_ok a o c2 h1) (evE_ok b o c3 h2) h3 (.inl ⟨rfl, rfl⟩)
      · cases h4
        exact si_zp o c1 (chE_ns c2) (chE_ns c3) (evE_ok a o c2 h1) (evE_ok b o c3 h2) h3 (.inr ⟨rfl, rfl⟩)
      · cases h4
        exact si_zp2 o c1 (chE_ns c2) (chE_ns c3) (evE_ok a o c2 h1) (evE_ok b o c3 h2) h3
      · cases h4
    · cases hc
  | .zp3 es, s, X, tg, e, ρ, ρ', ds, o, hc, h => by
    simp only [chIt] at hc
    split at hc
    · simp only [Bool.and_eq_true, decide_eq_true_eq] at hc
      obtain ⟨⟨rfl, c1⟩, c2⟩ := hc
      simp only [evIt, Option.bind_eq_some_iff] at h
      obtain ⟨⟨ops, ρ1⟩, h1, ⟨l, ρ2⟩, h2, h3⟩ := h
      dsimp only at h2 h3
      split at h3
      · cases h3
        exact si_zp3 o c1 (chEs_ns c2) (evEs_ok es o c2 h1) h2
      · cases h3
    · cases hc
  | .zps a, s, X, tg, e, ρ, ρ', ds, o, hc, h => by
    simp only [chIt] at hc
    split at hc
    · simp only [Bool.and_eq_true, decide_eq_true_eq] at hc
      obtain ⟨⟨rfl, c1⟩, c2⟩ := hc
      simp only [evIt, Option.bind_eq_some_iff] at h
      obtain ⟨⟨oa, ρ1⟩, h1, ⟨d, ρ2⟩, h2, h3⟩ := h
      dsimp only at h2 h3
      split at h3
      · cases h3
        exact si_zps o c1 (evE_ok a o c2 h1) h2
      · cases h3
    · cases hc
theorem bindT_ok : ∀ (t : Tg) {s : Sc} {X : Cx} {e : Expr} {ρ ρ' : En} {d : D}, XOk T tb k s X → chT s t e = true → bindT ρ t d = some ρ' → SG tb X e (tgIx t) ρ d ρ'
  | .nm i, s, X, e, ρ, ρ', d, o, hc, h => by
    unfold chT at hc
    split at hc
    · simp only [Bool.and_eq_true, decide_eq_true_eq] at hc
      simp only [bindT] at h
      simp only [tgIx]
      exact sg_nm o hc.1 hc.2 h
    · cases hc
  | .sub i ix, s, X, e, ρ, ρ', d, o, hc, h => by simp [bindT] at h
  | .tup ts, s, X, e, ρ, ρ', d, o, hc, h => by
    unfold chT at hc
    split at hc
    · simp only [bindT] at h
      split at h
      · simp only [tgIx]
        obtain ⟨h1, h2⟩ := bindTs_ok ts o hc h
        exact sg_tup o (chTs_ns hc) h1 h2
      · cases h
    · cases hc
theorem bindTs_ok : ∀ (ts : Tgs) {s : Sc} {X : Cx} {es : List Expr} {ρ ρ' : En} {ds : List D}, XOk T tb k s X → chTs s ts es = true → bindTs ρ ts ds = some ρ' → SGs tb X es (tgsIx ts) ρ ds ρ' ∧ es.length = ds.length
  | .nil, s, X, es, ρ, ρ', ds, o, hc, h => by
    unfold chTs at hc
    split at hc
    · simp only [bindTs] at h
      split at h
      · cases h
        simp only [tgsIx]
        exact ⟨sgs_nil, rfl⟩
      · cases h
    · cases hc
  | .cons t ts, s, X, es, ρ, ρ', ds, o, hc, h => by
    unfold chTs at hc
    split at hc
    · simp only [Bool.and_eq_true] at hc
      simp only [bindTs] at h
      split at h
      · simp only [Option.bind_eq_some_iff] at h
        obtain ⟨ρ1, h1, h2⟩ := h
        simp only [tgsIx]
        obtain ⟨h3, h4⟩ := bindTs_ok ts o hc.2 h2
        exact ⟨sgs_cons (chT_ns hc.1) (bindT_ok t o hc.1 h1) h3, by rw [List.length_cons, List.length_cons, h4]⟩
      · cases h
    · cases hc
end
end
end Ev

set_option maxHeartbeats 4000000
namespace Ev
open PySem PySem.Spec PyProof.Rows L2

/-! ### statements -/
def EndsOk (D : Ends) (K : PySem.W.Frag) (tb : List Addr) (pa : Nat → Addr) (B F : Hp) : Oc → Prop
  | .nx ρ' => ∀ F' σ' H', Sm F F' → Rel K tb pa B F' σ' H' ρ' → D.nx σ' H'
  | .rt d ρ' => ∀ v F' σ' H', Sm F F' → Rel K tb pa B F' σ' H' ρ' → Rp K F' v d → D.rt v H'
  | .rn ds ρ' => ∀ p ws F' σ' H', Sm F F' → Rel K tb pa B F' σ' H' ρ' → H' p = some (.lst ws) → F' p = none → B p = none → RpAll K F' ws ds → D.rt (.ref p) H'
  | .bk ρ' => ∀ F' σ' H', Sm F F' → Rel K tb pa B F' σ' H' ρ' → D.bk σ' H'
  | .ct ρ' => ∀ F' σ' H', Sm F F' → Rel K tb pa B F' σ' H' ρ' → D.ct σ' H'
theorem EndsOk.mono {D : Ends} {K : PySem.W.Frag} {tb : List Addr} {pa : Nat → Addr} {B F F' : Hp} {oc : Oc} (h : EndsOk D K tb pa B F oc) (s : Sm F F') : EndsOk D K tb pa B F' oc := by
  cases oc with
  | nx ρ' => exact fun F2 σ' H' s2 r => h F2 σ' H' (s.trans s2) r
  | rt d ρ' => exact fun v F2 σ' H' s2 r => h v F2 σ' H' (s.trans s2) r
  | rn ds ρ' => exact fun p ws F2 σ' H' s2 r => h p ws F2 σ' H' (s.trans s2) r
  | bk ρ' => exact fun F2 σ' H' s2 r => h F2 σ' H' (s.trans s2) r
  | ct ρ' => exact fun F2 σ' H' s2 r => h F2 σ' H' (s.trans s2) r
section
variable (tb : List Addr) (X : Cx)
def SS (st : Stmt) (ρ : En) (oc : Oc) : Prop := ∀ pa B F σ H, Rel X.K tb pa B F σ H ρ → ∀ D, EndsOk D X.K tb pa B F oc → WS X st D σ H
def SSs (sts : List Stmt) (ρ : En) (oc : Oc) : Prop := ∀ pa B F σ H, Rel X.K tb pa B F σ H ρ → ∀ D, EndsOk D X.K tb pa B F oc → WSs X sts D σ H
def SGo (tg : Expr) (ρ : En) (op : Op) (ρ' : En) : Prop := ∀ pa B F σ H x, Rel X.K tb pa B F σ H ρ → OpR X.K B F H σ ρ x op → ∀ Q : St → Hp → Prop, (∀ F' σ' H', Sm F F' → Rel X.K tb pa B F' σ' H' ρ' → Q σ' H') → WG X tg x σ H Q
end
section
variable {T : Tb} {tb : List Addr} {k : Nat} {s : Sc} {X : Cx} {a b c e tg : Expr} {es : List Expr} {ρ ρ1 ρ2 ρ3 : En} {oa ob oc op res : Op} {ops : List Op} {ds : List D} {d : D} {pa : Nat → Addr} {B F H : Hp} {σ : St} {pos : Pos} {r1 r2 : Bool} {st : Stmt} {sts : List Stmt} {out : Oc}

theorem sss_nil : SSs tb X [] ρ (.nx ρ) := fun pa B F σ H r D h => wss_of pss_nil (h F σ H (Sm.refl _) r)
theorem sss_nx (h1 : SS tb X st ρ (.nx ρ1)) (h2 : SSs tb X sts ρ1 out) : SSs tb X (st :: sts) ρ out := by
  intro pa B F σ H r D h
  refine wss_of (pss_cons (ps_ws X st) (pss_wss X sts)) (h1 pa B F σ H r _ fun F' σ' H' s' r' => ?_)
  exact h2 pa B F' σ' H' r' D (h.mono s')
theorem sss_end (h1 : SS tb X st ρ out) (hn : ∀ ρ', out ≠ .nx ρ') : SSs tb X (st :: sts) ρ out := by
  intro pa B F σ H r D h
  refine wss_of (pss_cons (ps_ws X st) (pss_wss X sts)) (h1 pa B F σ H r _ ?_)
  cases out with
  | nx ρ' => exact absurd rfl (hn ρ')
  | rt d ρ' => exact h
  | rn ds ρ' => exact h
  | bk ρ' => exact h
  | ct ρ' => exact h
theorem ss_pass : SS tb X (.Pass pos) ρ (.nx ρ) := fun pa B F σ H r D h => ws_of ps_pass (h F σ H (Sm.refl _) r)
theorem ss_brk : SS tb X (.Break pos) ρ (.bk ρ) := fun pa B F σ H r D h => ws_of ps_break (h F σ H (Sm.refl _) r)
theorem ss_cnt : SS tb X (.Continue pos) ρ (.ct ρ) := fun pa B F σ H r D h => ws_of ps_continue (h F σ H (Sm.refl _) r)
theorem ss_retN : SS tb X (.Return none pos) ρ (.rt .none ρ) := fun pa B F σ H r D h => ws_of ps_retN (h .non F σ H (Sm.refl _) r .non)
theorem ss_ret (ha : SE tb X a ρ op ρ1) (hk : keepOp ρ1 op = some (d, ρ2)) : SS tb X (.Return (some a) pos) ρ (.rt d ρ2) := by
  intro pa B F σ H r D h
  refine ws_of (ps_ret (pe_we X a)) (ha pa B F σ H r _ fun x F' H' s' r' o' => ?_)
  obtain ⟨F2, s2, r2, dp⟩ := keep_ok r' o' hk
  exact h x F2 σ H' (s'.trans s2) r2 dp
theorem ss_if {t : Bool} {p q : List Stmt} (hc : ST tb X c ρ t ρ1) (ht : t = true → SSs tb X p ρ1 out) (hf : t = false → SSs tb X q ρ1 out) : SS tb X (.If c p q pos) ρ out := by
  intro pa B F σ H r D h
  refine ws_of (ps_if (pt_wt X c) (pss_wss X p) (pss_wss X q)) (hc pa B F σ H r _ fun F' H' s' r' => ?_)
  cases t with
  | true => rw [if_pos rfl]; exact ht rfl pa B F' σ H' r' D (h.mono s')
  | false => rw [if_neg Bool.false_ne_true]; exact hf rfl pa B F' σ H' r' D (h.mono s')

/-! ### stores -/
theorem sgo_nm (o : XOk T tb k s X) {i : Nat} {x : Str} (hN : s.N[i]? = some x) (hs : stB s x = true) (h : stOp ρ i op = some ρ1) : SGo tb X (.Name x pos) ρ op ρ1 := by
  intro pa B F σ H y r oy Q q
  obtain ⟨h1, h2⟩ := stB_ok o hs
  refine wg_of (pg_name o.nd (by rw [o.nm]; exact hN) h1 h2) ?_
  cases op with
  | val d =>
    simp only [stOp, setE] at h
    split at h
    · rename_i hi
      cases h
      exact q F _ H (Sm.refl _) (r.store oy (of_decide_eq_true hi))
    · cases h
  | new ds =>
    simp only [stOp, setE] at h
    split at h
    · rename_i hi
      cases h
      obtain ⟨p, vs, rfl, hp, hf, hb, off, dp⟩ := oy
      exact q F _ H (Sm.refl _) (r.storeNew hp hf hb off dp (of_decide_eq_true hi))
    · cases h
  | slot j =>
    simp only [stOp, Option.bind_eq_some_iff] at h
    obtain ⟨⟨d, ρ'⟩, hk, h⟩ := h
    obtain ⟨F2, s2, r2, dp⟩ := keep_ok r oy hk
    simp only [setE] at h
    split at h
    · rename_i hi
      cases h
      exact q F2 _ H s2 (r2.store dp (of_decide_eq_true hi))
    · cases h
theorem ixN_rp {K : PySem.W.Frag} {xs : List V} {i : Int} {j : Nat} (r : RpAll K F xs ds) (h : ixN ds.length i = some j) : ixN xs.length i = some j := by rw [RpAll.length r]; exact h
theorem sgo_sub (o : XOk T tb k s X) {i : Nat} {x : Str} {ix : Expr} {px : Pos} {mt : Bool} {kk : Int} {j : Nat} {ρk : En} (hN : s.N[i]? = some x) (hv : visB s.sc x = true) (hx : okN x = true) (hs : noSlice ix = true)
    (hk : keepOp ρ op = some (d, ρk)) (hi : SE tb X ix ρk ob ρ1) (hd : viewOp ρ1 ob = some (.int kk)) (hl : ρ1[i]? = some (.o mt ds)) (hu : ∃ sl, ρk[i]? = some sl ∧ sl ≠ .u) (hj : ixN ds.length kk = some j) : SGo tb X (.Subscript (.Name x px) ix pos) ρ op (ρ1.set i (.o mt (ds.set j d))) := by
  intro pa B F σ H y r oy Q q
  obtain ⟨sl, u1, u2⟩ := hu
  refine wg_of (pg_sub (pe_we X _) (pe_we X ix) set_list (fun v => by cases ix <;> first | rfl | cases hs)) ?_
  obtain ⟨F2, s2, r2, dp⟩ := keep_ok r oy hk
  refine se_var (T := T) o hN hv hx u1 u2 pa B F2 σ H r2 _ fun z F3 H3 s3 r3 o3 => ?_
  refine hi.use r3 hd fun w F4 H4 s4 r4 v => ?_
  obtain ⟨p, vs, a1, m1, b1, c1, e1, f1⟩ := r4.sl i _ hl
  have o3 : σ[i]? = some (some z) := o3
  rw [a1] at o3
  cases o3
  refine ⟨p, vs, kk, j, rfl, v.intE, b1, ixN_rp f1 hj, ?_⟩
  exact q F4 σ _ ((s2.trans s3).trans s4) (r4.write hl a1 b1 (RpAll.set (Rp.mono (s3.trans s4) dp) j f1))
def SGov (tb : List Addr) (X : Cx) (es : List Expr) (ρ : En) (ds : List D) (ρ' : En) : Prop := ∀ pa B F σ H xs, Rel X.K tb pa B F σ H ρ → RpAll X.K F xs ds → ∀ Q : St → Hp → Prop, (∀ F' σ' H', Sm F F' → Rel X.K tb pa B F' σ' H' ρ' → Q σ' H') → WGs X es xs σ H Q
theorem sgov_nil : SGov tb X [] ρ [] ρ := fun pa B F σ H xs r rp Q q => by
  cases rp
  exact wgs_of pgs_nil ⟨rfl, q F σ H (Sm.refl _) r⟩
theorem sgov_cons (hn : noStar e = true) (h1 : SGo tb X e ρ (.val d) ρ1) (h2 : SGov tb X es ρ1 ds ρ2) : SGov tb X (e :: es) ρ (d :: ds) ρ2 := by
  intro pa B F σ H xs r rp Q q
  cases rp with
  | cons a rr =>
    refine wgs_of (pgs_cons (pg_wg X e) (pgs_wgs X es) (by rw [asg_cons hn]; rfl)) ⟨_, _, rfl, ?_⟩
    refine h1 pa B F σ H _ r a _ fun F1 σ1 H1 s1 r1 => ?_
    exact h2 pa B F1 σ1 H1 _ r1 (RpAll.mono s1 rr) _ fun F2 σ2 H2 s2 r2 => q F2 σ2 H2 (s1.trans s2) r2
theorem sgo_tup (o : XOk T tb k s X) {j : Nat} {ρk : En} (hn : ∀ e ∈ es, noStar e = true) (hk : keepOp ρ op = some (.tuple ds, ρk)) (h : SGov tb X es ρk ds ρ1) (hl : es.length = ds.length) : SGo tb X (.Tuple es j pos) ρ op ρ1 := by
  intro pa B F σ H y r oy Q q
  obtain ⟨h1, h2⟩ := asg_plain X.env hn
  obtain ⟨F2, s2, r2, dp⟩ := keep_ok r oy hk
  cases dp with
  | tup a b =>
    refine wg_of (pg_tup o.calm (pgs_wgs X es) h1 h2) ⟨_, _, rfl, SqT.mono r2.wf.fz a, by rw [RpAll.length b]; exact hl.symm, ?_⟩
    exact h pa B F2 σ H _ r2 b Q fun F' σ' H' s' r' => q F' σ' H' (s2.trans s') r'

/-- how an assignment is carried out -/
def swB (s : Sc) (x : Str) (px : Pos) (scope : Scope) (lp : Pos) : Bool := s.sc.names.lookup x == some .local && px.line == lp.line && !(scope.names.any fun (n, k) => n == x && (k == .local || k == .cell))
theorem bk_of {X : Cx} (h : X.env.scope.kind = .function) : X.env.blockKind = .function := by unfold Env.blockKind; rw [h]; rfl
theorem sw_lc (o : XOk T tb k s X) (hk : X.env.scope.kind = .function) {elt : Expr} {gs : List Comprehension} {scope : Scope} {lp px : Pos} {x : Str} {l : Nat} : swapsWith (.ListComp elt gs scope lp) (some (.Name x px)) l X.env = pure (swB s x px scope lp) := by
  show (pure (X.env.blockKind == .function && X.env.kindOf x == some .local && px.line == lp.line && !(scope.names.any fun (n, k) => n == x && (k == .local || k == .cell))) : Sem Bool) = _
  rw [bk_of hk]
  unfold Env.kindOf
  rw [o.sc]
  rfl
theorem sw_plain {e : Expr} (h : plainC e = true) (t : Option Expr) (l : Nat) (env : Env) : swapsWith e t l env = pure false := by
  cases e <;> first | rfl | cases h
def isTup : Expr → Bool
  | .Tuple .. => true
  | _ => false
theorem swS_name {x : Str} {p : Pos} (e : Expr) (env : Env) : swappedStores [.Name x p] e env = pure none := by cases e <;> rfl
theorem swS_sub {o i : Expr} {p : Pos} (e : Expr) (env : Env) : swappedStores [.Subscript o i p] e env = pure none := by cases e <;> rfl
theorem swS_tup {ts : List Expr} {j : Nat} {p : Pos} {e : Expr} (h : isTup e = false) (env : Env) : swappedStores [.Tuple ts j p] e env = pure none := by cases e <;> first | rfl | cases h
theorem ss_asg (hsw : swapsWith a (some tg) pos.line X.env = pure false) (hw : swappedStores [tg] a X.env = pure none) (hn : noStar tg = true) (ha : SE tb X a ρ op ρ1) (hg : SGo tb X tg ρ1 op ρ2) : SS tb X (.Assign [tg] a pos) ρ (.nx ρ2) := by
  intro pa B F σ H r D h
  refine ws_of (ps_asg (pe_we X a) (pg_wg X tg) hsw hw (by rw [asg_cons hn]; rfl)) (ha pa B F σ H r _ fun x F' H' s' r' o' => ?_)
  exact hg pa B F' σ H' x r' o' _ fun F2 σ2 H2 s2 r2 => h F2 σ2 H2 (s'.trans s2) r2
theorem ss_setLc (o : XOk T tb k s X) {i : Nat} {y : Str} {py : Pos} {elt tg iter : Expr} {ifs : List Expr} {scope : Scope} {own : List (Str × Nat)} {lp : Pos} {o2 : List D} (hN : s.N[i]? = some y) (hsw : swB s y py scope lp = true) (ok : BlkOk X.N X.env.scope scope own) (hfold : ∀ x, foldedSetIterable iter X.env x = pure x)
    (h : SLc tb X elt tg iter ifs scope (own.map (·.2)) ρ o2 ρ1) (hs : stOp ρ1 i (.new o2) = some ρ2) : SS tb X (.Assign [.Name y py] (.ListComp elt [⟨tg, iter, ifs, 0⟩] scope lp) pos) ρ (.nx ρ2) := by
  intro pa B F σ H r D hD pins s0 I
  have hloc : X.env.scope.names.lookup y = some .local := by
    unfold swB at hsw
    simp only [Bool.and_eq_true, beq_iff_eq] at hsw
    rw [o.sc]; exact hsw.1.1
  have hsw' : swapsWith (.ListComp elt [⟨tg, iter, ifs, 0⟩] scope lp) (some (.Name y py)) pos.line X.env = pure true := by rw [sw_lc o I.ok.kind, hsw]
  refine ws_of (ps_setLc o.calm o.nd (by rw [o.nm]; exact hN) hloc hsw' (pi_wi X tg iter) ok (pg_gB X scope tg) (pts_ttB X scope ifs) (pe_teB X scope elt) hfold) ?_ pins s0 I
  refine h pa B F σ H r _ fun x F' H' s' r' o' => ?_
  simp only [stOp, setE] at hs
  split at hs
  · rename_i hi
    cases hs
    obtain ⟨p, vs, rfl, hp, hf, hb, off, dp⟩ := o'
    exact hD F' _ H' s' (r'.storeNew hp hf hb off dp (of_decide_eq_true hi))
  · cases hs
def swK (s : Sc) (ts vs : List Expr) : Option (Option (List Str)) :=
  if (!(ts.length == 2 || ts.length == 3) || vs.length != ts.length) = true then some none
  else if (vs.any fun | .Starred .. => true | _ => false) = true then some none
  else
    let line := (ts.head?.map (·.pos.line)).getD 0
    let names := ts.filterMap fun
      | .Name id pos => if s.sc.names.lookup id == some .local && pos.line == line then some id else none
      | _ => none
    if (names.length != ts.length || names.eraseDups.length != names.length) = true then some none
    else if vs.all (foldedForSure 8) = true then some none
    else if vs.all (constantsAlone 8) = true then none
    else some (some names)
theorem swK_ok (o : XOk T tb k s X) (hk : X.env.scope.kind = .function) {ts vs : List Expr} {j j2 : Nat} {p p2 : Pos} {r : Option (List Str)} (h : swK s ts vs = some r) : swappedStores [.Tuple ts j p] (.Tuple vs j2 p2) X.env = pure r := by
  have hb := bk_of hk
  have e : swappedStores [.Tuple ts j p] (.Tuple vs j2 p2) X.env = (
    if (!(ts.length == 2 || ts.length == 3) || vs.length != ts.length || X.env.blockKind != .function) = true then pure none
    else if (vs.any fun | .Starred .. => true | _ => false) = true then pure none
    else
      let line := (ts.head?.map (·.pos.line)).getD 0
      let names := ts.filterMap fun
        | .Name id pos => if X.env.kindOf id == some .local && pos.line == line then some id else none
        | _ => none
      if (names.length != ts.length || names.eraseDups.length != names.length) = true then pure none
      else if vs.all (foldedForSure 8) = true then pure none
      else if vs.all (constantsAlone 8) = true then (do unsupported "assign.tuple-of-constant-expressions:order-of-the-stores"; pure (some names))
      else pure (some names)) := by
    unfold swappedStores
    rfl
  rw [e, hb]
  have hq : (ScopeKind.function != ScopeKind.function) = false := by decide
  rw [hq, Bool.or_false]
  unfold Env.kindOf
  rw [o.sc]
  unfold swK at h
  split at h
  · rename_i c; cases h; rw [if_pos c]
  · rename_i c
    rw [if_neg c]
    split at h
    · rename_i c; cases h; rw [if_pos c]
    · rename_i c
      rw [if_neg c]
      dsimp only at h ⊢
      split at h
      · rename_i c; cases h; rw [if_pos c]
      · rename_i c
        rw [if_neg c]
        split at h
        · rename_i c; cases h; rw [if_pos c]
        · rename_i c
          rw [if_neg c]
          split at h
          · cases h
          · rename_i c; cases h; rw [if_neg c]

/-! ### several names at once -/
def nonSlot : Op → Prop
  | .slot _ => False
  | _ => True
theorem settle_ok : ∀ {xs : List V} {os os' : List Op} {B : Hp} {ρ ρ' : En}, Rel X.K tb pa B F σ H ρ → OpRs X.K tb pa F H σ ρ B xs os → settle ρ os = some (os', ρ') → ∃ F', Sm F F' ∧ Rel X.K tb pa B F' σ H ρ' ∧ OpRs X.K tb pa F' H σ ρ' B xs os' ∧ ∀ o ∈ os', nonSlot o
  | [], [], os', B, ρ, ρ', r, _, e => by cases e; exact ⟨F, Sm.refl _, r, trivial, fun o h => by cases h⟩
  | x :: xs, o :: os, os', B, ρ, ρ', r, ⟨h, B1, s1, n1, r1, hs⟩, e => by
    simp only [settle, Option.bind_eq_some_iff, Option.map_eq_some_iff] at e
    obtain ⟨⟨os1, ρ1⟩, e1, ⟨o1, ρ2⟩, e2, e3⟩ := e
    cases e3
    obtain ⟨F1, sF, rF, osF, ns⟩ := settle_ok r1 hs e1
    have keep : o1 = o → ρ2 = ρ1 → nonSlot o → ∃ F', Sm F F' ∧ Rel X.K tb pa B F' σ H ρ2 ∧ OpRs X.K tb pa F' H σ ρ2 B (x :: xs) (o1 :: os1) ∧ ∀ o ∈ o1 :: os1, nonSlot o := fun q1 q2 no => by
      subst q1 q2
      exact ⟨F1, sF, rF.less s1, ⟨h.back n1 s1 r1 sF rF, B1, s1, n1, rF, osF⟩, fun o ho => (List.mem_cons.mp ho).elim (fun z => z ▸ no) (ns o)⟩
    cases o with
    | val d => cases e2; exact keep rfl rfl trivial
    | new ds => cases e2; exact keep rfl rfl trivial
    | slot j =>
      simp only [settle1, Option.map_eq_some_iff] at e2
      obtain ⟨⟨d, ρ3⟩, hk, e3⟩ := e2
      cases e3
      obtain ⟨B2, s2, r2, hold⟩ := OpRs.hold rF osF
      have h' : OpR X.K B2 F1 H σ ρ1 x (.slot j) := h
      obtain ⟨F2, sF2, rF2, dp⟩ := keep_ok r2 h' hk
      obtain ⟨a, b⟩ := hold F2 H _ sF2 rF2
      exact ⟨F2, sF.trans sF2, a.less s1, ⟨dp, B1, s1, (fun p ds e _ => by cases e), a, b⟩, fun o ho => (List.mem_cons.mp ho).elim (fun z => z ▸ trivial) (ns o)⟩
  | [], _ :: _, _, _, _, _, _, h, _ => h.elim
  | _ :: _, [], _, _, _, _, _, h, _ => h.elim
theorem store1 {x : V} {i : Nat} (r : Rel X.K tb pa B F σ H ρ) (oy : OpR X.K B F H σ ρ x op) (no : nonSlot op) (h : stOp ρ i op = some ρ1) : Rel X.K tb pa B F (σ.set i (some x)) H ρ1 := by
  cases op with
  | val d =>
    simp only [stOp, setE] at h
    split at h
    · rename_i hi
      cases h
      exact r.store oy (of_decide_eq_true hi)
    · cases h
  | new ds =>
    simp only [stOp, setE] at h
    split at h
    · rename_i hi
      cases h
      obtain ⟨p, vs, rfl, hp, hf, hb, off, dp⟩ := oy
      exact r.storeNew hp hf hb off dp (of_decide_eq_true hi)
    · cases h
  | slot j => exact no.elim
theorem OpR.back' {K : PySem.W.Frag} {B1 F' H' : Hp} {σ' : St} {ρ' : En} {x : V} {o : Op} (h : OpR K B F H σ ρ x o) (no : nonSlot o) (nw : NewIn B1 x o) (r1 : Rel K tb pa B1 F σ H ρ) (s : Sm F F') (r' : Rel K tb pa B1 F' σ' H' ρ') : OpR K B F' H' σ' ρ' x o := by
  cases o with
  | val d => exact Rp.mono s h
  | slot i => exact no.elim
  | new ds =>
    obtain ⟨p, vs, rfl, hp, hf, hb, off, dp⟩ := h
    have n1 := nw p ds rfl rfl
    obtain ⟨u, hu⟩ : ∃ u, B1 p = some u := by
      cases q : B1 p with
      | none => exact absurd q n1
      | some u => exact ⟨u, rfl⟩
    have e1 := (r1.wf.bg p u hu).1
    rw [hp] at e1; cases e1
    obtain ⟨a, b⟩ := r'.wf.bg p _ hu
    exact ⟨p, vs, rfl, a, b, hb, r'.off_bg hu, RpAll.mono s dp⟩
def setR (σ : St) : List Nat → List V → St
  | i :: r, x :: xs => (setR σ r xs).set i (some x)
  | _, _ => σ
theorem asgN_ok : ∀ {xs : List V} {os : List Op} {is : List Nat} {B : Hp} {ρ' : En}, Rel X.K tb pa B F σ H ρ → OpRs X.K tb pa F H σ ρ B xs os → (∀ o ∈ os, nonSlot o) → asgN ρ is os = some ρ' → Rel X.K tb pa B F (setR σ is xs) H ρ'
  | [], [], [], B, ρ', r, _, _, e => by cases e; exact r
  | x :: xs, o :: os, i :: is, B, ρ', r, ⟨h, B1, s1, n1, r1, hs⟩, ns, e => by
    simp only [asgN, Option.bind_eq_some_iff] at e
    obtain ⟨ρ1, e1, e2⟩ := e
    have r2 := asgN_ok r1 hs (fun o ho => ns o (List.mem_cons_of_mem _ ho)) e1
    have no := ns o List.mem_cons_self
    exact store1 (r2.less s1) (h.back' no n1 r1 (Sm.refl _) r2) no e2
  | [], [], _ :: _, _, _, _, _, _, e => by simp [asgN] at e
  | _ :: _, _ :: _, [], _, _, _, _, _, e => by simp [asgN] at e
  | [], _ :: _, _, _, _, _, h, _, _ => h.elim
  | _ :: _, [], _, _, _, _, h, _, _ => h.elim
theorem par_names {X : Cx} {s : Sc} (o : XOk T tb k s X) {x : Str} (h : (s.sc.names.lookup x == some .local) = true) : X.env.scope.names.lookup x = some .local := by
  rw [o.sc]; exact eq_of_beq h
theorem ss_par2 (o : XOk T tb k s X) {i j : Nat} {x y : Str} {px py pt pt2 : Pos} {kt k2 : Nat} {os' : List Op} (hN : s.N[i]? = some x) (hM : s.N[j]? = some y) (hij : i ≠ j) (hx : (s.sc.names.lookup x == some .local) = true) (hy : (s.sc.names.lookup y == some .local) = true)
    (hw : swK s [.Name x px, .Name y py] [a, b] = some (some [x, y])) (ha : SA tb X [a, b] ρ ops ρ1) (hs : settle ρ1 ops = some (os', ρ2)) (hg : asgN ρ2 [i, j] os' = some ρ3) :
    SS tb X (.Assign [.Tuple [.Name x px, .Name y py] kt pt] (.Tuple [a, b] k2 pt2) pos) ρ (.nx ρ3) := by
  intro pa B F σ H r D h pins s0 I
  refine ws_of (ps_par o.calm o.nd (by rw [o.nm]; exact hN) (by rw [o.nm]; exact hM) hij (par_names o hx) (par_names o hy) (pa_wa X [a, b]) (swK_ok o I.ok.kind hw)) ?_ pins s0 I
  refine ha pa B F σ H r _ fun xs F' H' s' r' os => ?_
  obtain ⟨F2, s2, r2, os2, ns⟩ := settle_ok r' os hs
  have r3 := asgN_ok r2 os2 ns hg
  match xs, os', os2, hg with
  | [v, w], [o1, o2], _, _ =>
    refine ⟨v, w, rfl, ?_⟩
    refine h F2 _ H' (s'.trans s2) ?_
    rw [List.set_comm _ _ hij]
    exact r3
  | [], [], _, hg => simp [asgN] at hg
  | [_], [_], _, hg => simp [asgN] at hg
  | _ :: _ :: _ :: _, _ :: _ :: _ :: _, _, hg => simp [asgN] at hg
theorem ss_par3 (o : XOk T tb k s X) {i j l : Nat} {x y z : Str} {px py pz pt pt2 : Pos} {kt k2 : Nat} {os' : List Op} (hN : s.N[i]? = some x) (hM : s.N[j]? = some y) (hL : s.N[l]? = some z) (hij : i ≠ j) (hil : i ≠ l) (hjl : j ≠ l) (hx : (s.sc.names.lookup x == some .local) = true) (hy : (s.sc.names.lookup y == some .local) = true) (hz : (s.sc.names.lookup z == some .local) = true)
    (hw : swK s [.Name x px, .Name y py, .Name z pz] [a, b, c] = some (some [x, y, z])) (ha : SA tb X [a, b, c] ρ ops ρ1) (hs : settle ρ1 ops = some (os', ρ2)) (hg : asgN ρ2 [i, j, l] os' = some ρ3) :
    SS tb X (.Assign [.Tuple [.Name x px, .Name y py, .Name z pz] kt pt] (.Tuple [a, b, c] k2 pt2) pos) ρ (.nx ρ3) := by
  intro pa B F σ H r D h pins s0 I
  refine ws_of (ps_par3 o.calm o.nd (by rw [o.nm]; exact hN) (by rw [o.nm]; exact hM) (by rw [o.nm]; exact hL) hij hil hjl (par_names o hx) (par_names o hy) (par_names o hz) (pa_wa X [a, b, c]) (swK_ok o I.ok.kind hw)) ?_ pins s0 I
  refine ha pa B F σ H r _ fun xs F' H' s' r' os => ?_
  obtain ⟨F2, s2, r2, os2, ns⟩ := settle_ok r' os hs
  have r3 := asgN_ok r2 os2 ns hg
  match xs, os', os2, hg with
  | [u, v, w], [o1, o2, o3], _, _ =>
    refine ⟨u, v, w, rfl, ?_⟩
    refine h F2 _ H' (s'.trans s2) ?_
    have e : ((σ.set i (some u)).set j (some v)).set l (some w) = ((σ.set l (some w)).set j (some v)).set i (some u) := by
      rw [List.set_comm (some u) (some v) hij, List.set_comm (some u) (some w) hil, List.set_comm (some v) (some w) hjl]
    rw [e]
    exact r3
  | [], [], _, hg => simp [asgN] at hg
  | [_], [_], _, hg => simp [asgN] at hg
  | [_, _], [_, _], _, hg => simp [asgN] at hg
  | _ :: _ :: _ :: _ :: _, _ :: _ :: _ :: _ :: _, _, hg => simp [asgN] at hg

theorem OpR.laid {K : PySem.W.Frag} {x : V} {o : Op} {p : Addr} {u : HO} (h : OpR K B F H σ ρ x o) (hp : H p = none) : OpR K B F (upd H p u) σ ρ x o := by
  cases o with
  | val d => exact h
  | slot i => exact h
  | new ds =>
    obtain ⟨q, vs, rfl, hq, hf, hb, off, dp⟩ := h
    exact ⟨q, vs, rfl, Sm.upd hp q _ hq, hf, hb, off, dp⟩
theorem OpRs.laid {K : PySem.W.Frag} {p : Addr} {u : HO} (hp : H p = none) : ∀ {xs : List V} {os : List Op} {B : Hp}, OpRs K tb pa F H σ ρ B xs os → OpRs K tb pa F (upd H p u) σ ρ B xs os
  | [], [], _, h => h
  | _ :: _, _ :: _, _, ⟨h, B1, s1, n1, r1, hs⟩ => ⟨h.laid hp, B1, s1, n1, r1.laid hp u, OpRs.laid hp hs⟩
  | [], _ :: _, _, h => h.elim
  | _ :: _, [], _, h => h.elim
/-- two names at once, by a tuple that is laid -/
theorem ss_par2t (o : XOk T tb k s X) {i j : Nat} {x y : Str} {px py pt pt2 : Pos} {kt k2 : Nat} {os' : List Op} (hN : s.N[i]? = some x) (hM : s.N[j]? = some y) (hij : i ≠ j) (hx : stB s x = true) (hy : stB s y = true)
    (hw : swK s [.Name x px, .Name y py] [a, b] = some none) (ha : SA tb X [a, b] ρ ops ρ1) (hs : settle ρ1 ops = some (os', ρ2)) (hg : asgN ρ2 [i, j] os' = some ρ3) :
    SS tb X (.Assign [.Tuple [.Name x px, .Name y py] kt pt] (.Tuple [a, b] k2 pt2) pos) ρ (.nx ρ3) := by
  intro pa B F σ H r D h pins s0 I
  obtain ⟨x1, x2⟩ := stB_ok o hx
  obtain ⟨y1, y2⟩ := stB_ok o hy
  have ns : ∀ e ∈ [Expr.Name x px, .Name y py], noStar e = true := fun e he => by
    rcases List.mem_cons.mp he with rfl | he
    · rfl
    · rcases List.mem_cons.mp he with rfl | he
      · rfl
      · cases he
  obtain ⟨h1, h2⟩ := asg_plain X.env ns
  refine ws_of (ps_asg (pe_we X _) (pg_wg X _) rfl (swK_ok o I.ok.kind hw) (by rw [asg_cons rfl]; rfl)) ?_ pins s0 I
  refine we_of (pe_tup (pa_wa X [a, b])) (ha pa B F σ H r _ fun xs F' H' s' r' os => ?_)
  obtain ⟨F2, s2, r2, os2, nsl⟩ := settle_ok r' os hs
  match xs, os', os2, hg with
  | [v, w], [o1, o2], os2, hg =>
    refine ⟨by show 2 ≤ sizeLine; decide, fun p hp => ?_⟩
    have r3 := asgN_ok (r2.laid hp (.tup [v, w])) (os2.laid hp) nsl hg
    refine wg_of (pg_tup o.calm (pgs_wgs X _) h1 h2) ⟨_, _, rfl, SqT.of upd_same, rfl, ?_⟩
    refine wgs_of (pgs_cons (pg_wg X _) (pgs_wgs X _) (by rw [asg_cons rfl]; rfl)) ⟨_, _, rfl, ?_⟩
    refine wg_of (pg_name o.nd (by rw [o.nm]; exact hN) x1 x2) ?_
    refine wgs_of (pgs_cons (pg_wg X _) (pgs_wgs X _) (by rw [asg_cons rfl]; rfl)) ⟨_, _, rfl, ?_⟩
    refine wg_of (pg_name o.nd (by rw [o.nm]; exact hM) y1 y2) ?_
    refine wgs_of pgs_nil ⟨rfl, ?_⟩
    refine h F2 _ _ (s'.trans s2) ?_
    rw [List.set_comm _ _ hij]
    exact r3
  | [], [], _, hg => simp [asgN] at hg
  | [_], [_], _, hg => simp [asgN] at hg
  | _ :: _ :: _ :: _, _ :: _ :: _ :: _, _, hg => simp [asgN] at hg

theorem ss_par3t (o : XOk T tb k s X) {i j l : Nat} {x y z : Str} {px py pz pt pt2 : Pos} {kt k2 : Nat} {os' : List Op} (hN : s.N[i]? = some x) (hM : s.N[j]? = some y) (hL : s.N[l]? = some z) (hij : i ≠ j) (hil : i ≠ l) (hjl : j ≠ l) (hx : stB s x = true) (hy : stB s y = true) (hz : stB s z = true)
    (hw : swK s [.Name x px, .Name y py, .Name z pz] [a, b, c] = some none) (ha : SA tb X [a, b, c] ρ ops ρ1) (hs : settle ρ1 ops = some (os', ρ2)) (hg : asgN ρ2 [i, j, l] os' = some ρ3) :
    SS tb X (.Assign [.Tuple [.Name x px, .Name y py, .Name z pz] kt pt] (.Tuple [a, b, c] k2 pt2) pos) ρ (.nx ρ3) := by
  intro pa B F σ H r D h pins s0 I
  obtain ⟨x1, x2⟩ := stB_ok o hx
  obtain ⟨y1, y2⟩ := stB_ok o hy
  obtain ⟨z1, z2⟩ := stB_ok o hz
  have ns : ∀ e ∈ [Expr.Name x px, .Name y py, .Name z pz], noStar e = true := fun e he => by
    simp only [List.mem_cons, List.not_mem_nil, or_false] at he
    rcases he with rfl | rfl | rfl <;> rfl
  obtain ⟨h1, h2⟩ := asg_plain X.env ns
  refine ws_of (ps_asg (pe_we X _) (pg_wg X _) rfl (swK_ok o I.ok.kind hw) (by rw [asg_cons rfl]; rfl)) ?_ pins s0 I
  refine we_of (pe_tup (pa_wa X [a, b, c])) (ha pa B F σ H r _ fun xs F' H' s' r' os => ?_)
  obtain ⟨F2, s2, r2, os2, nsl⟩ := settle_ok r' os hs
  match xs, os', os2, hg with
  | [u, v, w], [o1, o2, o3], os2, hg =>
    refine ⟨by show 3 ≤ sizeLine; decide, fun p hp => ?_⟩
    have r3 := asgN_ok (r2.laid hp (.tup [u, v, w])) (os2.laid hp) nsl hg
    refine wg_of (pg_tup o.calm (pgs_wgs X _) h1 h2) ⟨_, _, rfl, SqT.of upd_same, rfl, ?_⟩
    refine wgs_of (pgs_cons (pg_wg X _) (pgs_wgs X _) (by rw [asg_cons rfl]; rfl)) ⟨_, _, rfl, ?_⟩
    refine wg_of (pg_name o.nd (by rw [o.nm]; exact hN) x1 x2) ?_
    refine wgs_of (pgs_cons (pg_wg X _) (pgs_wgs X _) (by rw [asg_cons rfl]; rfl)) ⟨_, _, rfl, ?_⟩
    refine wg_of (pg_name o.nd (by rw [o.nm]; exact hM) y1 y2) ?_
    refine wgs_of (pgs_cons (pg_wg X _) (pgs_wgs X _) (by rw [asg_cons rfl]; rfl)) ⟨_, _, rfl, ?_⟩
    refine wg_of (pg_name o.nd (by rw [o.nm]; exact hL) z1 z2) ?_
    refine wgs_of pgs_nil ⟨rfl, ?_⟩
    refine h F2 _ _ (s'.trans s2) ?_
    have e : ((σ.set i (some u)).set j (some v)).set l (some w) = ((σ.set l (some w)).set j (some v)).set i (some u) := by
      rw [List.set_comm (some u) (some v) hij, List.set_comm (some u) (some w) hil, List.set_comm (some v) (some w) hjl]
    rw [e]
    exact r3
  | [], [], _, hg => simp [asgN] at hg
  | [_], [_], _, hg => simp [asgN] at hg
  | [_, _], [_, _], _, hg => simp [asgN] at hg
  | _ :: _ :: _ :: _ :: _, _ :: _ :: _ :: _ :: _, _, hg => simp [asgN] at hg

/-! ### augmented -/
theorem ip_augI {op : Operator} {i j m : Int} (h : augI op i j = some m) : ∃ ti : TIp, PIp X op ti ∧ ∀ H (Q : VK), Q (.int m) H → ti (.int i) (.int j) H Q := by
  cases op with
  | Add => cases h; exact ⟨_, ip_add, fun H Q q => ⟨i, j, rfl, rfl, q⟩⟩
  | Sub => cases h; exact ⟨_, ip_sub, fun H Q q => ⟨i, j, rfl, rfl, q⟩⟩
  | Mult =>
    simp only [augI] at h
    split at h
    · rename_i hm
      cases h
      have hok : IntMulOk i j := by
        unfold mulOk at hm
        simp only [Bool.or_eq_true, decide_eq_true_eq] at hm
        rcases hm with z | z | z
        · exact CMul.ok (.inl z)
        · exact CMul.ok (.inr z)
        · exact CMulW.ok z
      refine ⟨fun x y H Q => x = .int i ∧ y = .int j ∧ Q (.int (i * j)) H, fun pins s σ H x y v u Q I r1 r2 h => ?_, fun H Q q => ⟨rfl, rfl, q⟩⟩
      obtain ⟨rfl, rfl, q⟩ := h
      obtain ⟨t, rfl⟩ := r1
      obtain ⟨t', rfl⟩ := r2
      exact imul_int ⟨.int _, H, I.tok _, ⟨_, rfl⟩, q⟩ hok
    · cases h
  | FloorDiv =>
    simp only [augI] at h
    split at h
    · rename_i hm
      cases h
      unfold divOk at hm
      have hm : 0 < j ∧ j.natAbs.log2 < 9000 := of_decide_eq_true hm
      refine ⟨fun x y H Q => x = .int i ∧ y = .int j ∧ Q (.int (i / j)) H, fun pins s σ H x y v u Q I r1 r2 h => ?_, fun H Q q => ⟨rfl, rfl, q⟩⟩
      obtain ⟨rfl, rfl, q⟩ := h
      obtain ⟨t, rfl⟩ := r1
      obtain ⟨t', rfl⟩ := r2
      have h1 := hm.1
      exact ifloordiv_int (by omega) (by rw [Int.fdiv_eq_ediv_of_nonneg i (by omega)]; exact ⟨.int _, H, I.tok _, ⟨_, rfl⟩, q⟩) (.inl (PyProof.noPylong_of_log2 hm.2))
    · cases h
  | _ => cases h
theorem intE_eq {o : Op} {i : Int} (h : intE ρ o = some i) : viewOp ρ o = some (.int i) := by
  unfold intE at h
  split at h
  · rename_i q; cases h; exact q
  · cases h
theorem ss_aug (o : XOk T tb k s X) {i : Nat} {x : Str} {px : Pos} {opr : Operator} {u v z : Int} (hN : s.N[i]? = some x) (hs : stB s x = true) (hu : intE ρ (.slot i) = some u) (ha : SE tb X a ρ op ρ1) (hv : intE ρ1 op = some v) (hz : augI opr u v = some z) (h : setE ρ1 i (.v (.int z)) = some ρ2) :
    SS tb X (.AugAssign (.Name x px) opr a pos) ρ (.nx ρ2) := by
  intro pa B F σ H r D hD
  obtain ⟨h1, h2⟩ := stB_ok o hs
  obtain ⟨ti, hti, hq⟩ := ip_augI (X := X) hz
  have hu' := intE_eq hu
  simp only [viewOp] at hu'
  have hx : σ[i]? = some (some (.int u)) := by
    split at hu'
    · rename_i d hd
      cases hu'
      obtain ⟨y, e1, e2⟩ := r.sl i _ hd
      cases e2
      exact e1
    · rename_i hd; cases hu'
    · cases hu'
  refine ws_of (ps_aug o.nd (by rw [o.nm]; exact hN) h1 (pe_we X a) hti h2) ⟨_, hx, ?_⟩
  refine ha.use r (intE_eq hv) fun y F' H' s' r' vw => ?_
  rw [vw.intE]
  refine hq _ _ ?_
  simp only [setE] at h
  split at h
  · rename_i hi
    cases h
    exact hD F' _ H' s' (r'.store (.int z) (of_decide_eq_true hi))
  · cases h
theorem ss_augS (o : XOk T tb k s X) {i j j2 : Nat} {x : Str} {px tpos : Pos} {ix : Expr} {opr : Operator} {kk u v z : Int} {mt mt0 mt2 : Bool} {ds0 ds2 : List D} (hN : s.N[i]? = some x) (hv' : visB s.sc x = true) (hx : okN x = true) (hs : noSlice ix = true) (h0 : ρ[i]? = some (.o mt0 ds0))
    (hi : SE tb X ix ρ oa ρ1) (hk : intE ρ1 oa = some kk) (hl : ρ1[i]? = some (.o mt ds)) (hj : ixN ds.length kk = some j) (hu : ds[j]? = some (.int u)) (ha : SE tb X a ρ1 op ρ2) (hv : intE ρ2 op = some v) (hz : augI opr u v = some z) (hl2 : ρ2[i]? = some (.o mt2 ds2)) (hj2 : ixN ds2.length kk = some j2) :
    SS tb X (.AugAssign (.Subscript (.Name x px) ix tpos) opr a pos) ρ (.nx (ρ2.set i (.o mt2 (ds2.set j2 (.int z))))) := by
  intro pa B F σ H r D hD
  obtain ⟨ti, hti, hq⟩ := ip_augI (X := X) hz
  refine ws_of (ps_augS (pe_we X _) (pe_we X ix) pget_list (pe_we X a) hti set_list (fun ov iv new => by cases ix <;> first | rfl | cases hs)) ?_
  refine se_var (T := T) o hN hv' hx h0 (fun z => by cases z) pa B F σ H r _ fun y F1 H1 s1 r1 o1 => ?_
  refine hi.use r1 (intE_eq hk) fun w F2 H2 s2 r2 vw => ?_
  obtain ⟨p, vs, a1, m1, b1, c1, e1, f1⟩ := r2.sl i _ hl
  have o1 : σ[i]? = some (some y) := o1
  rw [a1] at o1
  cases o1
  obtain ⟨xx, g1, g2⟩ := RpAll.get f1 hu
  refine ⟨p, vs, kk, j, xx, rfl, vw.intE, .inl (.inl b1), ixN_rp f1 hj, g1, ?_⟩
  cases g2
  refine ha.use r2 (intE_eq hv) fun y F3 H3 s3 r3 vy => ?_
  rw [vy.intE]
  refine hq _ _ ?_
  obtain ⟨p', vs', a1', m1', b1', c1', e1', f1'⟩ := r3.sl i _ hl2
  rw [a1] at a1'
  cases a1'
  refine ⟨p, vs', kk, j2, rfl, vw.intE, b1', ixN_rp f1' hj2, ?_⟩
  exact hD F3 σ _ ((s1.trans s2).trans s3) (r3.write hl2 a1 b1' (RpAll.set (.int z) j2 f1'))

/-! ### append -/
theorem ss_app (o : XOk T tb k s X) {i : Nat} {x : Str} {px apos cpos : Pos} {mt0 mt : Bool} {ds0 : List D} {ρk : En} (hN : s.N[i]? = some x) (hv : visB s.sc x = true) (hx : okN x = true) (hn : noStar a = true) (hline : (apos.endLine == cpos.line) = true) (h0 : ρ[i]? = some (.o mt0 ds0))
    (ha : SE tb X a ρ op ρ1) (hk : keepOp ρ1 op = some (d, ρk)) (hl : ρk[i]? = some (.o mt ds)) (hz : ds.length < sizeLine) : SS tb X (.Expr (.Call (.Attribute (.Name x px) "append" apos) [a] [] cpos) pos) ρ (.nx (ρk.set i (.o mt (ds ++ [d])))) := by
  intro pa B F σ H r D hD
  have hst := noStar_eq hn [] X.env
  refine ws_of (ps_expr (pe_bm PySem.F.plainAttrs_list PySem.F.slot_list_append PySem.F.type_list_append mt_append (pe_we X _) (pa_wa X [a]) rfl (by rw [hst]; rfl) hline hst rfl)) ?_
  refine se_var (T := T) o hN hv hx h0 (fun z => by cases z) pa B F σ H r _ fun y F1 H1 s1 r1 o1 => ?_
  obtain ⟨p0, vs0, a0, m0, b0, c0, e0, f0⟩ := r1.sl i _ h0
  have o1 : σ[i]? = some (some y) := o1
  rw [a0] at o1
  cases o1
  refine ⟨.inl ⟨rfl, _, .inl (.inl b0)⟩, ?_⟩
  refine sa_cons hn ha sa_nil pa B F1 σ H1 r1 _ fun xs F2 H2 s2 r2 os => ?_
  match xs, os with
  | [xv], ⟨ov, B1, sB, nB, rB, _⟩ =>
    obtain ⟨F3, s3, r3, dp⟩ := keep_ok r2 ov hk
    obtain ⟨p, vs, a1, m1, b1, c1, e1, f1⟩ := r3.sl i _ hl
    rw [a0] at a1
    cases a1
    refine ⟨p0, vs, xv, rfl, rfl, b1, by rw [RpAll.length f1]; exact hz, ?_⟩
    exact hD F3 σ _ ((s1.trans s2).trans s3) (r3.write hl a0 b1 (RpAll.append f1 (.cons dp .nil)))
theorem ss_exp (hp : plainC a = true) (ha : SE tb X a ρ op ρ1) : SS tb X (.Expr a pos) ρ (.nx ρ1) := by
  intro pa B F σ H r D hD
  refine ws_of (ps_expr (pe_we X a) (sw_plain hp _ _ _)) (ha pa B F σ H r _ fun x F' H' s' r' o' => ?_)
  exact hD F' σ H' s' r'
theorem ss_retM (ha : SE tb X a ρ (.new ds) ρ1) : SS tb X (.Return (some a) pos) ρ (.rn ds ρ1) := by
  intro pa B F σ H r D h
  refine ws_of (ps_ret (pe_we X a)) (ha pa B F σ H r _ fun x F' H' s' r' o' => ?_)
  obtain ⟨p, vs, rfl, hp, hf, hb, off, dp⟩ := o'
  exact h p vs F' σ H' s' r' hp hf hb dp
end
end Ev

set_option maxHeartbeats 4000000
namespace Ev
open PySem PySem.Spec PyProof.Rows L2

section
variable {T : Tb} {tb : List Addr} {k : Nat} {s : Sc} {X : Cx} {a b c e tg iter : Expr} {es : List Expr} {ρ ρ1 ρ2 ρ3 : En} {oa ob oc op res : Op} {ops : List Op} {ds : List D} {d : D} {pa : Nat → Addr} {B F H : Hp} {σ : St} {pos : Pos} {r1 r2 : Bool} {st : Stmt} {sts body : List Stmt} {out : Oc}

/-! ### loops -/
theorem ss_whl (o : XOk T tb k s X) {cf : En → Option (Bool × En)} {bf : En → Option Oc} {n : Nat} (hc : ∀ ρ b ρ', cf ρ = some (b, ρ') → ST tb X c ρ b ρ') (hb : ∀ ρ oc, bf ρ = some oc → SSs tb X body ρ oc) (h : evWhl cf bf n ρ = some out) : SS tb X (.While c body [] pos) ρ out := by
  intro pa B F σ H r D hD
  refine ws_of (ps_while o.own (pt_wt X c) (pss_wss X body)) ⟨fun m σ' H' => ∃ F' ρa, Sm F F' ∧ Rel X.K tb pa B F' σ' H' ρa ∧ evWhl cf bf m ρa = some out, ⟨n, F, ρ, Sm.refl _, r, h⟩, ?_⟩
  rintro m σ1 H1 ⟨F1, ρa, s1, r1, ev⟩
  cases m with
  | zero => simp [evWhl] at ev
  | succ m =>
    simp only [evWhl] at ev
    split at ev
    · rename_i ρ1 h1
      cases ev
      refine hc _ _ _ h1 pa B F1 σ1 H1 r1 _ fun F2 H2 s2 r2 => ?_
      rw [if_neg Bool.false_ne_true]
      exact hD F2 σ1 H2 (s1.trans s2) r2
    · rename_i ρ1 h1
      refine hc _ _ _ h1 pa B F1 σ1 H1 r1 _ fun F2 H2 s2 r2 => ?_
      rw [if_pos rfl]
      refine ⟨fun σ' H' => ∃ F' ρa, Sm F F' ∧ Rel X.K tb pa B F' σ' H' ρa ∧ evWhl cf bf m ρa = some out, fun σ' H' z => ⟨m, Nat.lt_succ_self m, z⟩, ?_⟩
      have sF := s1.trans s2
      cases hq : bf ρ1 with
      | none => rw [hq] at ev; cases ev
      | some oc =>
        rw [hq] at ev
        refine hb _ _ hq pa B F2 σ1 H2 r2 _ ?_
        cases oc with
        | nx ρ2 => exact fun F3 σ3 H3 s3 r3 => ⟨F3, ρ2, sF.trans s3, r3, ev⟩
        | ct ρ2 => exact fun F3 σ3 H3 s3 r3 => ⟨F3, ρ2, sF.trans s3, r3, ev⟩
        | bk ρ2 => cases ev; exact fun F3 σ3 H3 s3 r3 => hD F3 σ3 H3 (sF.trans s3) r3
        | rt d ρ2 => cases ev; exact fun v F3 σ3 H3 s3 r3 rv => hD v F3 σ3 H3 (sF.trans s3) r3 rv
        | rn d ρ2 => cases ev; exact fun p ws F3 σ3 H3 s3 r3 => hD p ws F3 σ3 H3 (sF.trans s3) r3
    · cases ev
theorem ss_for (o : XOk T tb k s X) {ix : List Nat} {f : D → En → Option Oc} (hi : SI tb X tg iter ρ ds ρ1) (hfold : ∀ x, foldedSetIterable iter X.env x = pure x)
    (hb : ∀ x ρ oc, f x ρ = some oc → ∃ ρ2, SG tb X tg ix ρ x ρ2 ∧ SSs tb X body ρ2 oc) (h : evFor f ds ρ1 = some out) : SS tb X (.For tg iter body [] pos) ρ out := by
  intro pa B F σ H r D hD
  refine ws_of (ps_for o.own o.calm (pi_wi X tg iter) (pg_wg X tg) (pss_wss X body) hfold) ?_
  refine hi pa B F σ H r _ fun J F1 H1 s1 r1 wk => ?_
  refine ⟨fun i m σ' H' => m = ds.length - i ∧ ∃ F' ρa, Sm F1 F' ∧ Rel X.K tb pa B F' σ' H' ρa ∧ evFor f (ds.drop i) ρa = some out, ⟨_, rfl, F1, ρ1, Sm.refl _, r1, h⟩, ?_⟩
  rintro i m σ2 H2 ⟨rfl, F2, ρa, s2, r2, ev⟩
  by_cases hi2 : i < ds.length
  · have m2 : Sm F1 H2 := s2.trans r2.wf.fz
    refine .inr ⟨wk.go i H2 m2 hi2, fun σ' H' => ∃ F' ρa, Sm F1 F' ∧ Rel X.K tb pa B F' σ' H' ρa ∧ evFor f (ds.drop (i + 1)) ρa = some out, fun σ' H' z => ⟨ds.length - (i + 1), by omega, rfl, z⟩, fun x H3 hy => ?_⟩
    have hd : ds[i]? = some ds[i] := List.getElem?_eq_getElem hi2
    rw [List.drop_eq_getElem_cons hi2] at ev
    simp only [evFor] at ev
    obtain ⟨F3, s3, sH3, r3, dx⟩ := Yld.ok (tb := tb) (F := F2) (H := H2) (by
      rcases wk.yld i H2 x H3 _ m2 hd hy with ⟨a, b⟩ | ⟨p, ws, ds', a, b, c, e, g⟩
      · exact .inl ⟨a, Rp.mono s2 b⟩
      · exact .inr ⟨p, ws, ds', a, b, c, e, RpAll.mono s2 g⟩) r2
    have sF : Sm F F3 := (s1.trans s2).trans s3
    cases hq : f ds[i] ρa with
    | none => rw [hq] at ev; cases ev
    | some oc =>
      rw [hq] at ev
      obtain ⟨ρ2, h1, h2⟩ := hb _ _ _ hq
      refine h1 pa B F3 σ2 H3 x r3 dx _ fun σ3 r4 _ => ?_
      refine h2 pa B F3 σ3 H3 r4 _ ?_
      cases oc with
      | nx ρ2 => exact fun F4 σ4 H4 s4 r5 => ⟨F4, ρ2, (s2.trans s3).trans s4, r5, ev⟩
      | ct ρ2 => exact fun F4 σ4 H4 s4 r5 => ⟨F4, ρ2, (s2.trans s3).trans s4, r5, ev⟩
      | bk ρ2 => cases ev; exact fun F4 σ4 H4 s4 r5 => hD F4 σ4 H4 (sF.trans s4) r5
      | rt d ρ2 => cases ev; exact fun v F4 σ4 H4 s4 r5 rv => hD v F4 σ4 H4 (sF.trans s4) r5 rv
      | rn d ρ2 => cases ev; exact fun p ws F4 σ4 H4 s4 r5 => hD p ws F4 σ4 H4 (sF.trans s4) r5
  · have hdr : ds.drop i = [] := List.drop_eq_nil_of_le (by omega)
    rw [hdr] at ev
    cases ev
    exact .inl ⟨wk.stop i H2 (s2.trans r2.wf.fz) (by omega), hD F2 σ2 H2 (s1.trans s2) r2⟩

/-! ### targets of statements -/
mutual
theorem asgT_ok : ∀ (t : Tg) {s : Sc} {X : Cx} {e : Expr} {ρ ρ' : En} {op : Op}, XOk T tb k s X → chT s t e = true → asgT T ρ t op = some ρ' → SGo tb X e ρ op ρ'
  | .nm i, s, X, e, ρ, ρ', op, o, hc, h => by
    unfold chT at hc
    split at hc
    · simp only [Bool.and_eq_true, decide_eq_true_eq] at hc
      simp only [asgT] at h
      exact sgo_nm o hc.1 hc.2 h
    · cases hc
  | .sub i ix, s, X, e, ρ, ρ', op, o, hc, h => by
    unfold chT at hc
    split at hc
    · simp only [Bool.and_eq_true, decide_eq_true_eq] at hc
      obtain ⟨⟨⟨c1, c2⟩, c3⟩, c4⟩ := hc
      simp only [asgT, Option.bind_eq_some_iff] at h
      obtain ⟨⟨d, ρk⟩, h1, h2⟩ := h
      dsimp only at h2
      split at h2
      · rename_i hs0
        simp only [Option.bind_eq_some_iff] at h2
        obtain ⟨⟨ob, ρ1⟩, h3, h4⟩ := h2
        dsimp only at h4
        split at h4
        · rename_i hv hl
          simp only [Option.map_eq_some_iff] at h4
          obtain ⟨j, h5, rfl⟩ := h4
          exact sgo_sub o c1 c2 c3 (chE_slice c4) h1 (evE_ok ix o c4 h3) hv hl ⟨_, hs0, fun z => by cases z⟩ h5
        · cases h4
      · cases h2
    · cases hc
  | .tup ts, s, X, e, ρ, ρ', op, o, hc, h => by
    unfold chT at hc
    split at hc
    · simp only [asgT, Option.bind_eq_some_iff] at h
      obtain ⟨⟨d, ρk⟩, h1, h2⟩ := h
      dsimp only at h2
      split at h2
      · obtain ⟨h3, h4⟩ := asgTs_ok ts o hc h2
        exact sgo_tup o (chTs_ns hc) h1 h3 h4
      · cases h2
    · cases hc
theorem asgTs_ok : ∀ (ts : Tgs) {s : Sc} {X : Cx} {es : List Expr} {ρ ρ' : En} {ds : List D}, XOk T tb k s X → chTs s ts es = true → asgTs T ρ ts (ds.map .val) = some ρ' → SGov tb X es ρ ds ρ' ∧ es.length = ds.length
  | .nil, s, X, es, ρ, ρ', ds, o, hc, h => by
    unfold chTs at hc
    split at hc
    · cases ds with
      | nil =>
        simp only [List.map_nil, asgTs] at h
        cases h
        exact ⟨sgov_nil, rfl⟩
      | cons d ds => simp [asgTs] at h
    · cases hc
  | .cons t ts, s, X, es, ρ, ρ', ds, o, hc, h => by
    unfold chTs at hc
    split at hc
    · simp only [Bool.and_eq_true] at hc
      cases ds with
      | nil => simp [asgTs] at h
      | cons d ds =>
        simp only [List.map_cons, asgTs, Option.bind_eq_some_iff] at h
        obtain ⟨ρ1, h1, h2⟩ := h
        obtain ⟨h3, h4⟩ := asgTs_ok ts o hc.2 h2
        exact ⟨sgov_cons (chT_ns hc.1) (asgT_ok t o hc.1 h1) h3, by rw [List.length_cons, List.length_cons, h4]⟩
    · cases hc
end
theorem evLc_ok {elt : IE} {t : Tg} {own : List (Str × Nat)} {it : IT} {c : IC} {elt' tg iter : Expr} {ifs : List Expr} {scope : Scope} {lp : Pos} (o : XOk T tb k s X) (hc : chE s (.lc elt t own it c) (.ListComp elt' [⟨tg, iter, ifs, 0⟩] scope lp) = true) (h : evE T ρ (.lc elt t own it c) = some (op, ρ1)) :
    ∃ out, op = .new out ∧ BlkOk X.N X.env.scope scope own ∧ (∀ x, foldedSetIterable iter X.env x = pure x) ∧ SLc tb X elt' tg iter ifs scope (own.map (·.2)) ρ out ρ1 := by
  simp only [chE, Bool.and_eq_true] at hc
  obtain ⟨⟨⟨⟨⟨c1, c2⟩, c3⟩, c4⟩, c5⟩, c6⟩ := hc
  simp only [evE, Option.bind_eq_some_iff] at h
  obtain ⟨⟨ds, ρ1⟩, h1, ⟨out, ρn⟩, h2, h3⟩ := h
  dsimp only at h2 h3
  split at h3
  · rename_i hl
    cases h3
    refine ⟨out, rfl, by rw [← o.nm] at c1; rw [o.sc]; exact blkOk_by c1, noSet_fold (chIt_set c2) _, lc_ok o (evIt_ok it o c2 h1) (ix := tgIx t) (fun i hi => ?_) (fun x ρa q hq => ?_) h2 hl⟩
    · have := List.all_eq_true.mp c6 i hi
      simpa using this
    · simp only [Option.bind_eq_some_iff] at hq
      obtain ⟨ρ2, q1, ⟨b, ρ3⟩, q2, q3⟩ := hq
      refine ⟨ρ2, b, ρ3, fun s H C cl fp => bindT_ok t (o.blk _ s H C cl fp) c3 q1, fun s H C cl fp => evIf_ok c (o.blk _ s H C cl fp) c4 q2, ?_⟩
      dsimp only at q3
      cases b with
      | false =>
        rw [if_neg Bool.false_ne_true] at q3
        cases q3
        exact .inl ⟨rfl, rfl⟩
      | true =>
        rw [if_pos rfl] at q3
        simp only [Option.bind_eq_some_iff, Option.map_eq_some_iff] at q3
        obtain ⟨⟨op, ρ4⟩, q4, ⟨d, ρb⟩, q5, e⟩ := q3
        cases e
        exact .inr ⟨rfl, op, ρ4, d, ρb, fun s H C cl fp => evE_ok elt (o.blk _ s H C cl fp) c5 q4, q5, rfl⟩
  · cases h3

/-! ### the text of statements -/
def isLc1 : Expr → Bool
  | .ListComp _ [⟨_, _, _, 0⟩] _ _ => true
  | _ => false
def notO : IE → Bool
  | .lcO _ _ _ _ => false
  | _ => true
mutual
def chS (s : Sc) : IS → Stmt → Bool
  | .asg t e, st => match st with
    | .Assign [tg] e' _ => chT s t tg && chE s e e' && (match tg with
      | .Name _ _ => notO e
      | .Subscript _ _ _ => true
      | .Tuple tgs _ _ => (match e' with
        | .Tuple es _ _ => decide (swK s tgs es = some none)
        | _ => true)
      | _ => false)
    | _ => false
  | .asgs is es, st => match st with
    | .Assign [.Tuple [.Name x px, .Name y py] _ _] (.Tuple es' _ _) _ => (match is with
      | [i, j] => decide (s.N[i]? = some x) && decide (s.N[j]? = some y) && decide (i ≠ j) && (((s.sc.names.lookup x == some .local) && (s.sc.names.lookup y == some .local) && decide (swK s [.Name x px, .Name y py] es' = some (some [x, y]))) || (stB s x && stB s y && decide (swK s [.Name x px, .Name y py] es' = some none))) && chEs s es es' && decide (es'.length = 2)
      | _ => false)
    | .Assign [.Tuple [.Name x px, .Name y py, .Name z pz] _ _] (.Tuple es' _ _) _ => (match is with
      | [i, j, l] => decide (s.N[i]? = some x) && decide (s.N[j]? = some y) && decide (s.N[l]? = some z) && decide (i ≠ j ∧ i ≠ l ∧ j ≠ l) && (((s.sc.names.lookup x == some .local) && (s.sc.names.lookup y == some .local) && (s.sc.names.lookup z == some .local) && decide (swK s [.Name x px, .Name y py, .Name z pz] es' = some (some [x, y, z]))) || (stB s x && stB s y && stB s z && decide (swK s [.Name x px, .Name y py, .Name z pz] es' = some none))) && chEs s es es' && decide (es'.length = 3)
      | _ => false)
    | _ => false
  | .aug i op e, st => match st with
    | .AugAssign (.Name x _) op' e' _ => decide (s.N[i]? = some x) && stB s x && decide (op = op') && chE s e e'
    | _ => false
  | .augS i ix op e, st => match st with
    | .AugAssign (.Subscript (.Name x _) ix' _) op' e' _ => decide (s.N[i]? = some x) && visB s.sc x && okN x && decide (op = op') && chE s ix ix' && chE s e e'
    | _ => false
  | .app i e, st => match st with
    | .Expr (.Call (.Attribute (.Name x _) f apos) [e'] [] cpos) _ => decide (s.N[i]? = some x) && visB s.sc x && okN x && decide (f = Str.ofString "append") && (apos.endLine == cpos.line) && chE s e e'
    | _ => false
  | .ifs c a b, st => match st with
    | .If c' a' b' _ => chE s c c' && chSs s a a' && chSs s b b'
    | _ => false
  | .whl c b, st => match st with
    | .While c' b' [] _ => chE s c c' && chSs s b b'
    | _ => false
  | .fors t it b, st => match st with
    | .For tg iter b' [] _ => chIt s it tg iter && chT s t tg && chSs s b b'
    | _ => false
  | .exp e, st => match st with
    | .Expr e' _ => chE s e e' && plainC e'
    | _ => false
  | .ret e, st => match st with
    | .Return (some e') _ => chE s e e'
    | _ => false
  | .retM e, st => match st with
    | .Return (some e') _ => chE s e e'
    | _ => false
  | .retN, st => match st with
    | .Return none _ => true
    | _ => false
  | .brk, st => match st with
    | .Break _ => true
    | _ => false
  | .cnt, st => match st with
    | .Continue _ => true
    | _ => false
  | .pas, st => match st with
    | .Pass _ => true
    | _ => false
  | .nev, _ => true
def chSs (s : Sc) : ISs → List Stmt → Bool
  | .nil, l => match l with
    | [] => true
    | _ => false
  | .cons i is, l => match l with
    | st :: r => chS s i st && chSs s is r
    | _ => false
end
end
end Ev

set_option maxHeartbeats 4000000
namespace Ev
open PySem PySem.Spec PyProof.Rows L2

section
variable {T : Tb} {tb : List Addr} {k : Nat} {n : Nat}
theorem sw_any {s : Sc} {X : Cx} (o : XOk T tb k s X) (hk : X.env.scope.kind = .function) {ir : IE} {tg e : Expr} {l : Nat} (hc : chE s ir e = true) (h : (∃ x p, tg = .Name x p) → isLc1 e = false) : swapsWith e (some tg) l X.env = pure false := by
  cases e <;> first | rfl | skip
  · rename_i elt gs scope lp
    cases tg <;> first | rfl | skip
    have := h ⟨_, _, rfl⟩
    cases ir <;> simp [chE] at hc
    all_goals (split at hc; (rename_i q; cases q; cases this); cases hc)
  · cases ir <;> simp [chE] at hc
  · cases ir <;> simp [chE] at hc

theorem len2 {α : Type} : ∀ {l : List α}, l.length = 2 → ∃ a b, l = [a, b]
  | [a, b], _ => ⟨a, b, rfl⟩
theorem len3 {α : Type} : ∀ {l : List α}, l.length = 3 → ∃ a b c, l = [a, b, c]
  | [a, b, c], _ => ⟨a, b, c, rfl⟩
mutual
theorem evS_ok : ∀ (ir : IS) {s : Sc} {X : Cx} {st : Stmt} {ρ : En} {oc : Oc}, XOk T tb k s X → chS s ir st = true → evS n T ρ ir = some oc → SS tb X st ρ oc
  | .asg t e, s, X, st, ρ, oc, o, hc, h => by
    unfold chS at hc
    split at hc
    · rename_i tg e' pos
      simp only [Bool.and_eq_true] at hc
      obtain ⟨⟨c1, c2⟩, c3⟩ := hc
      simp only [evS, Option.bind_eq_some_iff, Option.map_eq_some_iff] at h
      obtain ⟨⟨op, ρ1⟩, h1, ρ2, h2, rfl⟩ := h
      intro pa B F σ H r D hD pins s0 I
      have hk := I.ok.kind
      have plain : swapsWith e' (some tg) pos.line X.env = pure false → swappedStores [tg] e' X.env = pure none → wpAny (model X.prog X.w) X.A (exec (.Assign [tg] e' pos) X.env) (SP X pins D) X.xe s0 := fun q1 q2 =>
        ss_asg q1 q2 (chT_ns c1) (evE_ok e o c2 h1) (asgT_ok t o c1 h2) pa B F σ H r D hD pins s0 I
      cases tg with
      | Name x px =>
        by_cases hl : isLc1 e' = true
        · cases e' with
          | ListComp elt gs scope lp =>
            match gs, hl with
            | [⟨tg2, iter, ifs, 0⟩], _ =>
              cases hsw : swB s x px scope lp with
              | true =>
                cases e with
                | lc ie it own iit ic =>
                  obtain ⟨out, rfl, ok, hf, hs⟩ := evLc_ok o c2 h1
                  cases t with
                  | nm i =>
                    simp only [chT, Bool.and_eq_true, decide_eq_true_eq] at c1
                    simp only [asgT] at h2
                    exact ss_setLc o c1.1 hsw ok hf hs h2 pa B F σ H r D hD pins s0 I
                  | sub i ix => simp [chT] at c1
                  | tup ts => simp [chT] at c1
                | lcO _ _ _ _ => cases c3
                | _ => simp [chE] at c2
              | false => exact plain (by rw [sw_lc o hk, hsw]) (swS_name _ _)
          | _ => cases hl
        · exact plain (sw_any o hk c2 fun _ => by simpa using hl) (swS_name _ _)
      | Subscript oo ix p =>
        exact plain (sw_any o hk c2 fun ⟨x, p, z⟩ => by cases z) (swS_sub _ _)
      | Tuple tgs j p =>
        refine plain (sw_any o hk c2 fun ⟨x, p, z⟩ => by cases z) ?_
        dsimp only at c3
        split at c3
        · exact swK_ok o hk (of_decide_eq_true c3)
        · rename_i hne
          refine swS_tup ?_ _
          cases e' <;> first | rfl | exact absurd rfl (hne _ _ _)
      | _ => simp at c3
    · cases hc
  | .asgs is es, s, X, st, ρ, oc, o, hc, h => by
    unfold chS at hc
    split at hc
    · split at hc
      · simp only [Bool.and_eq_true, decide_eq_true_eq] at hc
        obtain ⟨⟨⟨⟨⟨c1, c2⟩, c3⟩, c4⟩, c7⟩, c8⟩ := hc
        simp only [evS, Option.bind_eq_some_iff, Option.map_eq_some_iff] at h
        obtain ⟨⟨ops, ρ1⟩, h1, ⟨os', ρ2⟩, h2, ρ3, h3, rfl⟩ := h
        obtain ⟨a, b, e⟩ := len2 c8
        subst e
        simp only [Bool.or_eq_true, Bool.and_eq_true, decide_eq_true_eq] at c4
        rcases c4 with ⟨⟨c4, c5⟩, c6⟩ | ⟨⟨c4, c5⟩, c6⟩
        · exact ss_par2 o c1 c2 c3 c4 c5 c6 (evEs_ok es o c7 h1) h2 h3
        · exact ss_par2t o c1 c2 c3 c4 c5 c6 (evEs_ok es o c7 h1) h2 h3
      · cases hc
    · split at hc
      · simp only [Bool.and_eq_true, decide_eq_true_eq] at hc
        obtain ⟨⟨⟨⟨⟨⟨c1, c2⟩, c3⟩, c4⟩, c5⟩, c9⟩, c10⟩ := hc
        simp only [evS, Option.bind_eq_some_iff, Option.map_eq_some_iff] at h
        obtain ⟨⟨ops, ρ1⟩, h1, ⟨os', ρ2⟩, h2, ρ3, h3, rfl⟩ := h
        obtain ⟨a, b, c, e⟩ := len3 c10
        subst e
        simp only [Bool.or_eq_true, Bool.and_eq_true, decide_eq_true_eq] at c5
        rcases c5 with ⟨⟨⟨q1, q2⟩, q3⟩, q4⟩ | ⟨⟨⟨q1, q2⟩, q3⟩, q4⟩
        · exact ss_par3 o c1 c2 c3 c4.1 c4.2.1 c4.2.2 q1 q2 q3 q4 (evEs_ok es o c9 h1) h2 h3
        · exact ss_par3t o c1 c2 c3 c4.1 c4.2.1 c4.2.2 q1 q2 q3 q4 (evEs_ok es o c9 h1) h2 h3
      · cases hc
    · cases hc
  | .aug i op e, s, X, st, ρ, oc, o, hc, h => by
    unfold chS at hc
    split at hc
    · simp only [Bool.and_eq_true, decide_eq_true_eq] at hc
      obtain ⟨⟨⟨c1, c2⟩, rfl⟩, c4⟩ := hc
      simp only [evS, Option.bind_eq_some_iff, Option.map_eq_some_iff] at h
      obtain ⟨u, h1, ⟨op, ρ1⟩, h2, v, h3, z, h4, ρ2, h5, rfl⟩ := h
      exact ss_aug o c1 c2 h1 (evE_ok e o c4 h2) h3 h4 h5
    · cases hc
  | .augS i ix op e, s, X, st, ρ, oc, o, hc, h => by
    unfold chS at hc
    split at hc
    · simp only [Bool.and_eq_true, decide_eq_true_eq] at hc
      obtain ⟨⟨⟨⟨⟨c1, c2⟩, c3⟩, rfl⟩, c5⟩, c6⟩ := hc
      simp only [evS] at h
      split at h
      · rename_i hs0
        simp only [Option.bind_eq_some_iff] at h
        obtain ⟨⟨oa, ρ1⟩, h1, h2⟩ := h
        dsimp only at h2
        split at h2
        · rename_i hk hl
          simp only [Option.bind_eq_some_iff] at h2
          obtain ⟨j, h3, h4⟩ := h2
          split at h4
          · rename_i u hu
            simp only [Option.bind_eq_some_iff] at h4
            obtain ⟨⟨op, ρ2⟩, h5, v, h6, z, h7, h8⟩ := h4
            dsimp only at h6 h8
            split at h8
            · rename_i hl2
              simp only [Option.map_eq_some_iff] at h8
              obtain ⟨j2, h9, rfl⟩ := h8
              exact ss_augS o c1 c2 c3 (chE_slice c5) hs0 (evE_ok ix o c5 h1) hk hl h3 hu (evE_ok e o c6 h5) h6 h7 hl2 h9
            · cases h8
          · cases h4
        · cases h2
      · cases h
    · cases hc
  | .app i e, s, X, st, ρ, oc, o, hc, h => by
    unfold chS at hc
    split at hc
    · simp only [Bool.and_eq_true, decide_eq_true_eq] at hc
      obtain ⟨⟨⟨⟨⟨c1, c2⟩, c3⟩, rfl⟩, c5⟩, c6⟩ := hc
      simp only [evS] at h
      split at h
      · rename_i hs0
        simp only [Option.bind_eq_some_iff] at h
        obtain ⟨⟨op, ρ1⟩, h1, ⟨d, ρk⟩, h2, h3⟩ := h
        dsimp only at h3
        split at h3
        · rename_i hl
          split at h3
          · rename_i hz
            cases h3
            exact ss_app o c1 c2 c3 (chE_ns c6) c5 hs0 (evE_ok e o c6 h1) h2 hl (of_decide_eq_true hz)
          · cases h3
        · cases h3
      · cases h
    · cases hc
  | .ifs c a b, s, X, st, ρ, oc, o, hc, h => by
    unfold chS at hc
    split at hc
    · simp only [Bool.and_eq_true] at hc
      obtain ⟨⟨c1, c2⟩, c3⟩ := hc
      simp only [evS] at h
      split at h
      · rename_i ρ1 h1
        exact ss_if (evT_ok c o c1 h1) (fun _ => evSs_ok a o c2 h) (fun z => by cases z)
      · rename_i ρ1 h1
        exact ss_if (evT_ok c o c1 h1) (fun z => by cases z) (fun _ => evSs_ok b o c3 h)
      · cases h
    · cases hc
  | .whl c b, s, X, st, ρ, oc, o, hc, h => by
    unfold chS at hc
    split at hc
    · simp only [Bool.and_eq_true] at hc
      simp only [evS] at h
      exact ss_whl o (fun ρ b ρ' h => evT_ok c o hc.1 h) (fun ρ oc h => evSs_ok b o hc.2 h) h
    · cases hc
  | .fors t it b, s, X, st, ρ, oc, o, hc, h => by
    unfold chS at hc
    split at hc
    · simp only [Bool.and_eq_true] at hc
      obtain ⟨⟨c1, c2⟩, c3⟩ := hc
      simp only [evS, Option.bind_eq_some_iff] at h
      obtain ⟨⟨ds, ρ1⟩, h1, h2⟩ := h
      refine ss_for o (evIt_ok it o c1 h1) (noSet_fold (chIt_set c1) _) (ix := tgIx t) (fun x ρ oc hq => ?_) h2
      simp only [Option.bind_eq_some_iff] at hq
      obtain ⟨ρ2, q1, q2⟩ := hq
      exact ⟨ρ2, bindT_ok t o c2 q1, evSs_ok b o c3 q2⟩
    · cases hc
  | .exp e, s, X, st, ρ, oc, o, hc, h => by
    unfold chS at hc
    split at hc
    · simp only [Bool.and_eq_true] at hc
      simp only [evS, Option.map_eq_some_iff] at h
      obtain ⟨⟨op, ρ1⟩, h1, rfl⟩ := h
      exact ss_exp hc.2 (evE_ok e o hc.1 h1)
    · cases hc
  | .ret e, s, X, st, ρ, oc, o, hc, h => by
    unfold chS at hc
    split at hc
    · simp only [evS, Option.bind_eq_some_iff, Option.map_eq_some_iff] at h
      obtain ⟨⟨op, ρ1⟩, h1, ⟨d, ρ2⟩, h2, rfl⟩ := h
      exact ss_ret (evE_ok e o hc h1) h2
    · cases hc
  | .retM e, s, X, st, ρ, oc, o, hc, h => by
    unfold chS at hc
    split at hc
    · simp only [evS, Option.bind_eq_some_iff] at h
      obtain ⟨⟨op, ρ1⟩, h1, h2⟩ := h
      dsimp only at h2
      split at h2
      · rename_i ds hd
        cases h2
        exact ss_retM (evE_ok e o hc h1)
      · cases h2
    · cases hc
  | .retN, s, X, st, ρ, oc, o, hc, h => by
    unfold chS at hc
    split at hc
    · simp only [evS] at h
      cases h
      exact ss_retN
    · cases hc
  | .brk, s, X, st, ρ, oc, o, hc, h => by
    unfold chS at hc
    split at hc
    · simp only [evS] at h
      cases h
      exact ss_brk
    · cases hc
  | .cnt, s, X, st, ρ, oc, o, hc, h => by
    unfold chS at hc
    split at hc
    · simp only [evS] at h
      cases h
      exact ss_cnt
    · cases hc
  | .pas, s, X, st, ρ, oc, o, hc, h => by
    unfold chS at hc
    split at hc
    · simp only [evS] at h
      cases h
      exact ss_pass
    · cases hc
  | .nev, s, X, st, ρ, oc, o, hc, h => by simp [evS] at h
theorem evSs_ok : ∀ (ir : ISs) {s : Sc} {X : Cx} {sts : List Stmt} {ρ : En} {oc : Oc}, XOk T tb k s X → chSs s ir sts = true → evSs n T ρ ir = some oc → SSs tb X sts ρ oc
  | .nil, s, X, sts, ρ, oc, o, hc, h => by
    unfold chSs at hc
    split at hc
    · simp only [evSs] at h
      cases h
      exact sss_nil
    · cases hc
  | .cons i is, s, X, sts, ρ, oc, o, hc, h => by
    unfold chSs at hc
    split at hc
    · simp only [Bool.and_eq_true] at hc
      simp only [evSs] at h
      split at h
      · rename_i ρ1 h1
        exact sss_nx (evS_ok i o hc.1 h1) (evSs_ok is o hc.2 h)
      · rename_i hne
        exact sss_end (evS_ok i o hc.1 h) fun ρ' z => by
          subst z
          exact hne _ h
    · cases hc
end

/-! ### a def by its text -/
theorem ent_rel {K : PySem.W.Frag} {pa : Nat → Addr} {B F H : Hp} {vs : List V} {ds : List D} {N : Nat} (w : Wf tb B F H) (r : RpAll K F vs ds) (hN : vs.length ≤ N) : Rel K tb pa B F (vs.map some ++ List.replicate (N - vs.length) none) H (entP N ds) := by
  have hl := RpAll.length r
  refine ⟨w, by simp [entP, hl], fun i sl hi => ?_, fun i j s t hij hs ht os ot => ?_⟩
  · unfold entP at hi
    by_cases h : i < ds.length
    · rw [List.getElem?_append_left (by simpa using h), List.getElem?_map] at hi
      obtain ⟨d, hd, rfl⟩ := Option.map_eq_some_iff.mp hi
      obtain ⟨x, e1, e2⟩ := RpAll.get r hd
      refine ⟨x, ?_, e2⟩
      rw [List.getElem?_append_left (by simpa [hl] using h), List.getElem?_map, e1]
      rfl
    · rw [List.getElem?_append_right (by simpa using h), List.getElem?_replicate] at hi
      split at hi
      · cases hi; trivial
      · cases hi
  · unfold entP at hs
    by_cases h : i < ds.length
    · rw [List.getElem?_append_left (by simpa using h), List.getElem?_map] at hs
      obtain ⟨d, hd, rfl⟩ := Option.map_eq_some_iff.mp hs
      cases os
    · rw [List.getElem?_append_right (by simpa using h), List.getElem?_replicate] at hs
      split at hs
      · cases hs; cases os
      · cases hs
def scOf (N : List Str) (st : Stmt) (gd : Bool := false) : Sc := ⟨N, defScope st, fun _ => true, gd⟩
/-- how much room a def wants that holds generator expressions -/
abbrev gk (gd : Bool) (k : Nat) : Nat := if gd then k + 8 else k
def TabF (gd : Bool) (base : Heap) (mg : Str → Option Value) (tb : List Addr) (cdv : Value) : Prop := gd = true → ∃ c P, cdv = .ref c ∧ GxR.TabB base mg c P ∧ P ∈ tb
/-- what a law's text gives to every def -/
structure Env1 (T : Tb) (P : Program) (w : World) (K : PySem.W.Frag) (mg : Str → Option Value) (base : Heap) (tb : List Addr) (k : Nat) : Prop where
  fns : ∀ f fs, T.fs f = some fs → Can P w K mg base tb k f fs
  kws : ∀ f n ks pm fs, T.ks f n ks = some pm → T.fs f = some fs → CanK P w K mg base tb k f n ks pm fs
  gls : ∀ x d, T.gl x = some d → ∃ v u, mg x = some u ∧ RelV v u ∧ ∀ F, Rp K F v d
  blt : ∀ x ∈ bnames, mg x = none
theorem xok_of {P : Program} {w : World} {K : PySem.W.Frag} {mg : Str → Option Value} {base : Heap} {N ps : List Str} {qual : Str} {st : Stmt} {f : Addr} {cdv : Value} {A : Around} {outer : List Env} {s : Shared} {H : Hp} {E : XK} (e : Env1 T P w K mg base tb k) (S : FnScope N ps (defScope st))
    {gd : Bool} (ht : TabF gd base mg tb cdv) (hg : A.guards = some []) (hr : Room (gk gd k) (A.deeper (envOfC qual (defScope st) s.heap.objs.size f cdv))) : XOk T tb k (scOf N st gd) (cxOf CX0 P w K mg base N qual (defScope st) f cdv A outer s H E).nox :=
  { fns := e.fns, kws := e.kws, gls := e.gls, blt := e.blt, nm := rfl, nd := S.nd, sc := rfl, fn := fun _ _ => rfl, calm := rfl, room8 := hr, tab := ht, grd := hg, own := PassesOwn.never }
theorem fng_p {P : Program} {w : World} {K : PySem.W.Frag} {mg : Str → Option Value} {base : Heap} {x qual : Str} {st : Stmt} {f : Addr} {fd : FuncData} {N ps : List Str} {b : ISs} {sp : List D → Option D} (e : Env1 T P w K mg base tb k) (Fn : Fun K x qual st f fd) (S : FnScope N ps (defScope st))
    {gd : Bool} (ht : TabF gd base mg tb fd.code) (hc : chSs (scOf N st gd) b (defBody st) = true) (hsp : ∀ ds r, sp ds = some r → ds.length = ps.length → ∃ n, runP n T N.length b ds = some r) : FnG P w K mg base (gk gd k + 1) f fd ps (SpOf K tb (.p ps.length sp)) := by
  refine fnG_of Fn S (fun vs H Q E h => h.1) fun cdv A outer s H vs Q E hcd hg hr h => ?_
  obtain ⟨hl, B, F, ds, r, wf, rp, hr', hQ⟩ := h
  have o := xok_of (outer := outer) (H := H) (E := E) (qual := qual) (f := f) (cdv := cdv) e S (by rw [← hcd]; exact ht) hg hr
  obtain ⟨n, hrun⟩ := hsp ds r hr' (by rw [← RpAll.length rp]; exact hl)
  have hN : vs.length ≤ N.length := by
    have := congrArg List.length S.pre
    rw [List.length_take] at this
    omega
  have rel : Rel K tb (fun _ => 0) B F (start N vs) H (entP N.length ds) := ent_rel wf rp hN
  unfold runP at hrun
  split at hrun
  · rename_i d ρ' hev
    cases hrun
    refine ⟨fun pins s' σ H' D I q => ?_⟩
    obtain ⟨rfl, rfl, q1, q2⟩ := q
    refine evSs_ok b o hc hev (fun _ => 0) B F _ _ rel D (fun v F' σ' H' s' r' rv => ?_) pins s' I
    rw [q1]
    exact hQ v F' H' s' r'.wf rv
  · rename_i ρ' hev
    cases hrun
    refine ⟨fun pins s' σ H' D I q => ?_⟩
    obtain ⟨rfl, rfl, q1, q2⟩ := q
    refine evSs_ok b o hc hev (fun _ => 0) B F _ _ rel D (fun F' σ' H' s' r' => ?_) pins s' I
    rw [q2]
    exact hQ .non F' H' s' r'.wf .non
  · cases hrun
theorem fng_m {P : Program} {w : World} {K : PySem.W.Frag} {mg : Str → Option Value} {base : Heap} {x qual : Str} {st : Stmt} {f : Addr} {fd : FuncData} {N ps : List Str} {b : ISs} {sp : List D → Option (List D)} (e : Env1 T P w K mg base tb k) (Fn : Fun K x qual st f fd) (S : FnScope N ps (defScope st))
    {gd : Bool} (ht : TabF gd base mg tb fd.code) (hc : chSs (scOf N st gd) b (defBody st) = true) (hsp : ∀ ds r, sp ds = some r → ds.length = ps.length → ∃ n, runM n T N.length b ds = some r) : FnG P w K mg base (gk gd k + 1) f fd ps (SpOf K tb (.m ps.length sp)) := by
  refine fnG_of Fn S (fun vs H Q E h => h.1) fun cdv A outer s H vs Q E hcd hg hr h => ?_
  obtain ⟨hl, B, F, ds, r, wf, rp, hr', hQ⟩ := h
  have o := xok_of (outer := outer) (H := H) (E := E) (qual := qual) (f := f) (cdv := cdv) e S (by rw [← hcd]; exact ht) hg hr
  obtain ⟨n, hrun⟩ := hsp ds r hr' (by rw [← RpAll.length rp]; exact hl)
  have hN : vs.length ≤ N.length := by
    have := congrArg List.length S.pre
    rw [List.length_take] at this
    omega
  have rel : Rel K tb (fun _ => 0) B F (start N vs) H (entP N.length ds) := ent_rel wf rp hN
  unfold runM at hrun
  split at hrun
  · rename_i d ρ' hev
    cases hrun
    refine ⟨fun pins s' σ H' D I q => ?_⟩
    obtain ⟨rfl, rfl, q1, q2⟩ := q
    refine evSs_ok b o hc hev (fun _ => 0) B F _ _ rel D (fun p ws F' σ' H' s' r' hp hf hb rv => ?_) pins s' I
    rw [q1]
    exact hQ p ws F' H' s' r'.wf hp hf hb rv
  · cases hrun
theorem can_p {P : Program} {w : World} {K : PySem.W.Frag} {mg : Str → Option Value} {base : Heap} {x qual : Str} {st : Stmt} {f : Addr} {fd : FuncData} {N ps : List Str} {b : ISs} {sp : List D → Option D} (e : Env1 T P w K mg base tb k) (Fn : Fun K x qual st f fd) (S : FnScope N ps (defScope st)) (hm : mg x = some (.ref f)) (hb : Binds K fd ps [])
    {gd : Bool} (ht : TabF gd base mg tb fd.code) (hc : chSs (scOf N st gd) b (defBody st) = true) (hsp : ∀ ds r, sp ds = some r → ds.length = ps.length → ∃ n, runP n T N.length b ds = some r) : Can P w K mg base tb (gk gd k + 1) x (.p ps.length sp) :=
  ⟨.inl ⟨f, fd, ps, fng_p e Fn S ht hc hsp, hm, Fn.kp, hb⟩⟩
theorem Can.mono {P : Program} {w : World} {K : PySem.W.Frag} {mg : Str → Option Value} {base : Heap} {j : Nat} {x : Str} {fs : FS} (h : Can P w K mg base tb j x fs) (hk : j ≤ k) : Can P w K mg base tb k x fs := by
  refine ⟨h.ex.imp (fun ⟨f, fd, ps, h1, h2, h3, h4⟩ => ⟨f, fd, ps, h1.mono hk, h2, h3, h4⟩) id⟩
theorem CanK.mono {P : Program} {w : World} {K : PySem.W.Frag} {mg : Str → Option Value} {base : Heap} {j : Nat} {x : Str} {n : Nat} {ks : List Str} {pm : List Nat} {fs : FS} (h : CanK P w K mg base tb j x n ks pm fs) (hk : j ≤ k) : CanK P w K mg base tb k x n ks pm fs := by
  obtain ⟨f, fd, ps, h1, h2, h3, h4⟩ := h.ex
  exact ⟨f, fd, ps, h1.mono hk, h2, h3, h4⟩
theorem cank_p {P : Program} {w : World} {K : PySem.W.Frag} {mg : Str → Option Value} {base : Heap} {x : Str} {f : Addr} {fd : FuncData} {ps : List Str} {n : Nat} {ks : List Str} {pm : List Nat} {fs : FS} (hF : FnG P w K mg base k f fd ps (SpOf K tb fs)) (hm : mg x = some (.ref f)) (hk : PySem.W.keepIn K (.ref f) = true) (hb : KB K fd ps n ks pm) : CanK P w K mg base tb k x n ks pm fs := ⟨f, fd, ps, hF, hm, hk, hb⟩
/-- tables -/
abbrev KTab := List (Str × List ((Nat × List Str) × List Nat))
def tabT (fs : List (Str × FS)) (kt : KTab) (gl : List (Str × D)) : Tb := ⟨fun x => fs.lookup x, fun f n ks => (kt.lookup f).bind fun l => l.lookup (n, ks), fun x => gl.lookup x⟩
theorem lookup_mem {α β : Type} [BEq α] [LawfulBEq α] {a : α} {b : β} : ∀ {l : List (α × β)}, l.lookup a = some b → (a, b) ∈ l
  | [], h => by cases h
  | (x, y) :: l, h => by
    simp only [List.lookup] at h
    split at h
    · rename_i q
      cases h
      rw [eq_of_beq q]
      exact List.mem_cons_self
    · exact List.mem_cons_of_mem _ (lookup_mem h)
theorem Env1.ext {P : Program} {w : World} {K : PySem.W.Frag} {mg : Str → Option Value} {base : Heap} {j : Nat} {fs : List (Str × FS)} {kt : KTab} {gl : List (Str × D)} {x : Str} {s : FS} (e : Env1 (tabT fs kt gl) P w K mg base tb j) (h : Can P w K mg base tb k x s)
    (hk : ∀ l, kt.lookup x = some l → ∀ n ks pm, ((n, ks), pm) ∈ l → CanK P w K mg base tb k x n ks pm s) (hj : j ≤ k) : Env1 (tabT ((x, s) :: fs) kt gl) P w K mg base tb k := by
  refine ⟨fun f s' hf => ?_, fun f n ks pm s' h1 h2 => ?_, e.gls, e.blt⟩
  · simp only [tabT, List.lookup] at hf
    split at hf
    · rename_i q
      cases hf
      rw [eq_of_beq q]
      exact h
    · exact (e.fns f s' hf).mono hj
  · simp only [tabT, List.lookup] at h2
    split at h2
    · rename_i q
      cases h2
      have q := eq_of_beq q
      subst q
      simp only [tabT, Option.bind_eq_some_iff] at h1
      obtain ⟨l, h3, h4⟩ := h1
      exact hk l h3 n ks pm (lookup_mem h4)
    · exact (e.kws f n ks pm s' h1 h2).mono hj
/-- nothing yet -/
theorem env0 {P : Program} {w : World} {K : PySem.W.Frag} {mg : Str → Option Value} {base : Heap} {kt : KTab} {gl : List (Str × D)} (hg : ∀ x d, gl.lookup x = some d → ∃ v u, mg x = some u ∧ RelV v u ∧ ∀ F, Rp K F v d) (hb : ∀ x ∈ bnames, mg x = none) : Env1 (tabT [] kt gl) P w K mg base tb 0 :=
  ⟨fun f s h => (by cases h), fun f n ks pm s h1 h2 => (by cases h2), hg, hb⟩
end
end Ev

set_option maxHeartbeats 4000000
namespace Ev
open PySem PySem.Spec PyProof.Rows L2

section
variable {T : Tb} {tb : List Addr} {k : Nat} {n : Nat}
theorem ent_relW {K : PySem.W.Frag} {B F H : Hp} {p : Addr} {vr vs0 : List V} {ds0 ds : List D} {N : Nat} (w : Wf tb B F H) (hp : H p = some (.lst vs0)) (hf : F p = none) (hb : B p = none) (r0 : RpAll K F vs0 ds0) (r : RpAll K F vr ds) (hN : vr.length + 1 ≤ N) :
    Rel K tb (fun _ => p) B F ((V.ref p :: vr).map some ++ List.replicate (N - (V.ref p :: vr).length) none) H (entW N ds0 ds) := by
  have hl := RpAll.length r
  have cell : ∀ (i : Nat) (sl : Sl), (entW N ds0 ds)[i]? = some sl → (i = 0 ∧ sl = .o true ds0) ∨ (∃ j d, i = j + 1 ∧ ds[j]? = some d ∧ sl = .v d) ∨ sl = .u := fun i sl hi => by
    unfold entW at hi
    cases i with
    | zero => cases hi; exact .inl ⟨rfl, rfl⟩
    | succ j =>
      rw [List.getElem?_cons_succ] at hi
      by_cases h : j < ds.length
      · rw [List.getElem?_append_left (by simpa using h), List.getElem?_map] at hi
        obtain ⟨d, hd, rfl⟩ := Option.map_eq_some_iff.mp hi
        exact .inr (.inl ⟨j, d, rfl, hd, rfl⟩)
      · rw [List.getElem?_append_right (by simpa using h), List.getElem?_replicate] at hi
        split at hi
        · cases hi; exact .inr (.inr rfl)
        · cases hi
  refine ⟨w, by simp [entW, hl]; omega, fun i sl hi => ?_, fun i j s t hij hs ht os ot => ?_⟩
  · rcases cell i sl hi with ⟨rfl, rfl⟩ | ⟨j, d, rfl, hd, rfl⟩ | rfl
    · exact ⟨p, vs0, rfl, fun _ => rfl, hp, hf, hb, r0⟩
    · obtain ⟨x, e1, e2⟩ := RpAll.get r hd
      have hj := (List.getElem?_eq_some_iff.mp e1).1
      refine ⟨x, ?_, e2⟩
      rw [List.getElem?_append_left (by simp; omega), List.map_cons, List.getElem?_cons_succ, List.getElem?_map, e1]
      rfl
    · trivial
  · rcases cell i s hs with ⟨rfl, rfl⟩ | ⟨j', d, rfl, hd, rfl⟩ | rfl
    · rcases cell j t ht with ⟨rfl, rfl⟩ | ⟨j', d, rfl, hd, rfl⟩ | rfl
      · exact absurd rfl hij
      · cases ot
      · cases ot
    · cases os
    · cases os
theorem can_w {P : Program} {w : World} {K : PySem.W.Frag} {mg : Str → Option Value} {base : Heap} {x qual : Str} {st : Stmt} {f : Addr} {fd : FuncData} {N ps : List Str} {b : ISs} {sp : List D → List D → Option (D × List D)} (e : Env1 T P w K mg base tb k) (Fn : Fun K x qual st f fd) (S : FnScope N ps (defScope st)) (hm : mg x = some (.ref f)) (hb : Binds K fd ps [])
    {gd : Bool} (ht : TabF gd base mg tb fd.code) (hc : chSs (scOf N st gd) b (defBody st) = true) (hsp : ∀ ds0 ds r, sp ds0 ds = some r → ds.length + 1 = ps.length → ∃ n, runW n T N.length b ds0 ds = some r) : Can P w K mg base tb (gk gd k + 1) x (.w ps.length sp) := by
  refine ⟨.inl ⟨f, fd, ps, ?_, hm, Fn.kp, hb⟩⟩
  refine fnG_of Fn S (fun vs H Q E h => h.1) fun cdv A outer s H vs Q E hcd hg hr h => ?_
  obtain ⟨hl, B, F, p, vr, vs0, ds0, ds, r, es, rfl, wf, hp, hf, hB, r0, rp, hr', hQ⟩ := h
  have o := xok_of (outer := outer) (H := H) (E := E) (qual := qual) (f := f) (cdv := cdv) e S (by rw [← hcd]; exact ht) hg hr
  have hl' := RpAll.length rp
  rw [List.length_cons] at hl
  obtain ⟨n, hrun⟩ := hsp ds0 ds _ hr' (by omega)
  have hN : vr.length + 1 ≤ N.length := by
    have := congrArg List.length S.pre
    rw [List.length_take] at this
    omega
  have rel : Rel K tb (fun _ => p) B F (start N (V.ref p :: vr)) H (entW N.length ds0 ds) := ent_relW wf hp hf hB r0 rp hN
  unfold runW at hrun
  split at hrun
  · rename_i d ρ' hev
    split at hrun
    · rename_i es' h0
      cases hrun
      refine ⟨fun pins s' σ H' D I q => ?_⟩
      obtain ⟨rfl, rfl, q1, q2⟩ := q
      refine evSs_ok b o hc hev (fun _ => p) B F _ _ rel D (fun v F' σ' H' s' r' rv => ?_) pins s' I
      rw [q1]
      obtain ⟨p', ws, a1, m1, b1, c1, e1, f1⟩ := r'.sl 0 _ h0
      cases m1 rfl
      exact hQ v F' H' ws s' r'.wf b1 c1 f1 rv
    · cases hrun
  · rename_i ρ' hev
    split at hrun
    · rename_i es' h0
      cases hrun
      refine ⟨fun pins s' σ H' D I q => ?_⟩
      obtain ⟨rfl, rfl, q1, q2⟩ := q
      refine evSs_ok b o hc hev (fun _ => p) B F _ _ rel D (fun F' σ' H' s' r' => ?_) pins s' I
      rw [q2]
      obtain ⟨p', ws, a1, m1, b1, c1, e1, f1⟩ := r'.sl 0 _ h0
      cases m1 rfl
      exact hQ .non F' H' ws s' r'.wf b1 c1 f1 .non
    · cases hrun
  · cases hrun
/-- math.gcd -/
def gcdF : List D → Option D
  | [.int i, .int j] => some (.int ((Nat.gcd i.natAbs j.natAbs : Nat) : Int))
  | _ => none
theorem can_gcd {P : Program} {w : World} {K : PySem.W.Frag} {mg : Str → Option Value} {base : Heap} {x : Str} (hm : mg x = some (.builtin "math.gcd")) : Can P w K mg base tb k x (.p 2 gcdF) := by
  refine ⟨.inr ⟨"math.gcd", hm, fun H Q E h => ?_, fun X hK pins s σ H vs us Q I r h => ?_⟩⟩
  · have h : ([] : List V).length = 2 ∧ _ := h
    cases h.1
  · obtain ⟨hl, B, F, ds, rr, wf, rp, hf, hQ⟩ := h
    subst hK
    cases rp with
    | nil => cases hl
    | cons a rp =>
      cases rp with
      | nil => cases hl
      | cons b rp =>
        cases rp with
        | cons _ _ => simp at hl
        | nil =>
          unfold gcdF at hf
          split at hf
          · rename_i i j hd
            cases hd
            cases hf
            cases a
            cases b
            exact cr_gcd pins s σ H _ us Q I r ⟨_, _, rfl, hQ _ F H (Sm.refl _) wf (.int _)⟩
          · cases hf
/-- the law at its script -/
theorem sp_law {K : PySem.W.Frag} {sp : List D → Option D} {H : Hp} {a : Addr} {ns : List Int} (hall : ∀ b u, H b = some u → b = a ∧ ∃ o, u = .frz o (.lst (ns.map V.int))) (hr : Rd H a (.lst (ns.map V.int))) (h : sp [.list (ns.map .int)] = some (.bool true)) : SpP K [] 1 sp [.ref a] H (fun v _ => v = .bl true) E0 := by
  have hin : ∀ ns : List Int, RpAll K H (ns.map V.int) (ns.map .int) := fun ns => by
    induction ns with
    | nil => exact .nil
    | cons n ns ih => exact .cons (.int n) ih
  refine ⟨rfl, fun _ => none, H, [.list (ns.map .int)], .bool true, ⟨Sm.refl _, (fun p o e => by cases e), (fun P hP => by cases hP)⟩, .cons (.lst hr (hin ns)) .nil, h, fun v F' H' s' w' rv => ?_⟩
  cases rv
  rfl
/-- a def as the program's top leaves it -/
def Got (K : PySem.W.Frag) (mg : Str → Option Value) (x : Str) (st : Stmt) : Prop := ∃ (f : Addr) (fd : FuncData), Fun K x x st f fd ∧ mg x = some (.ref f)
def BA (x : Str) (st : Stmt) (ps : List Str) : Prop := ∀ (kV doc pm : Value) (an : Option Addr) (cdv ct : Value) (us : List Value), us.length = ps.length → bindArgs (PySem.W.fnOf x x (defArgs st) (defBody st) (defScope st) .none kV doc pm an cdv ct) ⟨us, []⟩ = pure (ps.zip us)
def KA (x : Str) (st : Stmt) (ps : List Str) (n : Nat) (ks : List Str) (pl : List Nat) : Prop := ∀ (kV doc pm : Value) (an : Option Addr) (cdv ct : Value) (us ws : List Value), us.length = n → ws.length = ks.length → bindArgs (PySem.W.fnOf x x (defArgs st) (defBody st) (defScope st) .none kV doc pm an cdv ct) ⟨us, ks.zip ws⟩ = pure (ps.zip (permL pl (us ++ ws)))
section
variable {P : Program} {w : World} {K : PySem.W.Frag} {mg : Str → Option Value} {base : Heap} {x : Str} {st : Stmt} {N ps : List Str} {b : ISs}
theorem got_mk {f : Addr} {oc : Value} {od an : Option Addr} {osl : Array (Option Value)} {kV doc pm cdv ct : Value} {h : Heap} (X : K.In h) (G : h.Ns mainGlobals mg) (a : PySem.W.nsIn K mainGlobals x = some (some (.ref f))) (l : K.lookup f = some ⟨oc, od, .func (PySem.W.fnOf x x (defArgs st) (defBody st) (defScope st) .none kV doc pm an cdv ct), osl⟩)
    (c : PySem.W.codeIn K cdv x = true) (k : PySem.W.keepIn K (.ref f) = true) : Got K mg x st := ⟨f, _, fun_mk l c k, PySem.W.mg_of X G a⟩
def isIntV : Value → Int → Bool
  | .int i _, v => decide (i = v)
  | _, _ => false
theorem con_mk {u : Value} {v : Int} {h : Heap} (X : K.In h) (G : h.Ns mainGlobals mg) (a : PySem.W.nsIn K mainGlobals x = some (some u)) (e : isIntV u v = true) : ∃ t, mg x = some (.int v t) := by
  have := PySem.W.mg_of X G a
  cases u with
  | int i t =>
    have e : i = v := of_decide_eq_true e
    subst e
    exact ⟨t, this⟩
  | _ => cases e
/-- a tuple of numbers that the module keeps under a name -/
def ConT (K : PySem.W.Frag) (mg : Str → Option Value) (x : Str) (l : List Int) : Prop := ∃ (a : Addr) (o : Obj) (its : Array Value) (m : Nat), mg x = some (.ref a) ∧ K.lookup a = some o ∧ o.cls = .type "tuple" ∧ o.data = .seq its m ∧ its.size ≤ sizeLine ∧ Vals (l.map V.int) its.toList
def intsV : List Value → List Int → Bool
  | [], [] => true
  | .int i _ :: us, j :: l => decide (i = j) && intsV us l
  | _, _ => false
theorem intsV_ok : ∀ {us : List Value} {l : List Int}, intsV us l = true → Vals (l.map V.int) us
  | [], [], _ => .nil
  | .int i t :: us, j :: l, h => by
    simp only [intsV, Bool.and_eq_true, decide_eq_true_eq] at h
    obtain ⟨rfl, h⟩ := h
    exact .cons ⟨t, rfl⟩ (intsV_ok h)
  | [], _ :: _, h => by simp [intsV] at h
  | .none :: _, _, h => by simp [intsV] at h
  | .bool _ :: _, _, h => by simp [intsV] at h
  | .int _ _ :: _, [], h => by simp [intsV] at h
  | .float .. :: _, _, h => by simp [intsV] at h
  | .str .. :: _, _, h => by simp [intsV] at h
  | .bytes .. :: _, _, h => by simp [intsV] at h
  | .ref _ :: _, _, h => by simp [intsV] at h
  | .type _ :: _, _, h => by simp [intsV] at h
  | .builtin _ :: _, _, h => by simp [intsV] at h
  | .ellipsis :: _, _, h => by simp [intsV] at h
  | .notImplemented :: _, _, h => by simp [intsV] at h
def tupV (o : Option Obj) (l : List Int) : Bool := match o with
  | some ⟨.type "tuple", _, .seq its _, _⟩ => decide (its.size ≤ 1000) && intsV its.toList l
  | _ => false
theorem cot_mk {p : Addr} {l : List Int} {h : Heap} (X : K.In h) (G : h.Ns mainGlobals mg) (a : PySem.W.nsIn K mainGlobals x = some (some (.ref p))) (e : tupV (K.lookup p) l = true) : ConT K mg x l := by
  have hm := PySem.W.mg_of X G a
  unfold tupV at e
  split at e
  · rename_i o d its m sl q
    rw [Bool.and_eq_true, decide_eq_true_eq] at e
    refine ⟨p, _, its, m, hm, q, rfl, rfl, ?_, intsV_ok e.2⟩
    have : sizeLine = 16777216 := by decide
    omega
  · cases e
theorem ints_rp {K : PySem.W.Frag} {F : Hp} : ∀ l : List Int, RpAll K F (l.map V.int) (l.map .int)
  | [] => .nil
  | i :: l => .cons (.int i) (ints_rp l)
theorem conT_glb {l : List Int} (c : ConT K mg x l) : ∃ v u, mg x = some u ∧ RelV v u ∧ ∀ F, Rp K F v (.tuple (l.map .int)) := by
  obtain ⟨a, o, its, m, h1, h2, h3, h4, h5, h6⟩ := c
  exact ⟨.ref a, .ref a, h1, rfl, fun F => .tup (.inr ⟨o, its, m, h2, h3, h4, h5, h6⟩) (ints_rp l)⟩
theorem got_drop {h : Heap} {a : Addr} {vs : Array Value} (X : K.In h) (ha : h.get? a = some { cls := .type "list", data := .seq vs }) (g : Got K mg x st) : Got (dropK a K) mg x st := by
  obtain ⟨f, fd, F, hm⟩ := g
  obtain ⟨oc, od, kV, doc, pm, an, cdv, ct, osl, rfl, lk, hcd⟩ := F.ex
  have hf : f ≠ a := fun e => by
    subst e
    have := X _ _ lk
    rw [ha] at this
    cases this
  have lk' : (dropK a K).lookup f = some _ := (dropK_lookup hf).trans lk
  refine ⟨f, _, ⟨⟨oc, od, kV, doc, pm, an, cdv, ct, osl, rfl, lk', ?_⟩, ?_⟩, hm⟩
  · unfold PySem.W.codeIn at hcd ⊢
    cases cdv with
    | ref c =>
      dsimp only at hcd ⊢
      by_cases hc : c = a
      · subst hc
        split at hcd
        · rename_i vs' _ e
          have := X _ _ e
          rw [ha] at this
          cases this
        · cases hcd
      · rw [dropK_lookup hc]
        exact hcd
    | _ => cases hcd
  · unfold PySem.W.keepIn
    dsimp only
    rw [lk']
/-- .. with its code's table, where generator expressions stand in it -/
def GotT (K : PySem.W.Frag) (mg : Str → Option Value) (base : Heap) (tb : List Addr) (gd : Bool) (x : Str) (st : Stmt) : Prop := ∃ (f : Addr) (fd : FuncData), Fun K x x st f fd ∧ mg x = some (.ref f) ∧ TabF gd base mg tb fd.code
theorem Got.t0 {tb : List Addr} (g : Got K mg x st) : GotT K mg base tb false x st := by
  obtain ⟨f, fd, F, hm⟩ := g
  exact ⟨f, fd, F, hm, fun h => by cases h⟩
section
variable {T : Tb} {tb : List Addr} {k : Nat} {gd : Bool}
theorem can_gp {sp : List D → Option D} (g : GotT K mg base tb gd x st) (S : FnScope N ps (defScope st)) (hb : BA x st ps) (e : Env1 T P w K mg base tb k) (hc : chSs (scOf N st gd) b (defBody st) = true) (hsp : ∀ ds r, sp ds = some r → ds.length = ps.length → ∃ n, runP n T N.length b ds = some r) : Can P w K mg base tb (gk gd k + 1) x (.p ps.length sp) := by
  obtain ⟨f, fd, F, hm, ht⟩ := g
  exact can_p e F S hm (F.binds hb) ht hc hsp
theorem can_gm {sp : List D → Option (List D)} (g : GotT K mg base tb gd x st) (S : FnScope N ps (defScope st)) (hb : BA x st ps) (e : Env1 T P w K mg base tb k) (hc : chSs (scOf N st gd) b (defBody st) = true) (hsp : ∀ ds r, sp ds = some r → ds.length = ps.length → ∃ n, runM n T N.length b ds = some r) : Can P w K mg base tb (gk gd k + 1) x (.m ps.length sp) := by
  obtain ⟨f, fd, F, hm, ht⟩ := g
  exact ⟨.inl ⟨f, fd, ps, fng_m e F S ht hc hsp, hm, F.kp, F.binds hb⟩⟩
theorem can_gw {sp : List D → List D → Option (D × List D)} (g : GotT K mg base tb gd x st) (S : FnScope N ps (defScope st)) (hb : BA x st ps) (e : Env1 T P w K mg base tb k) (hc : chSs (scOf N st gd) b (defBody st) = true) (hsp : ∀ ds0 ds r, sp ds0 ds = some r → ds.length + 1 = ps.length → ∃ n, runW n T N.length b ds0 ds = some r) : Can P w K mg base tb (gk gd k + 1) x (.w ps.length sp) := by
  obtain ⟨f, fd, F, hm, ht⟩ := g
  exact can_w e F S hm (F.binds hb) ht hc hsp
theorem cank_gp {sp : List D → Option D} {n : Nat} {ks : List Str} {pl : List Nat} (g : GotT K mg base tb gd x st) (S : FnScope N ps (defScope st)) (hb : KA x st ps n ks pl) (e : Env1 T P w K mg base tb k) (hc : chSs (scOf N st gd) b (defBody st) = true) (hsp : ∀ ds r, sp ds = some r → ds.length = ps.length → ∃ n, runP n T N.length b ds = some r) : CanK P w K mg base tb (gk gd k + 1) x n ks pl (.p ps.length sp) := by
  obtain ⟨f, fd, F, hm, ht⟩ := g
  refine cank_p (fng_p e F S ht hc hsp) hm F.kp ?_
  obtain ⟨oc, od, kV, doc, pm, an, cdv, ct, osl, rfl, lk, hcd⟩ := F.ex
  exact fun s us ws _ h1 h2 => .of_eq (hb kV doc pm an cdv ct us ws h1 h2)
theorem law_g {fa : Addr} {sp : List D → Option D} {y : Str} (g : Got K mg x st) (S : FnScope N [y] (defScope st)) (hb : BA x st [y]) (hfa : mg x = some (.ref fa)) (hc : chSs (scOf N st) b (defBody st) = true) :
    ∃ fd : FuncData, (∀ (s : Shared) (u : Value), BindsTo s fd ⟨[u], []⟩ [(y, u)]) ∧ ∀ base, Env1 T P w K mg base tb k → (∀ ds r, sp ds = some r → ds.length = [y].length → ∃ n, runP n T N.length b ds = some r) → FnG P w K mg base (k + 1) fa fd [y] (SpP K tb 1 sp) := by
  obtain ⟨f, fd, F, hm⟩ := g
  rw [hfa] at hm
  cases hm
  refine ⟨fd, fun s u => ?_, fun base e hsp => fng_p (gd := false) e F S (fun h => by cases h) hc hsp⟩
  obtain ⟨oc, od, kV, doc, pm, an, cdv, ct, osl, rfl, lk, hcd⟩ := F.ex
  exact .of_eq (hb kV doc pm an cdv ct [u] rfl)
end
end
end
end Ev

set_option maxHeartbeats 4000000
namespace Ev
open PySem PySem.Spec PyProof.Rows L2

/-! ### the end, with tables of code objects -/
theorem lawGT {P : Program} {w : World} {K : PySem.W.Frag} {mg mb : Str → Option Value} {k : Nat} {fa a : Addr} {cs : List (Addr × Addr)} {fd : FuncData} {x : Str} {sp : Sp} {s₁ : Shared} {vs : List Value} {ns : List Int}
    (KX : K.In s₁.heap) (hns : s₁.heap.Ns mainGlobals mg) (hb : s₁.heap.Ns builtinsNs mb) (hbb : ∀ x : Str, x ≠ "__name__" → mb x = bootBuiltins x) (hlim : s₁.heap.NoLimit) (hg : s₁.gens = #[])
    (hT : ∀ p ∈ cs, s₁.heap.get? p.2 = some { cls := .none, data := .fields #[] }) (nT : ∀ p ∈ cs, K.lookup p.2 = none) (C : ∀ p ∈ cs, PySem.W.CodeHd s₁.heap p.1 p.2)
    (hbm : ∃ (bm : Addr) (ob : Obj), mg "__builtins__" = some (.ref bm) ∧ bm ≠ builtinsNs ∧ s₁.heap.get? bm = some ob ∧ ob.cls = .type "module" ∧ ob.dict = some builtinsNs ∧ ob.data = .plain)
    (ha : s₁.heap.get? a = some { cls := .type "list", data := .seq vs.toArray }) (hi : IntsAre vs ns) (hl : ns.length ≤ sizeLine) (hr : Room k callerA)
    (F : ∀ base : Heap, K.In base → base.Ns mainGlobals mg → (∀ p ∈ cs, GxR.TabB base mg p.1 p.2) → FnG P w K mg base k fa fd [x] sp) (hbind : ∀ (s : Shared) (u : Value), BindsTo s fd ⟨[u], []⟩ [(x, u)])
    (hK : K.lookup a = none)
    (hsp : ∀ (H : Hp) (o : Obj), H a = some (.frz o (.lst (ns.map V.int))) → (∀ p ∈ cs, H p.2 = some (.tbl #[])) → sp [.ref a] H (fun v _ => v = .bl true) E0) :
    codeAny (model P w) callerA (.call (.ref fa) ⟨[.ref a], []⟩) (fun r s' => r = .ok (.ret (.bool true)) ∧ OldK s₁.heap s'.heap ∧ s'.os = s₁.os ∧ AllBare s'.gens) s₁ := by
  have rv := vals_ints hi
  have lenV := hi.length
  have isT : ∀ b : Addr, b ∈ cs.map (·.2) → s₁.heap.get? b = some { cls := .none, data := .fields #[] } := fun b hb => by
    obtain ⟨p, hp, e⟩ := List.mem_map.mp hb
    rw [← e]
    exact hT p hp
  have aT : a ∉ cs.map (·.2) := fun z => by
    have q := isT a z
    rw [ha] at q
    have z' : Data.seq vs.toArray _ = Data.fields #[] := congrArg Obj.data (Option.some.inj q)
    cases z'
  have memT : ∀ p ∈ cs, p.2 ∈ cs.map (·.2) := fun p hp => List.mem_map.mpr ⟨p, hp, rfl⟩
  obtain ⟨H, hH⟩ : ∃ H : Hp, H = fun b => if b = a then some (.frz { cls := .type "list", data := .seq vs.toArray } (.lst (ns.map V.int))) else if b ∈ cs.map (·.2) then some (.tbl #[]) else none := ⟨_, rfl⟩
  have hHa : H a = some (.frz { cls := .type "list", data := .seq vs.toArray } (.lst (ns.map V.int))) := by rw [hH]; exact if_pos rfl
  have hHT : ∀ b, b ∈ cs.map (·.2) → H b = some (.tbl #[]) := fun b hb => by
    rw [hH]
    have : b ≠ a := fun z => aT (by rw [← z]; exact hb)
    exact (if_neg this).trans (if_pos hb)
  have hHN : ∀ b, b ≠ a → b ∉ cs.map (·.2) → H b = none := fun b h1 h2 => by
    rw [hH]
    exact (if_neg h1).trans (if_neg h2)
  have hA : ∀ b, H b ≠ none → b = a ∨ b ∈ cs.map (·.2) := fun b z => by
    by_cases h1 : b = a
    · exact .inl h1
    · by_cases h2 : b ∈ cs.map (·.2)
      · exact .inr h2
      · exact absurd (hHN b h1 h2) z
  have hok : HOk P w H s₁.heap := fun b u z => by
    rcases hA b (by rw [z]; simp) with rfl | hb
    · rw [hHa] at z
      cases z
      exact ⟨ha, by rw [List.length_map]; exact hl, vs, _, rv, ha⟩
    · rw [hHT b hb] at z
      cases z
      exact isT b hb
  have base_of : ∀ {b : Addr} {o : Obj}, s₁.heap.get? b = some o → H b = none → (hidT s₁.heap H).get? b = some o := fun e n => hidT_get e n
  have noD : ∀ {b : Addr} {o : Obj}, s₁.heap.get? b = some o → (∀ vs n, o.data ≠ .seq vs n) → o.data ≠ .fields #[] → H b = none := fun {b o} e h1 h2 => by
    cases q : H b with
    | none => rfl
    | some u =>
      rcases hA b (by rw [q]; simp) with e' | e'
      · rw [e', ha] at e
        cases e
        exact (h1 _ _ rfl).elim
      · rw [isT b e'] at e
        cases e
        exact (h2 rfl).elim
  have noA : ∀ {b : Addr} {o : Obj} {es : Array DictEntry} {ep : Nat}, s₁.heap.get? b = some o → o.data = .dict es ep → H b = none := fun {b o es ep} e d => by
    refine noD e (fun vs n z => ?_) fun z => ?_
    · rw [d] at z
      cases z
    · rw [d] at z
      cases z
  have nsK : ∀ {b : Addr} {m : Str → Option Value}, s₁.heap.Ns b m → (hidT s₁.heap H).Ns b m := fun {b m} ⟨o, es, ep, e, d, r⟩ => ⟨o, es, ep, base_of e (noA e d), d, r⟩
  have hKb : K.In (hidT s₁.heap H) := fun b o e => base_of (KX b o e) (by
    cases q : H b with
    | none => rfl
    | some u =>
      rcases hA b (by rw [q]; simp) with e' | e'
      · rw [e', hK] at e
        cases e
      · obtain ⟨p, hp, ep⟩ := List.mem_map.mp e'
        rw [← ep, nT p hp] at e
        cases e)
  have hM : L2.Mod K mg (hidT s₁.heap H) := ⟨hKb, nsK hns, ⟨mb, nsK hb, hbb⟩, let ⟨mc, h1, h2⟩ := hlim; ⟨mc, nsK h1, h2⟩⟩
  have TB : ∀ p ∈ cs, GxR.TabB (hidT s₁.heap H) mg p.1 p.2 := fun p hp => by
    have hTp := hT p hp
    refine ⟨?_, ?_, fun z => ?_⟩
    · obtain ⟨o, us, file, tf, flags, tg, inF, text, tt, e1, r1, r2, r3, r4, r5, r6, r7, r8, hne⟩ := C p hp
      refine ⟨o, us, file, tf, flags, tg, inF, text, tt, base_of e1 (noD e1 (fun vs n z => ?_) fun z => ?_), r1, r2, r3, r4, r5, r6, r7, r8, hne⟩
      · rw [r2] at z
        cases z
      · rw [r2] at z
        cases z
        simp at r3
    · obtain ⟨bm, ob, b1, b2, b3, b4, b5, b6⟩ := hbm
      have nG : bm ≠ mainGlobals := fun q => by
        obtain ⟨o, es, ep, e, hd, _⟩ := hns
        rw [q, e] at b3
        cases b3
        rw [hd] at b6
        cases b6
      have nP : bm ≠ p.2 := fun q => by
        rw [q, hTp] at b3
        cases b3
        cases b6
      refine ⟨bm, ob, b1, b2, nG, nP, base_of b3 (noD b3 (fun vs n z => ?_) fun z => ?_), b4, b5, b6⟩
      · rw [b6] at z
        cases z
      · rw [b6] at z
        cases z
    · obtain ⟨o, es, ep, e, hd, _⟩ := hns
      rw [z, hTp] at e
      cases e
      cases hd
  have e0 : Env0 P w K mg (hidT s₁.heap H) callerA [] s₁ H := ⟨rfl, hM, fun b o e => of_hidT e, Nat.le_of_eq (hidT_size _ _), trivial, fun b hb => absurd (show b ∈ ([] : List Addr) from hb) (by simp), hok, .of_eq hg⟩
  refine codeAny_mono ((F _ hKb (nsK hns) TB).run callerA [] s₁ H ⟨[.ref a], []⟩ [.ref a] [.ref a] _ _ rfl hr e0 (hbind s₁ (.ref a)) (.cons rfl .nil) (hsp H _ hHa fun p hp => hHT _ (memT p hp))) fun r s' h => ?_
  match r, h with
  | .error e, h => exact False.elim h
  | .ok (.ret u), ⟨v, H', os, bare, un, hok', r', q⟩ =>
    obtain rfl : v = .bl true := q
    obtain rfl : u = Value.bool true := r'
    have key : ∀ b o, b ∉ cs.map (·.2) → s₁.heap.get? b = some o → s'.heap.get? b = some o := fun b o nb e => by
      by_cases z : b = a
      · subst z
        rw [ha] at e
        cases e
        exact (hok' b _ (un.frzs b _ _ hHa)).1
      · exact un.keep b o e (hHN b z nb) (by simp [frs]) (by simp)
    have grown : ∀ p ∈ cs, ∃ more : Array Value, s'.heap.get? p.2 = some { cls := .none, data := .fields more } := fun p hp => by
      obtain ⟨more, z⟩ := un.tbls p.2 #[] (hHT _ (memT p hp))
      exact ⟨_, hok' p.2 _ z⟩
    refine ⟨rfl, ⟨fun b o e => ?_, fun b o e => ?_⟩, os, bare⟩
    · by_cases hb : b ∈ cs.map (·.2)
      · obtain ⟨p, hp, ep⟩ := List.mem_map.mp hb
        obtain ⟨more, hm⟩ := grown p hp
        rw [← ep] at e ⊢
        rw [hT p hp] at e
        cases e
        exact .inr (.inl ⟨((C p hp).tab (hT p hp)).isCodeTable, rfl, #[], more, rfl, by rw [Array.empty_append]; exact hm⟩)
      · exact .inl (key b o hb e)
    · by_cases hb : b ∈ cs.map (·.2)
      · obtain ⟨p, hp, ep⟩ := List.mem_map.mp hb
        obtain ⟨more, hm⟩ := grown p hp
        rw [← ep]
        exact ⟨_, hm⟩
      · exact ⟨o, key b o hb e⟩
/-- without what stands at these -/
def dropL : List Addr → PySem.W.Frag → PySem.W.Frag
  | [], K => K
  | a :: l, K => dropK a (dropL l K)
theorem dropL_in {X : PySem.W.Frag} {h : Heap} (x : X.In h) : ∀ l : List Addr, (dropL l X).In h
  | [] => x
  | a :: l => dropK_in (dropL_in x l)
theorem dropL_none {K : PySem.W.Frag} : ∀ {l : List Addr} {b : Addr}, b ∈ l → (dropL l K).lookup b = none
  | a :: l, b, h => by
    by_cases e : b = a
    · subst e; exact dropK_self
    · show (dropK a (dropL l K)).lookup b = none
      rw [dropK_lookup e]
      rcases List.mem_cons.mp h with z | z
      · exact absurd z e
      · exact dropL_none z
theorem got_dropO {K : PySem.W.Frag} {mg : Str → Option Value} {x : Str} {st : Stmt} {h : Heap} {a : Addr} {oa : Obj} (X : K.In h) (ha : h.get? a = some oa) (h1 : ∀ fd, oa.data ≠ .func fd) (h2 : ∀ vs, oa.data = .fields vs → vs.toList = []) (g : Got K mg x st) : Got (dropK a K) mg x st := by
  obtain ⟨f, fd, F, hm⟩ := g
  obtain ⟨oc, od, kV, doc, pm, an, cdv, ct, osl, rfl, lk, hcd⟩ := F.ex
  have hf : f ≠ a := fun e => by
    subst e
    have := X _ _ lk
    rw [ha] at this
    cases this
    exact h1 _ rfl
  have lk' : (dropK a K).lookup f = some _ := (dropK_lookup hf).trans lk
  refine ⟨f, _, ⟨⟨oc, od, kV, doc, pm, an, cdv, ct, osl, rfl, lk', ?_⟩, ?_⟩, hm⟩
  · unfold PySem.W.codeIn at hcd ⊢
    cases cdv with
    | ref c =>
      dsimp only at hcd ⊢
      by_cases hc : c = a
      · subst hc
        split at hcd
        · rename_i vs' _ e
          have := X _ _ e
          rw [ha] at this
          cases this
          rw [h2 _ rfl] at hcd
          cases hcd
        · cases hcd
      · rw [dropK_lookup hc]
        exact hcd
    | _ => cases hcd
  · unfold PySem.W.keepIn
    dsimp only
    rw [lk']
theorem got_dropL {K : PySem.W.Frag} {mg : Str → Option Value} {x : Str} {st : Stmt} {h : Heap} (X : K.In h) (g : Got K mg x st) : ∀ l : List Addr, (∀ b ∈ l, ∃ o, h.get? b = some o ∧ (∀ fd, o.data ≠ .func fd) ∧ ∀ vs, o.data = .fields vs → vs.toList = []) → Got (dropL l K) mg x st
  | [], _ => g
  | a :: l, hl => by
    obtain ⟨o, h1, h2, h3⟩ := hl a List.mem_cons_self
    exact got_dropO (dropL_in X l) h1 h2 h3 (got_dropL X g l fun b hb => hl b (List.mem_cons_of_mem _ hb))
theorem con_dropL {K : PySem.W.Frag} {mg : Str → Option Value} {x : Str} {l : List Int} {h : Heap} (X : K.In h) (c : ConT K mg x l) : ∀ bs : List Addr, (∀ b ∈ bs, ∃ o, h.get? b = some o ∧ ∀ its m, o.cls = .type "tuple" → o.data ≠ .seq its m) → ConT (dropL bs K) mg x l := by
  obtain ⟨a, o, its, m, h1, h2, h3, h4, h5⟩ := c
  intro bs hb
  refine ⟨a, o, its, m, h1, ?_, h3, h4, h5⟩
  have ha := X _ _ h2
  induction bs with
  | nil => exact h2
  | cons b bs ih =>
    have ne : a ≠ b := fun e => by
      subst e
      obtain ⟨o', g1, g2⟩ := hb a List.mem_cons_self
      rw [ha] at g1
      cases g1
      exact g2 _ _ h3 h4
    exact (dropK_lookup ne).trans (ih fun b hb' => hb b (List.mem_cons_of_mem _ hb'))
/-- a def's code object and its table -/
def TabX (h : Heap) (mg : Str → Option Value) (x : Str) (p : Addr × Addr) : Prop := ∃ (f : Addr) (o : Obj) (fd : FuncData), mg x = some (.ref f) ∧ h.get? f = some o ∧ o.data = .func fd ∧ fd.code = .ref p.1 ∧ PySem.W.CodeHd h p.1 p.2 ∧ h.get? p.2 = some { cls := .none, data := .fields #[] }
abbrev TabsX (h : Heap) (mg : Str → Option Value) : List Str → List (Addr × Addr) → Prop := Paired (TabX h mg)
theorem TabsX.uncons {h : Heap} {mg : Str → Option Value} {x : Str} {ds : List Str} {cs : List (Addr × Addr)} (t : TabsX h mg (x :: ds) cs) : ∃ p cs', cs = p :: cs' ∧ TabX h mg x p ∧ TabsX h mg ds cs' := by
  cases t with
  | cons a b => exact ⟨_, _, rfl, a, b⟩
theorem TabsX.mem {h : Heap} {mg : Str → Option Value} : ∀ {ds : List Str} {cs : List (Addr × Addr)}, TabsX h mg ds cs → ∀ p ∈ cs, ∃ x, TabX h mg x p
  | _, _, .nil, _, hp => by cases hp
  | _, _, .cons a b, p, hp => by
    rcases List.mem_cons.mp hp with rfl | hp
    · exact ⟨_, a⟩
    · exact TabsX.mem b p hp
theorem Got.tx {K : PySem.W.Frag} {mg : Str → Option Value} {x : Str} {st : Stmt} {h base : Heap} {tb : List Addr} {p : Addr × Addr} (X : K.In h) (g : Got K mg x st) (t : TabX h mg x p) (TB : GxR.TabB base mg p.1 p.2) (hp : p.2 ∈ tb) : GotT K mg base tb true x st := by
  obtain ⟨f, fd, F, hm⟩ := g
  refine ⟨f, fd, F, hm, fun _ => ⟨p.1, p.2, ?_, TB, hp⟩⟩
  obtain ⟨oc, od, kV, doc, pm, an, cdv, ct, osl, rfl, lk, hcd⟩ := F.ex
  obtain ⟨f', o, fd', e1, e2, e3, e4, _⟩ := t
  rw [hm] at e1
  cases e1
  have := X _ _ lk
  rw [this] at e2
  cases e2
  cases e3
  exact e4
/-- the law at its script -/
theorem sp_lawT {K : PySem.W.Frag} {sp : List D → Option D} {H : Hp} {a : Addr} {ns : List Int} {o : Obj} {tb : List Addr} (ha : H a = some (.frz o (.lst (ns.map V.int)))) (ht : ∀ P ∈ tb, H P = some (.tbl #[])) (h : sp [.list (ns.map .int)] = some (.bool true)) : SpP K tb 1 sp [.ref a] H (fun v _ => v = .bl true) E0 := by
  obtain ⟨F, hF⟩ : ∃ F : Hp, F = fun b => if b = a then H a else none := ⟨_, rfl⟩
  have hFa : F a = H a := by rw [hF]; exact if_pos rfl
  have hFn : ∀ b, b ≠ a → F b = none := fun b e => by rw [hF]; exact if_neg e
  have hin : ∀ ns : List Int, RpAll K F (ns.map V.int) (ns.map .int) := fun ns => by
    induction ns with
    | nil => exact .nil
    | cons n ns ih => exact .cons (.int n) ih
  have hne : ∀ P ∈ tb, P ≠ a := fun P hP z => by
    have := ht P hP
    rw [z, ha] at this
    cases this
  refine ⟨rfl, fun _ => none, F, [.list (ns.map .int)], .bool true, ⟨fun p o e => ?_, (fun p o e => by cases e), (fun P hP => ⟨⟨#[], ht P hP, trivial⟩, hFn P (hne P hP), rfl⟩)⟩, .cons (.lst (.inr ⟨o, by rw [hFa]; exact ha⟩) (hin ns)) .nil, h, fun v F' H' s' w' rv => ?_⟩
  · by_cases z : p = a
    · subst z; rw [hFa] at e; exact e
    · rw [hFn p z] at e; cases e
  · cases rv
    rfl
theorem walkGT {l : PySem.W.OpenLaw} {n k : Nat} {q : Program} {loose : List Str} {XP : (Str → Option Value) → Heap → Prop} {YP : World → Heap → Prop} {d : DefRec} {K : Params → PySem.W.Frag} {f : List D → Option D} {x : Str} (ds : List Str)
    (hds : (ds.all fun x => (recsOf q).any fun d => d.name == x) = true)
    (hn : l.most = some n) (hn2 : n ≤ sizeLine) (hdf : d.params.defaults = []) (hr : Room k callerA)
    (hY : ∀ (w : World) (h : Heap), YP w h → (K w.params).In h)
    (F : ∀ (w : World) (mg : Str → Option Value) (fa : Addr) (h : Heap), (K w.params).In h → h.Ns mainGlobals mg → mg d.name = some (.ref fa) → ∀ (K' : PySem.W.Frag) (cs : List (Addr × Addr)), TabsX h mg ds cs → K'.In h → (∀ x st, Got (K w.params) mg x st → Got K' mg x st) → (∀ x l, ConT (K w.params) mg x l → ConT K' mg x l) →
      ∃ fd : FuncData, (∀ (s : Shared) (u : Value), BindsTo s fd ⟨[u], []⟩ [(x, u)]) ∧
        ∀ base : Heap, (∀ p ∈ cs, GxR.TabB base mg p.1 p.2) → FnG l.prog w K' mg base k fa fd [x] (SpP K' (cs.map (·.2)) 1 f))
    (hf : ∀ ns : List Int, ns.length ≤ n → (∀ k ∈ ns, Builtin.Int.intBits k ≤ 1048576) → f [.list (ns.map .int)] = some (.bool true)) :
    PySem.W.WalkO q loose XP YP l.row.toRowW d [] (fun f vs => PySem.call f vs) := by
  refine Att.attach_callB hn hdf fun w s₀ s₁ mg mb fa o pm cd doc a vs ns G Y ho hd hcd hmg hobj hints hlen hbits hg => ?_
  have KX := hY w _ Y
  have tabs : ∀ ds : List Str, (ds.all fun x => (recsOf q).any fun d => d.name == x) = true → ∃ cs, TabsX s₁.heap mg ds cs := by
    intro ds
    induction ds with
    | nil => exact fun _ => ⟨[], .nil⟩
    | cons x ds ih =>
      intro h
      rw [List.all_cons, Bool.and_eq_true] at h
      obtain ⟨cs, hcs⟩ := ih h.2
      obtain ⟨d', hm, hn'⟩ := List.any_eq_true.mp h.1
      have hn' : d'.name = x := beq_iff_eq.mp hn'
      obtain ⟨f', o', fd', c, P, h1, h2, h3, h4, h5, h6⟩ := G.T.tab d' hm
      rw [hn'] at h1
      exact ⟨(c, P) :: cs, .cons ⟨f', o', fd', h1, h2, h3, h4, PySem.W.CodeHd.of h5 h6, h6.2⟩ hcs⟩
  obtain ⟨cs, hcs⟩ := tabs ds hds
  have bad : ∀ b ∈ a :: cs.map (·.2), ∃ o, s₁.heap.get? b = some o ∧ (∀ fd, o.data ≠ .func fd) ∧ ∀ vs, o.data = .fields vs → vs.toList = [] := fun b hb => by
    rcases List.mem_cons.mp hb with rfl | hb
    · exact ⟨_, hobj, (fun fd z => by cases z), (fun vs z => by cases z)⟩
    · obtain ⟨p, hp, rfl⟩ := List.mem_map.mp hb
      obtain ⟨y, _, _, _, _, _, _, _, _, e⟩ := hcs.mem p hp
      exact ⟨_, e, (fun fd z => by cases z), (fun vs z => by cases z; rfl)⟩
  have bad2 : ∀ b ∈ a :: cs.map (·.2), ∃ o, s₁.heap.get? b = some o ∧ ∀ its m, o.cls = .type "tuple" → o.data ≠ .seq its m := fun b hb => by
    rcases List.mem_cons.mp hb with rfl | hb
    · exact ⟨_, hobj, fun its m z => absurd (show Value.type "list" = Value.type "tuple" from z) (by decide)⟩
    · obtain ⟨p, hp, rfl⟩ := List.mem_map.mp hb
      obtain ⟨y, _, _, _, _, _, _, _, _, e⟩ := hcs.mem p hp
      exact ⟨_, e, fun its m z => by cases z⟩
  obtain ⟨fd, hb, hF⟩ := F w mg fa _ KX G.T.g hmg (dropL (a :: cs.map (·.2)) (K w.params)) cs hcs (dropL_in KX _) (fun x st g => got_dropL KX g _ bad) (fun x l c => con_dropL KX c _ bad2)
  refine lawGT (cs := cs) (dropL_in KX _) G.T.g G.T.b G.T.builtins G.T.nolimit hg (fun p hp => ?_) (fun p hp => dropL_none (List.mem_cons_of_mem _ (List.mem_map.mpr ⟨p, hp, rfl⟩))) (fun p hp => ?_) G.T.bmain hobj hints (Nat.le_trans hlen hn2) hr (fun base _ _ hTB => hF base hTB) hb (dropL_none List.mem_cons_self) fun H o h1 h2 => sp_lawT h1 (fun P hP => ?_) (hf ns hlen hbits)
  · obtain ⟨y, _, _, _, _, _, _, _, _, e⟩ := hcs.mem p hp
    exact e
  · obtain ⟨y, _, _, _, _, _, _, _, e, _⟩ := hcs.mem p hp
    exact e
  · obtain ⟨p, hp, rfl⟩ := List.mem_map.mp hP
    exact h2 p hp
end Ev

set_option maxHeartbeats 1000000
namespace Ev
open PySem L2
/-! ### tools for values -/
theorem evComp_inv {f : D → En → Option (Option D × En)} {P : En → Prop} {g : D → Option D} : ∀ {xs acc : List D} {ρ : En}, (∀ x ∈ xs, ∀ ρ, P ρ → ∃ ρ', f x ρ = some (g x, ρ') ∧ P ρ') → P ρ → ∃ ρ', evComp f xs acc ρ = some (acc ++ xs.filterMap g, ρ') ∧ P ρ'
  | [], acc, ρ, _, h => ⟨ρ, by simp [evComp], h⟩
  | x :: xs, acc, ρ, hf, h => by
    obtain ⟨ρ1, e1, h1⟩ := hf x List.mem_cons_self ρ h
    cases hg : g x with
    | none =>
      obtain ⟨ρ2, e2, h2⟩ := evComp_inv (xs := xs) (acc := acc) (fun y hy => hf y (List.mem_cons_of_mem _ hy)) h1
      exact ⟨ρ2, by simp only [evComp, e1, hg, e2, List.filterMap_cons], h2⟩
    | some d =>
      obtain ⟨ρ2, e2, h2⟩ := evComp_inv (xs := xs) (acc := acc ++ [d]) (fun y hy => hf y (List.mem_cons_of_mem _ hy)) h1
      exact ⟨ρ2, by simp only [evComp, e1, hg, e2, List.filterMap_cons, List.append_assoc, List.singleton_append], h2⟩
/-- a loop as a fold of a state; R: what the other slots may be -/
theorem evFor_fold {S : Type} {f : D → En → Option Oc} {R : S → En → Prop} {step : S → D → S} : ∀ {xs : List D} {s : S} {ρ : En}, (∀ x ∈ xs, ∀ s ρ, R s ρ → ∃ ρ', f x ρ = some (.nx ρ') ∧ R (step s x) ρ') → R s ρ → ∃ ρ', evFor f xs ρ = some (.nx ρ') ∧ R (xs.foldl step s) ρ'
  | [], s, ρ, _, h => ⟨ρ, rfl, h⟩
  | x :: xs, s, ρ, hf, h => by
    obtain ⟨ρ1, e1, h1⟩ := hf x List.mem_cons_self s ρ h
    obtain ⟨ρ2, e2, h2⟩ := evFor_fold (xs := xs) (fun y hy => hf y (List.mem_cons_of_mem _ hy)) h1
    exact ⟨ρ2, by simp only [evFor, e1, e2], h2⟩
/-- a while loop by a measure -/
theorem evWhl_inv {c : En → Option (Bool × En)} {b : En → Option Oc} {P Q : En → Prop} (μ : En → Nat) (h : ∀ ρ, P ρ → (∃ ρ', c ρ = some (false, ρ') ∧ Q ρ') ∨ ∃ ρ1 ρ2, c ρ = some (true, ρ1) ∧ b ρ1 = some (.nx ρ2) ∧ P ρ2 ∧ μ ρ2 < μ ρ) : ∀ (n : Nat) (ρ : En), P ρ → μ ρ < n → ∃ ρ', evWhl c b n ρ = some (.nx ρ') ∧ Q ρ'
  | 0, ρ, _, hn => absurd hn (Nat.not_lt_zero _)
  | n + 1, ρ, hp, hn => by
    rcases h ρ hp with ⟨ρ', e, q⟩ | ⟨ρ1, ρ2, e1, e2, p2, hm⟩
    · exact ⟨ρ', by simp only [evWhl, e], q⟩
    · obtain ⟨ρ', e3, q⟩ := evWhl_inv μ h n ρ2 p2 (by omega)
      exact ⟨ρ', by simp only [evWhl, e1, e2, e3], q⟩
theorem mulOk_r {i j : Int} (h : -(2 ^ 64) < j) (h2 : j < 2 ^ 64) : mulOk i j = true := by
  unfold mulOk; simp only [Bool.or_eq_true, decide_eq_true_eq]; exact .inr (.inl ⟨h, h2⟩)
theorem mulOk_l {i j : Int} (h : -(2 ^ 64) < i) (h2 : i < 2 ^ 64) : mulOk i j = true := by
  unfold mulOk; simp only [Bool.or_eq_true, decide_eq_true_eq]; exact .inl ⟨h, h2⟩
theorem shaped_int (i : Int) : SeqAt.shaped (.int i) = true := by first | rfl | simp [SeqAt.shaped, PyData.canLay0, PyData.depth]
theorem cmp_eq (i j : Int) : cmpD .Eq (.int i) (.int j) = some (decide (i = j)) := by
  unfold cmpD; simp only [shaped_int, Bool.and_self, if_true]; congr 1
theorem cmp_ne (i j : Int) : cmpD .NotEq (.int i) (.int j) = some (!decide (i = j)) := by
  unfold cmpD; simp only [shaped_int, Bool.and_self, if_true]; congr 2
end Ev

set_option maxHeartbeats 1000000
namespace Ev
open PySem L2
/-- a number's size -/
def Bd (n : Nat) (i : Int) : Prop := i.natAbs < 2 ^ n
theorem Bd.mono {m n : Nat} {i : Int} (h : Bd m i) (hn : m ≤ n) : Bd n i := Nat.lt_of_lt_of_le h (Nat.pow_le_pow_right (by decide) hn)
theorem Bd.mul {m n : Nat} {i j : Int} (h : Bd m i) (h2 : Bd n j) : Bd (m + n) (i * j) := by
  unfold Bd at *
  rw [Int.natAbs_mul, Nat.pow_add]
  exact Nat.mul_lt_mul'' h h2
theorem Bd.add {n : Nat} {i j : Int} (h : Bd n i) (h2 : Bd n j) : Bd (n + 1) (i + j) := by
  unfold Bd at *
  have := Int.natAbs_add_le i j
  rw [Nat.pow_succ]; omega
theorem Bd.sub {n : Nat} {i j : Int} (h : Bd n i) (h2 : Bd n j) : Bd (n + 1) (i - j) := by
  unfold Bd at *
  rw [Nat.pow_succ]; omega
theorem Bd.neg {n : Nat} {i : Int} (h : Bd n i) : Bd n (-i) := by
  unfold Bd at *; omega
theorem Bd.mulOk {m n : Nat} {i j : Int} (h : Bd m i) (h2 : Bd n j) (hmn : m + n < 1000000) : mulOk i j = true := by
  unfold Ev.mulOk
  simp only [Bool.or_eq_true, decide_eq_true_eq]
  refine .inr (.inr ?_)
  have l : ∀ {k : Nat} {x : Int}, Bd k x → x.natAbs.log2 ≤ k := fun {k x} hk => by
    unfold Bd at hk
    by_cases z : x.natAbs = 0
    · rw [z]; simp
    · exact Nat.le_of_lt ((Nat.log2_lt z).mpr hk)
  have := l h
  have := l h2
  omega
/-! ### what may be shown -/
theorem int_short {n : Nat} {i : Int} (h : Bd n i) (hn : n ≤ 1600) : i.natAbs < 10 ^ 500 ∧ i.natAbs.log2 < 1920 := by
  have h1 : i.natAbs < 2 ^ 1600 := h.mono hn
  constructor
  · exact Nat.lt_of_lt_of_le h1 (by decide +kernel)
  · by_cases z : i.natAbs = 0
    · rw [z]; decide
    · exact (Nat.log2_lt z).mpr (Nat.lt_of_lt_of_le h1 (Nat.pow_le_pow_right (by decide) (by decide)))
theorem int_shown {i : Int} (h : i.natAbs < 10 ^ 500) : (PyData.shown (.int i)).length ≤ 501 := by
  have e := int_text_length_le10 (k := 500) (by decide) h
  show (Str.ofString (toString i)).length ≤ 501
  rw [ofString_length]; exact e
/-- shown without harm -/
structure Tame (d : D) : Prop where
  sh : d.showable = true
  nd : d.hasDict = false
  lv : d.leavesShort 501 = true
  dp : d.depth ≤ 3
  wt : d.weight ≤ 5000
theorem reprOk_of {d : D} (h1 : d.showable = true) (h2 : d.hasDict = false) (h3 : d.leavesShort 501 = true) (hd : d.depth ≤ 20) (hw : d.weight ≤ 20000) : reprOk d = true := by
  have := PyData.shown_le 501 (by decide) d h3
  have hs : d.shown.length + 64 ≤ sizeLine := by
    have e : sizeLine = 16777216 := by decide
    rw [e]
    have : (501 + 2) * d.weight ≤ (501 + 2) * 20000 := Nat.mul_le_mul_left _ hw
    omega
  unfold reprOk
  simp [h1, h2, hd, hs]
theorem tame_int {n : Nat} {i : Int} (h : Bd n i) (hn : n ≤ 1600) : Tame (.int i) := by
  obtain ⟨h1, h2⟩ := int_short h hn
  refine ⟨by simp [PyData.showable, h2], by simp [PyData.hasDict], by simp [PyData.leavesShort, int_shown h1], by simp [PyData.depth], ?_⟩
  simp only [PyData.weight]
  split <;> omega
theorem tame_int_wt {n : Nat} {i : Int} (h : Bd n i) (hn : n ≤ 1600) : (PyData.int i).weight ≤ 1920 := by
  obtain ⟨h1, h2⟩ := int_short h hn
  simp only [PyData.weight]
  split <;> omega
theorem tame_int_dp (i : Int) : (PyData.int i).depth = 0 := by simp [PyData.depth]
theorem Tame.repr {d : D} (h : Tame d) : reprOk d = true := reprOk_of h.sh h.nd h.lv (by have := h.dp; omega) (by have := h.wt; omega)
theorem Tame.repr2 {a b : D} (ha : Tame a) (hb : Tame b) : reprOk (.list [a, b]) = true := by
  refine reprOk_of ?_ ?_ ?_ ?_ ?_
  · show PyData.showableAll [_, _] = true
    simp only [PyData.showableAll, ha.sh, hb.sh, Bool.and_self]
  · show PyData.hasDictAll [_, _] = false
    simp only [PyData.hasDictAll, ha.nd, hb.nd, Bool.or_self]
  · show PyData.leavesShortAll 501 [_, _] = true
    simp only [PyData.leavesShortAll, ha.lv, hb.lv, Bool.and_self]
  · show PyData.depthAll [_, _] + 1 ≤ 20
    simp only [PyData.depthAll]
    have := ha.dp; have := hb.dp; omega
  · show PyData.weightAll [_, _] ≤ 20000
    simp only [PyData.weightAll]
    have := ha.wt; have := hb.wt; omega
theorem Tame.repr3 {a b c : D} (ha : Tame a) (hb : Tame b) (hc : Tame c) : reprOk (.list [a, b, c]) = true := by
  refine reprOk_of ?_ ?_ ?_ ?_ ?_
  · show PyData.showableAll [_, _, _] = true
    simp only [PyData.showableAll, ha.sh, hb.sh, hc.sh, Bool.and_self]
  · show PyData.hasDictAll [_, _, _] = false
    simp only [PyData.hasDictAll, ha.nd, hb.nd, hc.nd, Bool.or_self]
  · show PyData.leavesShortAll 501 [_, _, _] = true
    simp only [PyData.leavesShortAll, ha.lv, hb.lv, hc.lv, Bool.and_self]
  · show PyData.depthAll [_, _, _] + 1 ≤ 20
    simp only [PyData.depthAll]
    have := ha.dp; have := hb.dp; have := hc.dp; omega
  · show PyData.weightAll [_, _, _] ≤ 20000
    simp only [PyData.weightAll]
    have := ha.wt; have := hb.wt; have := hc.wt; omega
theorem eqv_str (x : Str) : PyData.eqv (.str x) (.str x) = true := by simp [PyData.eqv]
/-! ### texts that may be compared -/
def TxO (x : Str) : Prop := ∀ c ∈ x.cps.toList, c < 0x110000
theorem so_of (s : String) : TxO (Str.ofString s) := by
  intro c hc
  rw [Str.ofString_eq_toList] at hc
  simp only [List.mem_map] at hc
  obtain ⟨ch, _, rfl⟩ := hc
  have := ch.valid
  have h : ch.toNat.isValidChar := this
  unfold Nat.isValidChar at h
  omega
theorem so_app {a b : Str} (h : TxO a) (h2 : TxO b) : TxO (a ++ b) := by
  intro c hc
  have e : (a ++ b).cps.toList = a.cps.toList ++ b.cps.toList := by
    show (a.cps ++ b.cps).toList = _
    simp
  rw [e] at hc
  rcases List.mem_append.mp hc with z | z
  · exact h c z
  · exact h2 c z
theorem so_textFrom : ∀ (ts : List Str) (k : Nat) (acc : Str), TxO acc → (∀ t ∈ ts, TxO t) → TxO (textFrom k acc ts)
  | [], k, acc, h, _ => h
  | t :: ts, k, acc, h, ht => by
    refine so_textFrom ts (k + 1) _ (so_app (so_app h ?_) (ht t List.mem_cons_self)) fun u hu => ht u (List.mem_cons_of_mem _ hu)
    split <;> exact so_of _
theorem so_list {ts : List Str} (ht : ∀ t ∈ ts, TxO t) : TxO (listText ts) := so_app (so_textFrom ts 0 _ (so_of "[") ht) (so_of "]")
theorem so_join : ∀ {ts : List Str}, (∀ t ∈ ts, TxO t) → TxO (Str.join ", " ts)
  | [], _ => fun c hc => by cases hc
  | [x], h => h x List.mem_cons_self
  | x :: y :: r, h => so_app (so_app (h x List.mem_cons_self) (so_of ", ")) (so_join fun u hu => h u (List.mem_cons_of_mem _ hu))
theorem so_tuple {ts : List Str} (ht : ∀ t ∈ ts, TxO t) : TxO (tupleText ts) := by
  refine so_app (so_app (so_of "(") (so_join ht)) ?_
  split <;> exact so_of _
theorem so_int (i : Int) : TxO (PyData.shown (.int i)) := so_of (toString i)
theorem so_L2 {a b : D} (h : TxO a.shown) (h2 : TxO b.shown) : TxO (PyData.list [a, b]).shown := by
  refine so_list (ts := [_, _]) fun t ht => ?_
  simp only [PyData.shownAll, List.mem_cons, List.not_mem_nil, or_false] at ht
  rcases ht with rfl | rfl <;> assumption
theorem so_L3 {a b c : D} (h : TxO a.shown) (h2 : TxO b.shown) (h3 : TxO c.shown) : TxO (PyData.list [a, b, c]).shown := by
  refine so_list (ts := [_, _, _]) fun t ht => ?_
  simp only [PyData.shownAll, List.mem_cons, List.not_mem_nil, or_false] at ht
  rcases ht with rfl | rfl | rfl <;> assumption
theorem shaped_so {x : Str} (h : TxO x) : SeqAt.shaped (.str x) = true := by
  have h1 : (PyData.str x).canLay0 = true := by
    show x.cps.all (· < 0x110000) = true
    rw [Array.all_eq_true_iff_forall_mem]
    intro c hc
    exact decide_eq_true (h c (Array.mem_toList_iff.mpr hc))
  simp [SeqAt.shaped, h1, PyData.depth]
theorem ne_same {x : Str} (h : TxO x) : cmpD .NotEq (.str x) (.str x) = some false := by
  unfold cmpD; simp [shaped_so h, eqv_str]
theorem eq_same {x : Str} (h : TxO x) : cmpD .Eq (.str x) (.str x) = some true := by
  unfold cmpD; simp [shaped_so h, eqv_str]
theorem evFor_inv {f : D → En → Option Oc} {Q : En → Prop} : ∀ {xs : List D} {ρ : En}, (∀ x ∈ xs, ∀ ρ, Q ρ → ∃ ρ', f x ρ = some (.nx ρ') ∧ Q ρ') → Q ρ → ∃ ρ', evFor f xs ρ = some (.nx ρ') ∧ Q ρ'
  | [], ρ, _, h => ⟨ρ, rfl, h⟩
  | x :: xs, ρ, hf, h => by
    obtain ⟨ρ1, e1, h1⟩ := hf x List.mem_cons_self ρ h
    obtain ⟨ρ2, e2, h2⟩ := evFor_inv (xs := xs) (fun y hy => hf y (List.mem_cons_of_mem _ hy)) h1
    exact ⟨ρ2, by simp only [evFor, e1, e2], h2⟩
theorem lenOk1 : lenOk 1 = true := by decide +kernel
theorem lenOk2 : lenOk 2 = true := by decide +kernel
theorem lenOk3 : lenOk 3 = true := by decide +kernel

/-! ### whole numbers in a row -/
theorem intsD_map : ∀ l : List Int, intsD (l.map .int) = some l
  | [] => rfl
  | i :: l => by simp [intsD, intsD_map l]
theorem boolsD_tr : ∀ l : List D, boolsD (l.map fun _ => PyData.bool true) = some (l.map fun _ => true)
  | [] => rfl
  | i :: l => by simp [boolsD, boolsD_tr l]
theorem Bd.wt {n : Nat} {i : Int} (h : Bd n i) : (PyData.int i).weight ≤ n := by
  simp only [PyData.weight]
  split
  · omega
  · rename_i z
    have z' : i.natAbs ≠ 0 := fun e => z (by simp at e; simp [e])
    exact (Nat.log2_lt z').mpr h
theorem tame_all {n : Nat} (hn : n ≤ 1600) : ∀ {l : List Int}, (∀ x ∈ l, Bd n x) → PyData.showableAll (l.map .int) = true ∧ PyData.hasDictAll (l.map .int) = false ∧ PyData.leavesShortAll 501 (l.map .int) = true ∧ PyData.depthAll (l.map .int) = 0 ∧ PyData.weightAll (l.map .int) ≤ l.length * (n + 1)
  | [], _ => by simp [PyData.showableAll, PyData.hasDictAll, PyData.leavesShortAll, PyData.depthAll, PyData.weightAll]
  | i :: l, h => by
    have hi := h i List.mem_cons_self
    obtain ⟨a1, a2, a3, a4, a5⟩ := tame_int hi hn
    obtain ⟨b1, b2, b3, b4, b5⟩ := tame_all hn (l := l) fun x hx => h x (List.mem_cons_of_mem _ hx)
    have w := hi.wt
    refine ⟨?_, ?_, ?_, ?_, ?_⟩
    · simp only [List.map_cons, PyData.showableAll, a1, b1, Bool.and_self]
    · simp only [List.map_cons, PyData.hasDictAll, a2, b2, Bool.or_self]
    · simp only [List.map_cons, PyData.leavesShortAll, a3, b3, Bool.and_self]
    · simp only [List.map_cons, PyData.depthAll, tame_int_dp, b4]; decide
    · simp only [List.map_cons, PyData.weightAll, List.length_cons, Nat.succ_mul]; omega
theorem tame_tup {n : Nat} {l : List Int} (hn : n ≤ 1600) (h : ∀ x ∈ l, Bd n x) (hw : l.length * (n + 1) ≤ 5000) : Tame (.tuple (l.map .int)) := by
  obtain ⟨b1, b2, b3, b4, b5⟩ := tame_all hn h
  exact ⟨b1, b2, b3, by show PyData.depthAll _ + 1 ≤ 3; omega, by show PyData.weightAll _ ≤ 5000; omega⟩
theorem tame_lst {n : Nat} {l : List Int} (hn : n ≤ 1600) (h : ∀ x ∈ l, Bd n x) (hw : l.length * (n + 1) ≤ 5000) : Tame (.list (l.map .int)) := by
  obtain ⟨b1, b2, b3, b4, b5⟩ := tame_all hn h
  exact ⟨b1, b2, b3, by show PyData.depthAll _ + 1 ≤ 3; omega, by show PyData.weightAll _ ≤ 5000; omega⟩
theorem so_all (l : List Int) : ∀ t ∈ PyData.shownAll (l.map .int), TxO t := by
  induction l with
  | nil => intro t ht; simp [PyData.shownAll] at ht
  | cons i l ih =>
    intro t ht
    simp only [List.map_cons, PyData.shownAll, List.mem_cons] at ht
    rcases ht with rfl | ht
    · exact so_int _
    · exact ih t ht
theorem so_tup (l : List Int) : TxO (PyData.tuple (l.map .int)).shown := so_tuple (so_all l)
theorem so_lst (l : List Int) : TxO (PyData.list (l.map .int)).shown := so_list (so_all l)

def I0 (l : List Int) : List D := l.map .int
/-! ### blocks of one name -/
theorem back1 {ρ1 : En} {i : Nat} {s : Sl} (hu : ρ1[i]? = some .u) : backE ρ1 (ρ1.set i s) [i] = ρ1 := by
  simp only [backE, hu, List.set_set]
  apply List.ext_getElem?
  intro j
  by_cases e : j = i
  · subst e
    have hl : j < ρ1.length := by
      rcases Nat.lt_or_ge j ρ1.length with h | h
      · exact h
      · rw [List.getElem?_eq_none h] at hu; cases hu
    rw [List.getElem?_set_self hl, hu]
  · rw [List.getElem?_set_ne (Ne.symm e)]
theorem lc1 {T : Tb} {ρ ρ1 : En} {it : IT} {c : IC} {e : IE} {i : Nat} {nm : Str} {xs : List D} (g : D → Option D) (hit : evIt T ρ it = some (xs, ρ1)) (hu : ρ1[i]? = some .u)
    (hb : ∀ x ∈ xs, ((evIf T (ρ1.set i (.v x)) c).bind fun q => if q.1 then (evE T q.2 e).bind fun r => (keepOp r.2 r.1).map fun k => (some k.1, k.2) else some (none, q.2)) = some (g x, ρ1.set i (.v x)))
    (hl : lenOk (xs.filterMap g).length = true) : evE T ρ (.lc e (.nm i) [(nm, i)] it c) = some (.new (xs.filterMap g), ρ1) := by
  have hi : i < ρ1.length := by
    rcases Nat.lt_or_ge i ρ1.length with h | h
    · exact h
    · rw [List.getElem?_eq_none h] at hu; cases hu
  obtain ⟨ρ', e1, s, rfl⟩ := evComp_inv (f := fun x ρ1 => (bindT (wipeE ρ1 ([(nm, i)].map (·.2))) (.nm i) x).bind fun ρ2 =>
      (evIf T ρ2 c).bind fun q => if q.1 then (evE T q.2 e).bind fun r => (keepOp r.2 r.1).map fun k => (some k.1, k.2) else some (none, q.2))
      (P := fun ρ => ∃ s, ρ = ρ1.set i s) (g := g) (xs := xs) (acc := []) (ρ := ρ1) (fun x hx ρ ⟨s, hs⟩ => ⟨ρ1.set i (.v x), by
        subst hs
        simp only [List.map_cons, List.map_nil, wipeE, List.set_set, bindT, setE, List.length_set, decide_eq_true hi, if_true, Option.bind_some]
        exact hb x hx, _, rfl⟩) ⟨.u, by
          apply List.ext_getElem?
          intro j
          by_cases e : j = i
          · subst e; rw [List.getElem?_set_self hi, hu]
          · rw [List.getElem?_set_ne (Ne.symm e)]⟩
  simp only [evE, hit, Option.bind_some]
  rw [e1]
  simp only [Option.bind_some, List.nil_append, hl, if_true]
  rw [show (List.map (·.2) [(nm, i)] : List Nat) = [i] from rfl, back1 hu]
theorem evGen_inv {st : D → Bool} {f : D → En → Option (Option D × En)} {P : En → Prop} {g : D → Option D} : ∀ {xs acc : List D} {ρ : En}, (∀ x ∈ xs, ∀ ρ, P ρ → ∃ ρ', f x ρ = some (g x, ρ') ∧ P ρ') → (∀ x ∈ xs, ∀ d, g x = some d → st d = false) → P ρ → ∃ ρ', evGen st f xs acc ρ = some (acc ++ xs.filterMap g, ρ') ∧ P ρ'
  | [], acc, ρ, _, _, h => ⟨ρ, by simp [evGen], h⟩
  | x :: xs, acc, ρ, hf, hs, h => by
    obtain ⟨ρ1, e1, h1⟩ := hf x List.mem_cons_self ρ h
    cases hg : g x with
    | none =>
      obtain ⟨ρ2, e2, h2⟩ := evGen_inv (xs := xs) (acc := acc) (fun y hy => hf y (List.mem_cons_of_mem _ hy)) (fun y hy => hs y (List.mem_cons_of_mem _ hy)) h1
      exact ⟨ρ2, by simp only [evGen, e1, hg, e2, List.filterMap_cons], h2⟩
    | some d =>
      obtain ⟨ρ2, e2, h2⟩ := evGen_inv (xs := xs) (acc := acc ++ [d]) (fun y hy => hf y (List.mem_cons_of_mem _ hy)) (fun y hy => hs y (List.mem_cons_of_mem _ hy)) h1
      exact ⟨ρ2, by simp only [evGen, e1, hg, e2, hs x List.mem_cons_self d hg, Bool.false_eq_true, if_false, List.filterMap_cons, List.append_assoc, List.singleton_append], h2⟩
theorem gn1 {T : Tb} {ρ ρ1 : En} {it : IT} {c : IC} {e : IE} {i : Nat} {nm : Str} {f : String} {xs : List D} {d : D} (g : D → Option D) (hit : evIt T ρ it = some (xs, ρ1)) (hu : ρ1[i]? = some .u)
    (hb : ∀ x ∈ xs, ((evIf T (ρ1.set i (.v x)) c).bind fun q => if q.1 then (evE T q.2 e).bind fun r => (keepOp r.2 r.1).map fun k => (some k.1, k.2) else some (none, q.2)) = some (g x, ρ1.set i (.v x)))
    (hs : ∀ x ∈ xs, ∀ d, g x = some d → gnSt f d = false) (hd : gnD f (xs.filterMap g) = some d) : evE T ρ (.gn f e (.nm i) [(nm, i)] it c) = some (.val d, ρ1) := by
  have hi : i < ρ1.length := by
    rcases Nat.lt_or_ge i ρ1.length with h | h
    · exact h
    · rw [List.getElem?_eq_none h] at hu; cases hu
  obtain ⟨ρ', e1, s, rfl⟩ := evGen_inv (st := gnSt f) (f := fun x ρ1 => (bindT (wipeE ρ1 ([(nm, i)].map (·.2))) (.nm i) x).bind fun ρ2 =>
      (evIf T ρ2 c).bind fun q => if q.1 then (evE T q.2 e).bind fun r => (keepOp r.2 r.1).map fun k => (some k.1, k.2) else some (none, q.2))
      (P := fun ρ => ∃ s, ρ = ρ1.set i s) (g := g) (xs := xs) (acc := []) (ρ := ρ1) (fun x hx ρ ⟨s, hs⟩ => ⟨ρ1.set i (.v x), by
        subst hs
        simp only [List.map_cons, List.map_nil, wipeE, List.set_set, bindT, setE, List.length_set, decide_eq_true hi, if_true, Option.bind_some]
        exact hb x hx, _, rfl⟩) hs ⟨.u, by
          apply List.ext_getElem?
          intro j
          by_cases e : j = i
          · subst e; rw [List.getElem?_set_self hi, hu]
          · rw [List.getElem?_set_ne (Ne.symm e)]⟩
  simp only [evE, hit, Option.bind_some]
  rw [e1]
  simp only [Option.bind_some, List.nil_append, hd, Option.map_some]
  rw [show (List.map (·.2) [(nm, i)] : List Nat) = [i] from rfl, back1 hu]
theorem filterMap_ints (g : Int → Int) : ∀ l : List Int, (l.map PyData.int).filterMap (fun x => match x with | .int i => some (.int (g i)) | _ => none) = (l.map g).map PyData.int
  | [] => rfl
  | i :: l => by
    have := filterMap_ints g l
    simp only [List.map_cons, List.filterMap_cons, this]
theorem filterMap_keep (p : Int → Bool) : ∀ l : List Int, (l.map PyData.int).filterMap (fun x => match x with | .int i => if p i then some (.int i) else none | _ => none) = (l.filter p).map PyData.int
  | [] => rfl
  | i :: l => by
    have := filterMap_keep p l
    simp only [List.map_cons, List.filterMap_cons, List.filter_cons]
    cases h : p i <;> simp [this]
/-- a loop, turn by turn -/
theorem evFor_count {f : D → En → Option Oc} {Q : Nat → En → Prop} : ∀ {xs : List D} {n : Nat} {ρ : En}, (∀ x ∈ xs, ∀ k ρ, Q k ρ → ∃ ρ', f x ρ = some (.nx ρ') ∧ Q (k + 1) ρ') → Q n ρ → ∃ ρ', evFor f xs ρ = some (.nx ρ') ∧ Q (n + xs.length) ρ'
  | [], n, ρ, _, h => ⟨ρ, rfl, h⟩
  | x :: xs, n, ρ, hf, h => by
    obtain ⟨ρ1, e1, h1⟩ := hf x List.mem_cons_self n ρ h
    obtain ⟨ρ2, e2, h2⟩ := evFor_count (xs := xs) (fun y hy => hf y (List.mem_cons_of_mem _ hy)) h1
    exact ⟨ρ2, by simp only [evFor, e1, e2], by rw [List.length_cons, Nat.add_comm xs.length 1, ← Nat.add_assoc]; exact h2⟩
theorem ixN_nn {n : Nat} {i : Int} (h0 : 0 ≤ i) (h1 : i < n) : ixN n i = some i.toNat := by unfold ixN; rw [if_pos h0, if_pos h1]
theorem sum_set (x : Int) : ∀ (l : List Int) (i : Nat) (y : Int), l[i]? = some y → (l.set i x).sum = l.sum - y + x
  | [], i, y, h => by simp at h
  | a :: l, 0, y, h => by simp at h; subst h; simp; omega
  | a :: l, i + 1, y, h => by
    have := sum_set x l i y (by simpa using h)
    simp [this]; omega
theorem lenOk_le {n : Nat} (h : n ≤ 16777216) : lenOk n = true := by
  unfold lenOk; rw [decide_eq_true_eq]
  have e : sizeLine = 16777216 := by decide
  rw [e]; exact h
theorem bin_rep {xs : List D} {k : Nat} (hk : k < 9223372036854775808) (h : lenOk (xs.length * k) = true) : binD .Mult (.list xs) (.int k) = some (.new (List.replicate k xs).flatten) := by
  have h1 : (decide (-(2 ^ 63) ≤ (k : Int) ∧ (k : Int) < 2 ^ 63)) = true := by
    rw [decide_eq_true_eq]; omega
  unfold binD
  simp only [h1, Int.toNat_natCast, h, Bool.and_self, if_true]
theorem rep_b0 {k : Nat} (hk2 : k ≤ 60) : k < 9223372036854775808 := by omega
theorem rep_b1 {k : Nat} (hk2 : k ≤ 60) : [PyData.int 0].length * k ≤ 16777216 := by simp; omega
theorem rep_b2 {k : Nat} (hk2 : k ≤ 60) : lenOk ([PyData.int 0].length * k) = true := lenOk_le (rep_b1 hk2)
theorem rep_b3 {k : Nat} (hk2 : k ≤ 60) : binD .Mult (.list [.int 0]) (.int (k : Int)) = some (.new (List.replicate k [.int 0]).flatten) := bin_rep (rep_b0 hk2) (rep_b2 hk2)
theorem rep_b4 {k : Nat} (hk2 : k ≤ 60) : binD .Mult (.list [.int 0]) (.int (k : Int)) = some (.new (List.replicate k (.int 0))) := by
  rw [rep_b3 hk2, List.flatten_replicate_singleton]
theorem ev_z1 (T : Tb) (ρ : En) : evE T ρ (.lst (.cons (.cst (.int 0)) .nil)) = some (.new [.int 0], ρ) := by
  simp only [evE, evEs, ofC, Option.bind_some, Option.map_some, keepL, keepOp, List.length_cons, List.length_nil]
  rw [show lenOk (0 + 1) = true from lenOk1]
  simp only [if_true, Option.bind_some]
theorem bin_ok {T : Tb} {ρ ρ1 ρ2 : En} {op : Operator} {a b : IE} {x y r : Op} {d e : D} (h1 : evE T ρ a = some (x, ρ1)) (h2 : evE T ρ1 b = some (y, ρ2)) (h3 : viewOp ρ2 x = some d) (h4 : viewOp ρ2 y = some e) (h5 : binD op d e = some r) : evE T ρ (.bin op a b) = some (r, ρ2) := by
  simp only [evE, h1, h2, h3, h4, h5, Option.bind_some, Option.map_some]
theorem asg_ok {n : Nat} {T : Tb} {ρ ρ1 ρ2 : En} {t : Tg} {e : IE} {o : Op} (h1 : evE T ρ e = some (o, ρ1)) (h2 : asgT T ρ1 t o = some ρ2) : evS n T ρ (.asg t e) = some (.nx ρ2) := by
  simp only [evS, h1, h2, Option.bind_some, Option.map_some]
theorem ss_nx {n : Nat} {T : Tb} {ρ ρ1 : En} {s : IS} {ss : ISs} {r : Option Oc} (h1 : evS n T ρ s = some (.nx ρ1)) (h2 : evSs n T ρ1 ss = r) : evSs n T ρ (.cons s ss) = r := by
  simp only [evSs, h1, h2]
theorem ss_rt {n : Nat} {T : Tb} {ρ ρ1 : En} {s : IS} {ss : ISs} {d : D} (h1 : evS n T ρ s = some (.rt d ρ1)) : evSs n T ρ (.cons s ss) = some (.rt d ρ1) := by
  simp only [evSs, h1]
theorem ret_ok {n : Nat} {T : Tb} {ρ ρ1 ρ2 : En} {e : IE} {o : Op} {d : D} (h1 : evE T ρ e = some (o, ρ1)) (h2 : keepOp ρ1 o = some (d, ρ2)) : evS n T ρ (.ret e) = some (.rt d ρ2) := by
  simp only [evS, h1, h2, Option.bind_some, Option.map_some]
theorem runW_ok {n N : Nat} {T : Tb} {b : ISs} {l ds l' : List D} {d : D} {r : En} (h : evSs n T (entW N l ds) b = some (.rt d (.o true l' :: r))) : runW n T N b l ds = some (d, l') := by
  simp [runW, h]
theorem runP_ok {n N : Nat} {T : Tb} {b : ISs} {ds : List D} {d : D} {r : En} (h : evSs n T (entP N ds) b = some (.rt d r)) : runP n T N b ds = some d := by
  simp [runP, h]
theorem and_t {T : Tb} {ρ ρ1 : En} {a b : IE} {x : Op} (h1 : evE T ρ a = some (x, ρ1)) (h2 : viewOp ρ1 x = some (.bool true)) : evE T ρ (.and a b) = evE T ρ1 b := by
  simp only [evE, h1, h2, Option.bind_some]
theorem one_e {T : Tb} {ρ : En} {a : IE} : evE T ρ (.one a) = evE T ρ a := by simp only [evE]
theorem isi_ok {T : Tb} {ρ ρ1 : En} {a : IE} {x : Op} {d : D} {t : String} {b : Bool} (h1 : evE T ρ a = some (x, ρ1)) (h2 : viewOp ρ1 x = some d) (h3 : kitB (tyD d) t = some b) : evE T ρ (.isi a t) = some (.val (.bool b), ρ1) := by
  simp only [evE, h1, h2, h3, Option.bind_some, Option.map_some]
theorem tup2 {T : Tb} {ρ ρ1 ρ2 : En} {a b : IE} {d e : D} (h1 : evE T ρ a = some (.val d, ρ1)) (h2 : evE T ρ1 b = some (.val e, ρ2)) : evE T ρ (.tup (.cons a (.cons b .nil))) = some (.val (.tuple [d, e]), ρ2) := by
  simp only [evE, evEs, h1, h2, Option.bind_some, Option.map_some, keepL, keepOp, List.length_cons, List.length_nil]
  rw [show lenOk (0 + 1 + 1) = true from lenOk2]
  rfl
theorem lst2 {T : Tb} {ρ ρ1 ρ2 : En} {a b : IE} {d e : D} (h1 : evE T ρ a = some (.val d, ρ1)) (h2 : evE T ρ1 b = some (.val e, ρ2)) : evE T ρ (.lst (.cons a (.cons b .nil))) = some (.new [d, e], ρ2) := by
  simp only [evE, evEs, h1, h2, Option.bind_some, Option.map_some, keepL, keepOp, List.length_cons, List.length_nil]
  rw [show lenOk (0 + 1 + 1) = true from lenOk2]
  rfl
theorem bi1 {T : Tb} {ρ ρ1 : En} {f : String} {a : IE} {x r : Op} {d : D} (h1 : evE T ρ a = some (x, ρ1)) (h2 : viewOp ρ1 x = some d) (h3 : biD f [d] = some r) : evE T ρ (.bi f (.cons a .nil)) = some (r, ρ1) := by
  simp only [evE, evEs, h1, h2, h3, viewL, Option.bind_some, Option.map_some]
theorem cmpT_ok {T : Tb} {ρ ρ1 ρ2 : En} {op : CmpOp} {a b : IE} {x y : Op} {d e : D} {r : Bool} (h1 : evE T ρ a = some (x, ρ1)) (h2 : evE T ρ1 b = some (y, ρ2)) (h3 : viewOp ρ2 x = some d) (h4 : viewOp ρ2 y = some e) (h5 : cmpD op d e = some r) : evT T ρ (.cmp op a b) = some (r, ρ2) := by
  simp only [evT, h1, h2, h3, h4, h5, Option.bind_some, Option.map_some]
theorem cmpE_ok {T : Tb} {ρ ρ1 ρ2 : En} {op : CmpOp} {a b : IE} {x y : Op} {d e : D} {r : Bool} (h1 : evE T ρ a = some (x, ρ1)) (h2 : evE T ρ1 b = some (y, ρ2)) (h3 : viewOp ρ2 x = some d) (h4 : viewOp ρ2 y = some e) (h5 : cmpD op d e = some r) : evE T ρ (.cmp op a b) = some (.val (.bool r), ρ2) := by
  simp only [evE, h1, h2, h3, h4, h5, Option.bind_some, Option.map_some]
theorem if_no {n : Nat} {T : Tb} {ρ ρ1 : En} {c : IE} {a : ISs} (h : evT T ρ c = some (false, ρ1)) : evS n T ρ (.ifs c a .nil) = some (.nx ρ1) := by
  simp only [evS, h, evSs]
def mapI (g : Int → Int) : D → Option D
  | .int i => some (.int (g i))
  | _ => none
theorem filterMap_mapI (g : Int → Int) : ∀ l : List Int, (l.map PyData.int).filterMap (mapI g) = (l.map g).map PyData.int
  | [] => rfl
  | i :: l => by
    have := filterMap_mapI g l
    simp only [List.map_cons, List.filterMap_cons, mapI, this]
theorem rep_ok {T : Tb} {ρ : En} {a b : IE} {x y : Op} {d e : D} (h1 : evE T ρ a = some (x, ρ)) (h2 : evE T ρ b = some (y, ρ)) (hk : keepL ρ [x, y] = some ([d, e], ρ)) (hr : reprOk (.list [d, e]) = true) : evE T ρ (.bi "repr" (.cons (.lst (.cons a (.cons b .nil))) .nil)) = some (.val (.str (PyData.list [d, e]).shown), ρ) := by
  refine bi1 (x := .new [d, e]) ?_ rfl (by simp only [biD, hr, if_true])
  simp only [evE, evEs, h1, h2, hk, Option.bind_some, Option.map_some, List.length_cons, List.length_nil]
  rw [show lenOk (0 + 1 + 1) = true from lenOk2]
  rfl
theorem ne_rep {T : Tb} {ρ : En} {a b a' b' : IE} {x y x' y' : Op} {d e : D} (h1 : evE T ρ a = some (x, ρ)) (h2 : evE T ρ b = some (y, ρ)) (hk : keepL ρ [x, y] = some ([d, e], ρ)) (h1' : evE T ρ a' = some (x', ρ)) (h2' : evE T ρ b' = some (y', ρ)) (hk' : keepL ρ [x', y'] = some ([d, e], ρ)) (hd : Tame d) (he : Tame e) (td : TxO d.shown) (te : TxO e.shown) :
    evT T ρ (.cmp .NotEq (.bi "repr" (.cons (.lst (.cons a (.cons b .nil))) .nil)) (.bi "repr" (.cons (.lst (.cons a' (.cons b' .nil))) .nil))) = some (false, ρ) :=
  cmpT_ok (rep_ok h1 h2 hk (hd.repr2 he)) (rep_ok h1' h2' hk' (hd.repr2 he)) rfl rfl (ne_same (so_L2 td te))
theorem eq_rep {T : Tb} {ρ : En} {a b a' b' : IE} {x y x' y' : Op} {d e : D} (h1 : evE T ρ a = some (x, ρ)) (h2 : evE T ρ b = some (y, ρ)) (hk : keepL ρ [x, y] = some ([d, e], ρ)) (h1' : evE T ρ a' = some (x', ρ)) (h2' : evE T ρ b' = some (y', ρ)) (hk' : keepL ρ [x', y'] = some ([d, e], ρ)) (hd : Tame d) (he : Tame e) (td : TxO d.shown) (te : TxO e.shown) :
    evE T ρ (.cmp .Eq (.bi "repr" (.cons (.lst (.cons a (.cons b .nil))) .nil)) (.bi "repr" (.cons (.lst (.cons a' (.cons b' .nil))) .nil))) = some (.val (.bool true), ρ) :=
  cmpE_ok (rep_ok h1 h2 hk (hd.repr2 he)) (rep_ok h1' h2' hk' (hd.repr2 he)) rfl rfl (eq_same (so_L2 td te))
theorem cal_ok {T : Tb} {ρ ρ1 : En} {f : Str} {es : IEs} {ops : List Op} {fs : FS} {r : Op × En} (h1 : evEs T ρ es = some (ops, ρ1)) (h2 : T.fs f = some fs) (h3 : callF fs ops ρ1 = some r) : evE T ρ (.cal f es) = some r := by
  simp only [evE, h1, h2, h3, Option.bind_some]
theorem callP1 {ρ : En} {o : Op} {g : List D → Option D} {d r : D} (hv : viewOp ρ o = some d) (hk : keepL ρ [o] = some ([d], ρ)) (hg : g [d] = some r) : callF (.p 1 g) [o] ρ = some (.val r, ρ) := by
  simp only [callF, callP, viewL, hv, hg, hk, Option.bind_some, Option.map_some, List.length_cons, List.length_nil]
  by_cases hf : flat r = true <;> simp [hf]
theorem calP1 {T : Tb} {ρ : En} {f : Str} {a : IE} {o : Op} {g : List D → Option D} {d r : D} (hs : T.fs f = some (.p 1 g)) (ha : evE T ρ a = some (o, ρ)) (hv : viewOp ρ o = some d) (hk : keepL ρ [o] = some ([d], ρ)) (hg : g [d] = some r) : evE T ρ (.cal f (.cons a .nil)) = some (.val r, ρ) :=
  cal_ok (ops := [o]) (ρ1 := ρ) (by simp only [evEs, ha, Option.bind_some, Option.map_some]) hs (callP1 hv hk hg)
theorem calkP1 {T : Tb} {ρ : En} {f x : Str} {a : IE} {o : Op} {g : List D → Option D} {d r : D} (hs : T.fs f = some (.p 1 g)) (hq : T.ks f 0 [x] = some [0]) (ha : evE T ρ a = some (o, ρ)) (hk : keepL ρ [o] = some ([d], ρ)) (hg : g [d] = some r) : evE T ρ (.calk f 0 (.cons a .nil) [x]) = some (.val r, ρ) := by
  simp only [evE, evEs, ha, Option.bind_some, Option.map_some, hk, hq, hs]
  exact callP1 (o := .val d) rfl rfl hg
theorem calT2 {T : Tb} {ρ : En} {f : Str} {a b : IE} {x y : Op} {g : List D → Option D} {d e : D} {r : Bool} (hs : T.fs f = some (.p 2 g)) (ha : evE T ρ a = some (x, ρ)) (hb : evE T ρ b = some (y, ρ)) (hx : viewOp ρ x = some d) (hy : viewOp ρ y = some e) (hg : g [d, e] = some (.bool r)) : evT T ρ (.cal f (.cons a (.cons b .nil))) = some (r, ρ) := by
  have h : callF (.p 2 g) [x, y] ρ = some (.val (.bool r), ρ) := by
    simp only [callF, callP, viewL, hx, hy, hg, Option.bind_some, Option.map_some, List.length_cons, List.length_nil, flat, if_true]
    rfl
  simp only [evT, evEs, ha, hb, hs, h, Option.bind_some, Option.map_some, viewOp, trD]
theorem or_no {T : Tb} {ρ ρ1 ρ2 : En} {a b : IE} (ha : evT T ρ a = some (true, ρ1)) (hb : evT T ρ1 b = some (false, ρ2)) : evT T ρ (.or (.not a) (.one b)) = some (false, ρ2) := by
  simp [evT, ha, hb]
theorem callW3 {f : List D → List D → Option (D × List D)} {l l' : List D} {ρ : En} {i : Nat} {d e r x : D} (hx : ρ[i]? = some (.v x)) (h : f l [x, d, e] = some (r, l')) : callF (.w 4 f) [.slot 0, .slot (i + 1), .val d, .val e] (.o true l :: ρ) = some (.val r, .o true l' :: ρ) := by
  simp [callF, callW, keepL, keepOp, hx, h]
theorem asgs2 {n : Nat} {T : Tb} {ρ ρ1 ρ2 ρ3 : En} {a b : IE} {x : D} {y : List D} {i j : Nat} (h1 : evE T ρ a = some (.val x, ρ1)) (h2 : evE T ρ1 b = some (.new y, ρ2)) (h3 : asgN ρ2 [i, j] [.val x, .new y] = some ρ3) : evS n T ρ (.asgs [i, j] (.cons a (.cons b .nil))) = some (.nx ρ3) := by
  simp only [evS, evEs, h1, h2, settle, settle1, Option.bind_some, Option.map_some, h3]
theorem it_r1 {T : Tb} {ρ : En} {i k : Nat} (h : ρ[i]? = some (.v (.int k))) (hk : k ≤ 1000) : evIt T ρ (.r1 (.var i)) = some (I0 ((List.range k).map fun i => ((i : Nat) : Int)), ρ) := by
  have ro : rngOk k = true := by unfold rngOk; rw [decide_eq_true_eq]; omega
  have rg : rngD 0 k = I0 ((List.range k).map fun i => ((i : Nat) : Int)) := by simp [rngD, I0]
  simp only [evIt, evE, h, Option.bind_some, viewOp, ro, if_true, Int.toNat_natCast, rg]
theorem it_ex {T : Tb} {ρ ρ1 ρ2 : En} {e : IE} {o : Op} {ds : List D} (h : evE T ρ e = some (o, ρ1)) (hk : keepOp ρ1 o = some (.list ds, ρ2)) : evIt T ρ (.ex e) = some (ds, ρ2) := by
  simp only [evIt, h, Option.bind_some, hk]
theorem body_no {T : Tb} {ρ ρ1 ρ2 : En} {e : IE} {o : Op} {d : D} (h : evE T ρ e = some (o, ρ1)) (hk : keepOp ρ1 o = some (d, ρ2)) : ((evIf T ρ .no).bind fun q => if q.1 then (evE T q.2 e).bind fun r => (keepOp r.2 r.1).map fun k => (some k.1, k.2) else some (none, q.2)) = some (some d, ρ2) := by
  simp only [evIf, Option.bind_some, if_true, h, hk, Option.map_some]
theorem slc_to {T : Tb} {ρ : En} {i j : Nat} {xs : List D} {k : Int} (h1 : ρ[i]? = some (.v (.list xs))) (h2 : ρ[j]? = some (.v (.int k))) : evE T ρ (.slc (.var i) .no (.so (.var j))) = some (.new (cutD xs none (some k)), ρ) := by
  simp only [evE, evC, h1, h2, viewOp, slcD, Option.bind_some, Option.map_some]
theorem isiT {T : Tb} {ρ ρ1 : En} {a : IE} {t : String} {b : Bool} (h : evE T ρ (.isi a t) = some (.val (.bool b), ρ1)) : evT T ρ (.isi a t) = some (b, ρ1) := by
  simp only [evE, Option.bind_eq_some_iff, Option.map_eq_some_iff] at h
  obtain ⟨p, h1, x, h2, b', h3, e⟩ := h
  cases e
  simp only [evT, h1, h2, h3, Option.bind_some, Option.map_some]
theorem or3_no {T : Tb} {ρ : En} {a b c : IE} (ha : evT T ρ a = some (true, ρ)) (hb : evT T ρ b = some (false, ρ)) (hc : evT T ρ c = some (false, ρ)) : evT T ρ (.or (.not a) (.or b (.one c))) = some (false, ρ) := by
  simp [evT, ha, hb, hc]
end Ev

set_option maxHeartbeats 1000000
namespace Ev
open PySem L2
/-! ### blocks of any names -/
theorem wipe_len (ρ : En) : ∀ (l : List Nat), (wipeE ρ l).length = ρ.length
  | [] => rfl
  | v :: vs => by rw [wipeE, List.length_set, wipe_len ρ vs]
theorem backE_len (ρ ρ' : En) : ∀ (l : List Nat), (backE ρ ρ' l).length = ρ'.length
  | [] => rfl
  | v :: vs => by rw [backE, List.length_set, backE_len ρ ρ' vs]
theorem wipe_get (ρ : En) : ∀ (l : List Nat) (j : Nat), (wipeE ρ l)[j]? = if j ∈ l then ρ[j]?.map (fun _ => Sl.u) else ρ[j]?
  | [], j => by simp [wipeE]
  | v :: vs, j => by
    rw [wipeE, List.getElem?_set, wipe_get ρ vs, wipe_len]
    by_cases e : v = j
    · subst e
      rw [if_pos rfl, if_pos List.mem_cons_self]
      by_cases h : v < ρ.length
      · rw [if_pos h, List.getElem?_eq_getElem h]; rfl
      · rw [if_neg h, List.getElem?_eq_none (by omega)]; rfl
    · have : ¬ j = v := fun z => e z.symm
      rw [if_neg e]
      simp only [List.mem_cons, this, false_or]
theorem back_get (ρ ρ' : En) : ∀ (l : List Nat) (j : Nat), (backE ρ ρ' l)[j]? = if j ∈ l then ρ'[j]?.map (fun _ => match ρ[j]? with | some (.v d) => Sl.v d | _ => Sl.u) else ρ'[j]?
  | [], j => by simp [backE]
  | v :: vs, j => by
    rw [backE, List.getElem?_set, back_get ρ ρ' vs, backE_len]
    by_cases e : v = j
    · subst e
      rw [if_pos rfl, if_pos List.mem_cons_self]
      by_cases h : v < ρ'.length
      · rw [if_pos h, List.getElem?_eq_getElem h]; rfl
      · rw [if_neg h, List.getElem?_eq_none (l := ρ') (by omega)]; rfl
    · have : ¬ j = v := fun z => e z.symm
      rw [if_neg e]
      simp only [List.mem_cons, this, false_or]
theorem fm_some {α β : Type} (f : α → β) : ∀ l : List α, l.filterMap (fun a => some (f a)) = l.map f
  | [] => rfl
  | a :: l => by simp
theorem back_ok {ρ ρ' : En} {l : List Nat} (hv : ∀ i ∈ l, ρ[i]? = some .u ∨ ∃ d, ρ[i]? = some (.v d)) (h : wipeE ρ' l = wipeE ρ l) : backE ρ ρ' l = ρ := by
  have hl : ρ'.length = ρ.length := by rw [← wipe_len ρ' l, ← wipe_len ρ l, h]
  apply List.ext_getElem?
  intro j
  rw [back_get]
  have hj := congrArg (fun q => q[j]?) h
  simp only [wipe_get] at hj
  by_cases e : j ∈ l
  · simp only [if_pos e] at hj ⊢
    rcases hv j e with h1 | ⟨d, h1⟩
    · have : j < ρ'.length := by rw [hl]; exact (List.getElem?_eq_some_iff.mp h1).1
      rw [h1, List.getElem?_eq_getElem this]
      simp
    · have : j < ρ'.length := by rw [hl]; exact (List.getElem?_eq_some_iff.mp h1).1
      rw [h1, List.getElem?_eq_getElem this]
      simp
  · simpa only [if_neg e] using hj
abbrev Bod (T : Tb) (c : IC) (e : IE) (ρ2 : En) : Option (Option D × En) := (evIf T ρ2 c).bind fun q => if q.1 then (evE T q.2 e).bind fun r => (keepOp r.2 r.1).map fun k => (some k.1, k.2) else some (none, q.2)
theorem comp_ty {α : Type} {f : D → En → Option (Option D × En)} {P : En → Prop} (enc : α → D) (out : α → Option D) : ∀ {l : List α} {acc : List D} {ρ : En}, (∀ a ∈ l, ∀ ρ, P ρ → ∃ ρ', f (enc a) ρ = some (out a, ρ') ∧ P ρ') → P ρ → ∃ ρ', evComp f (l.map enc) acc ρ = some (acc ++ l.filterMap out, ρ') ∧ P ρ'
  | [], acc, ρ, _, h => ⟨ρ, by simp [evComp], h⟩
  | a :: l, acc, ρ, hf, h => by
    obtain ⟨ρ1, e1, h1⟩ := hf a List.mem_cons_self ρ h
    cases hg : out a with
    | none =>
      obtain ⟨ρ2, e2, h2⟩ := comp_ty enc out (l := l) (acc := acc) (fun y hy => hf y (List.mem_cons_of_mem _ hy)) h1
      exact ⟨ρ2, by simp only [List.map_cons, evComp, e1, hg, e2, List.filterMap_cons], h2⟩
    | some d =>
      obtain ⟨ρ2, e2, h2⟩ := comp_ty enc out (l := l) (acc := acc ++ [d]) (fun y hy => hf y (List.mem_cons_of_mem _ hy)) h1
      exact ⟨ρ2, by simp only [List.map_cons, evComp, e1, hg, e2, List.filterMap_cons, List.append_assoc, List.singleton_append], h2⟩
/-- a list comprehension over typed data -/
theorem lcT {α : Type} {T : Tb} {ρ ρ1 : En} {it : IT} {c : IC} {e : IE} {t : Tg} {own : List (Str × Nat)} (enc : α → D) (out : α → Option D) {l : List α} (hit : evIt T ρ it = some (l.map enc, ρ1))
    (hb : ∀ a ∈ l, ∃ ρ2, (bindT (wipeE ρ1 (own.map (·.2))) t (enc a)).bind (Bod T c e) = some (out a, ρ2) ∧ wipeE ρ2 (own.map (·.2)) = wipeE ρ1 (own.map (·.2)))
    (hv : ∀ i ∈ own.map (·.2), ρ1[i]? = some .u ∨ ∃ d, ρ1[i]? = some (.v d)) (hl : lenOk (l.filterMap out).length = true) : evE T ρ (.lc e t own it c) = some (.new (l.filterMap out), ρ1) := by
  obtain ⟨ρ', e1, h1⟩ := comp_ty (f := fun x ρ1 => (bindT (wipeE ρ1 (own.map (·.2))) t x).bind fun ρ2 => (evIf T ρ2 c).bind fun q => if q.1 then (evE T q.2 e).bind fun r => (keepOp r.2 r.1).map fun k => (some k.1, k.2) else some (none, q.2))
    (P := fun ρ => wipeE ρ (own.map (·.2)) = wipeE ρ1 (own.map (·.2))) enc out (l := l) (acc := []) (ρ := ρ1) (fun a ha ρ hρ => by
      obtain ⟨ρ2, h2, h3⟩ := hb a ha
      exact ⟨ρ2, by rw [hρ]; exact h2, h3⟩) rfl
  simp only [evE, hit, Option.bind_some]
  rw [e1]
  simp only [Option.bind_some, List.nil_append, hl, if_true]
  rw [back_ok hv h1]
/-- the same, each one out -/
theorem lcM {α : Type} {T : Tb} {ρ ρ1 : En} {it : IT} {e : IE} {t : Tg} {own : List (Str × Nat)} (enc out : α → D) {l : List α} (hit : evIt T ρ it = some (l.map enc, ρ1))
    (hb : ∀ a ∈ l, ∃ ρ2 o, bindT (wipeE ρ1 (own.map (·.2))) t (enc a) = some ρ2 ∧ evE T ρ2 e = some (o, ρ2) ∧ keepOp ρ2 o = some (out a, ρ2) ∧ wipeE ρ2 (own.map (·.2)) = wipeE ρ1 (own.map (·.2)))
    (hv : ∀ i ∈ own.map (·.2), ρ1[i]? = some .u ∨ ∃ d, ρ1[i]? = some (.v d)) (hl : lenOk l.length = true) : evE T ρ (.lc e t own it .no) = some (.new (l.map out), ρ1) := by
  have := lcT (T := T) (ρ := ρ) (ρ1 := ρ1) (it := it) (c := .no) (e := e) (t := t) (own := own) enc (fun a => some (out a)) (l := l) hit (fun a ha => by
    obtain ⟨ρ2, o, h1, h2, h3, h4⟩ := hb a ha
    exact ⟨ρ2, by simp only [h1, Option.bind_some, Bod, evIf, if_true, h2, h3, Option.map_some], h4⟩) hv (by rw [fm_some]; simpa using hl)
  rw [fm_some] at this
  exact this
theorem gen_ty {α : Type} {st : D → Bool} {f : D → En → Option (Option D × En)} {P : En → Prop} (enc out : α → D) : ∀ {l : List α} {acc : List D} {ρ : En}, (∀ a ∈ l, ∀ ρ, P ρ → ∃ ρ', f (enc a) ρ = some (some (out a), ρ') ∧ P ρ') → (∀ a ∈ l, st (out a) = false) → P ρ → ∃ ρ', evGen st f (l.map enc) acc ρ = some (acc ++ l.map out, ρ') ∧ P ρ'
  | [], acc, ρ, _, _, h => ⟨ρ, by simp [evGen], h⟩
  | a :: l, acc, ρ, hf, hs, h => by
    obtain ⟨ρ1, e1, h1⟩ := hf a List.mem_cons_self ρ h
    obtain ⟨ρ2, e2, h2⟩ := gen_ty enc out (l := l) (acc := acc ++ [out a]) (fun y hy => hf y (List.mem_cons_of_mem _ hy)) (fun y hy => hs y (List.mem_cons_of_mem _ hy)) h1
    exact ⟨ρ2, by simp only [List.map_cons, evGen, e1, hs a List.mem_cons_self, Bool.false_eq_true, if_false, e2, List.append_assoc, List.singleton_append], h2⟩
theorem gnT {α : Type} {T : Tb} {ρ ρ1 : En} {it : IT} {e : IE} {t : Tg} {f : String} {own : List (Str × Nat)} {d : D} (enc out : α → D) {l : List α} (hit : evIt T ρ it = some (l.map enc, ρ1))
    (hb : ∀ a ∈ l, ∃ ρ2 o, bindT (wipeE ρ1 (own.map (·.2))) t (enc a) = some ρ2 ∧ evE T ρ2 e = some (o, ρ2) ∧ keepOp ρ2 o = some (out a, ρ2) ∧ wipeE ρ2 (own.map (·.2)) = wipeE ρ1 (own.map (·.2)))
    (hs : ∀ a ∈ l, gnSt f (out a) = false) (hv : ∀ i ∈ own.map (·.2), ρ1[i]? = some .u ∨ ∃ d, ρ1[i]? = some (.v d)) (hd : gnD f (l.map out) = some d) : evE T ρ (.gn f e t own it .no) = some (.val d, ρ1) := by
  obtain ⟨ρ', e1, h1⟩ := gen_ty (st := gnSt f) (f := fun x ρ1 => (bindT (wipeE ρ1 (own.map (·.2))) t x).bind fun ρ2 => (evIf T ρ2 .no).bind fun q => if q.1 then (evE T q.2 e).bind fun r => (keepOp r.2 r.1).map fun k => (some k.1, k.2) else some (none, q.2))
    (P := fun ρ => wipeE ρ (own.map (·.2)) = wipeE ρ1 (own.map (·.2))) enc out (l := l) (acc := []) (ρ := ρ1) (fun a ha ρ hρ => by
      obtain ⟨ρ2, o, h1, h2, h3, h4⟩ := hb a ha
      exact ⟨ρ2, by rw [hρ]; simp only [h1, Option.bind_some, evIf, if_true, h2, h3, Option.map_some], h4⟩) hs rfl
  simp only [evE, hit, Option.bind_some]
  rw [e1]
  simp only [Option.bind_some, List.nil_append, hd, Option.map_some]
  rw [back_ok hv h1]
/-- all(..), stopping early -/
theorem all_ty {α : Type} {f : D → En → Option (Option D × En)} {P : En → Prop} (enc : α → D) (p : α → Bool) : ∀ {l : List α} {acc : List D} {ρ : En}, (∀ a ∈ l, ∀ ρ, P ρ → ∃ ρ', f (enc a) ρ = some (some (.bool (p a)), ρ') ∧ P ρ') → P ρ → ∃ (bs : List Bool) (ρ' : En), evGen (gnSt "all") f (l.map enc) acc ρ = some (acc ++ bs.map PyData.bool, ρ') ∧ bs.all id = l.all p ∧ P ρ'
  | [], acc, ρ, _, h => ⟨[], ρ, by simp [evGen], rfl, h⟩
  | a :: l, acc, ρ, hf, h => by
    obtain ⟨ρ1, e1, h1⟩ := hf a List.mem_cons_self ρ h
    cases hp : p a with
    | false => exact ⟨[false], ρ1, by simp [evGen, e1, hp, gnSt], by simp [hp], h1⟩
    | true =>
      obtain ⟨bs, ρ2, e2, h2, h3⟩ := all_ty enc p (l := l) (acc := acc ++ [.bool true]) (fun y hy => hf y (List.mem_cons_of_mem _ hy)) h1
      exact ⟨true :: bs, ρ2, by simp only [List.map_cons, evGen, e1, hp, gnSt, Bool.not_true, Bool.false_eq_true, if_false, e2, List.append_assoc, List.singleton_append], by simp [h2, hp], h3⟩
theorem boolsD_map : ∀ l : List Bool, boolsD (l.map PyData.bool) = some l
  | [] => rfl
  | b :: l => by simp [boolsD, boolsD_map l]
theorem gnAll {α : Type} {T : Tb} {ρ ρ1 : En} {it : IT} {e : IE} {t : Tg} {own : List (Str × Nat)} (enc : α → D) (p : α → Bool) {l : List α} (hit : evIt T ρ it = some (l.map enc, ρ1))
    (hb : ∀ a ∈ l, ∃ ρ2 o, bindT (wipeE ρ1 (own.map (·.2))) t (enc a) = some ρ2 ∧ evE T ρ2 e = some (o, ρ2) ∧ keepOp ρ2 o = some (.bool (p a), ρ2) ∧ wipeE ρ2 (own.map (·.2)) = wipeE ρ1 (own.map (·.2)))
    (hv : ∀ i ∈ own.map (·.2), ρ1[i]? = some .u ∨ ∃ d, ρ1[i]? = some (.v d)) : evE T ρ (.gn "all" e t own it .no) = some (.val (.bool (l.all p)), ρ1) := by
  obtain ⟨bs, ρ', e1, h0, h1⟩ := all_ty (f := fun x ρ1 => (bindT (wipeE ρ1 (own.map (·.2))) t x).bind fun ρ2 => (evIf T ρ2 .no).bind fun q => if q.1 then (evE T q.2 e).bind fun r => (keepOp r.2 r.1).map fun k => (some k.1, k.2) else some (none, q.2))
    (P := fun ρ => wipeE ρ (own.map (·.2)) = wipeE ρ1 (own.map (·.2))) enc p (l := l) (acc := []) (ρ := ρ1) (fun a ha ρ hρ => by
      obtain ⟨ρ2, o, h1, h2, h3, h4⟩ := hb a ha
      exact ⟨ρ2, by rw [hρ]; simp only [h1, Option.bind_some, evIf, if_true, h2, h3, Option.map_some], h4⟩) rfl
  simp only [evE, hit, Option.bind_some]
  rw [e1]
  simp only [Option.bind_some, List.nil_append, gnD, boolsD_map, Option.map_some, h0]
  rw [back_ok hv h1]
/-- a loop over typed data, its state led along -/
theorem forT {α S : Type} {f : D → En → Option Oc} {R : S → En → Prop} {step : S → α → S} (enc : α → D) : ∀ {l : List α} {s : S} {ρ : En}, (∀ a ∈ l, ∀ s ρ, R s ρ → ∃ ρ', f (enc a) ρ = some (.nx ρ') ∧ R (step s a) ρ') → R s ρ → ∃ ρ', evFor f (l.map enc) ρ = some (.nx ρ') ∧ R (l.foldl step s) ρ'
  | [], s, ρ, _, h => ⟨ρ, rfl, h⟩
  | a :: l, s, ρ, hf, h => by
    obtain ⟨ρ1, e1, h1⟩ := hf a List.mem_cons_self s ρ h
    obtain ⟨ρ2, e2, h2⟩ := forT enc (l := l) (fun y hy => hf y (List.mem_cons_of_mem _ hy)) h1
    exact ⟨ρ2, by simp only [List.map_cons, evFor, e1, e2], h2⟩
theorem tup3 {T : Tb} {ρ ρ1 ρ2 ρ3 ρ4 : En} {a b c : IE} {x y z : Op} {d e f : D} (h1 : evE T ρ a = some (x, ρ1)) (h2 : evE T ρ1 b = some (y, ρ2)) (h3 : evE T ρ2 c = some (z, ρ3)) (hk : keepL ρ3 [x, y, z] = some ([d, e, f], ρ4)) : evE T ρ (.tup (.cons a (.cons b (.cons c .nil)))) = some (.val (.tuple [d, e, f]), ρ4) := by
  simp only [evE, evEs, h1, h2, h3, hk, Option.bind_some, Option.map_some, List.length_cons, List.length_nil]
  rw [show lenOk (0 + 1 + 1 + 1) = true from lenOk3]
  rfl
theorem for_ok {n : Nat} {T : Tb} {ρ ρ1 ρ2 : En} {t : Tg} {it : IT} {b : ISs} {xs : List D} (h1 : evIt T ρ it = some (xs, ρ1)) (h2 : evFor (fun x ρ1 => (bindT ρ1 t x).bind fun ρ2 => evSs n T ρ2 b) xs ρ1 = some (.nx ρ2)) : evS n T ρ (.fors t it b) = some (.nx ρ2) := by
  simp only [evS, h1, Option.bind_some]
  exact h2
theorem bi_tuple {T : Tb} {ρ ρ1 : En} {a : IE} {o : Op} {xs : List D} (h1 : evE T ρ a = some (o, ρ1)) (h2 : viewOp ρ1 o = some (.list xs)) : evE T ρ (.bi "tuple" (.cons a .nil)) = some (.val (.tuple xs), ρ1) := bi1 h1 h2 rfl
theorem callW_v {n : Nat} {f : List D → List D → Option (D × List D)} {l l' : List D} {ρ : En} {r : List Op} {ds : List D} {d : D} (hn : r.length + 1 = n) (hk : keepL (.o true l :: ρ) r = some (ds, .o true l :: ρ)) (h : f l ds = some (d, l')) : callF (.w n f) (.slot 0 :: r) (.o true l :: ρ) = some (.val d, .o true l' :: ρ) := by
  subst hn
  simp only [callF, callW, List.length_cons, beq_self_eq_true, if_true, List.getElem?_cons_zero, hk, Option.bind_some, h, Option.map_some, List.set_cons_zero]
theorem calW {n : Nat} {T : Tb} {f : List D → List D → Option (D × List D)} {l l' : List D} {ρ : En} {x : Str} {es : IEs} {r : List Op} {ds : List D} {d : D} (hs : T.fs x = some (.w n f)) (he : evEs T (.o true l :: ρ) es = some (r, .o true l :: ρ)) (hn : r.length + 1 = n) (hk : keepL (.o true l :: ρ) r = some (ds, .o true l :: ρ)) (h : f l ds = some (d, l')) :
    evE T (.o true l :: ρ) (.cal x (.cons (.var 0) es)) = some (.val d, .o true l' :: ρ) :=
  cal_ok (ops := .slot 0 :: r) (ρ1 := .o true l :: ρ) (by simp only [evEs, evE, List.getElem?_cons_zero, Option.bind_some, he, Option.map_some]) hs (callW_v hn hk h)
/-- points -/
def ptD (p : Int × Int) : D := .tuple [.int p.1, .int p.2]
theorem rngD_map (k : Nat) : rngD 0 k = (List.range k).map fun i => PyData.int ((i : Nat) : Int) := by simp [rngD]
end Ev

set_option maxHeartbeats 4000000
namespace Ev
open PySem PySem.Spec PyProof.Rows L2
def topS (i : Nat) : Stmt := PySem.Challenge.pw_slotstars_k72_whole_fields_at_moments.main.body.getD i (.Pass ⟨0, 0, 0, 0⟩)
def kt0 : KTab := [("currents_at", [((0, ["moment"]), [0])]), ("field_at", [((0, ["moment", "winding"]), [1, 0])]), ("square_at", [((0, ["moment", "winding"]), [1, 0])])]
def gl0 : List (Str × D) := [("LEAST_SLOTS", .int (2)), ("MOST_SLOTS", .int (60)), ("MOST_PHASES", .int (6)), ("MOMENTS", .int (12)), ("COSINES", .tuple ([(2 : Int), (1 : Int), (1 : Int), (0 : Int), (-1 : Int), (-1 : Int), (-2 : Int), (-1 : Int), (-1 : Int), (0 : Int), (1 : Int), (1 : Int)].map .int))]
def tb_gcd : List (Str × FS) := (("gcd", .p 2 gcdF) :: [])
abbrev s__law_draw : Stmt := topS 44
abbrev n__law_draw : List Str := ["_law_urn_here", "_law_many", "_law_figure"]
def i__law_draw : ISs := (.cons (.ifs (.cmp .Gt (.idx (.var 0) (.cst (.int 0))) (.cst (.int 0))) (.cons (.asg (.tup (.cons (.sub 0 (.cst (.int 0))) (.cons (.nm 2) .nil))) (.bi "divmod" (.cons (.idx (.var 0) (.cst (.int 0))) (.cons (.var 1) .nil)))) (.cons (.ret (.var 2)) .nil)) .nil) (.cons (.asg (.sub 0 (.cst (.int 2))) (.bin .Add (.idx (.var 0) (.cst (.int 2))) (.cst (.int 1)))) (.cons (.asg (.sub 0 (.cst (.int 1))) (.bin .Mod (.bi "int" (.cons (.bin .Add (.bin .Add (.bin .Mult (.idx (.var 0) (.cst (.int 1))) (.cst (.int 48271))) (.bin .Mult (.idx (.var 0) (.cst (.int 2))) (.cst (.int 69621)))) (.cst (.int 7))) .nil)) (.cst (.int 2147483647)))) (.cons (.ret (.bin .Mod (.bi "int" (.cons (.bin .FloorDiv (.bin .Mod (.bi "int" (.cons (.bin .Mult (.idx (.var 0) (.cst (.int 1))) (.bin .Add (.bin .Mod (.bi "int" (.cons (.idx (.var 0) (.cst (.int 1))) .nil)) (.cst (.int 10007))) (.cst (.int 30011)))) .nil)) (.cst (.int 2147483629))) (.cst (.int 211))) .nil)) (.var 1))) .nil))))
theorem sc__law_draw : FnScope n__law_draw ["_law_urn_here", "_law_many"] (defScope s__law_draw) := ⟨rfl, rfl, rfl, by decide +kernel, rfl, by decide +kernel, by decide +kernel⟩
theorem ch__law_draw : chSs (scOf n__law_draw s__law_draw false) i__law_draw (defBody s__law_draw) = true := by decide +kernel
theorem ba__law_draw : BA "_law_draw" s__law_draw ["_law_urn_here", "_law_many"] := fun _ _ _ _ _ _ us h => match us, h with | [_, _], _ => rfl
def f__law_draw (ds0 ds : List D) : Option (D × List D) := runW 100000 (tabT tb_gcd kt0 gl0) 3 i__law_draw ds0 ds
def fs__law_draw : FS := .w 2 f__law_draw
def tb__law_draw : List (Str × FS) := (("_law_draw", fs__law_draw) :: tb_gcd)
abbrev s__law_pick : Stmt := topS 45
abbrev n__law_pick : List Str := ["_law_urn_here", "_law_some"]
def i__law_pick : ISs := (.cons (.ret (.idx (.var 1) (.cal "_law_draw" (.cons (.var 0) (.cons (.bi "len" (.cons (.var 1) .nil)) .nil))))) .nil)
theorem sc__law_pick : FnScope n__law_pick ["_law_urn_here", "_law_some"] (defScope s__law_pick) := ⟨rfl, rfl, rfl, by decide +kernel, rfl, by decide +kernel, by decide +kernel⟩
theorem ch__law_pick : chSs (scOf n__law_pick s__law_pick false) i__law_pick (defBody s__law_pick) = true := by decide +kernel
theorem ba__law_pick : BA "_law_pick" s__law_pick ["_law_urn_here", "_law_some"] := fun _ _ _ _ _ _ us h => match us, h with | [_, _], _ => rfl
def f__law_pick (ds0 ds : List D) : Option (D × List D) := runW 100000 (tabT tb__law_draw kt0 gl0) 2 i__law_pick ds0 ds
def fs__law_pick : FS := .w 2 f__law_pick
def tb__law_pick : List (Str × FS) := (("_law_pick", fs__law_pick) :: tb__law_draw)
abbrev s_is_whole : Stmt := topS 9
abbrev n_is_whole : List Str := ["value"]
def i_is_whole : ISs := (.cons (.ret (.and (.isi (.var 0) "int") (.one (.not (.isi (.var 0) "bool"))))) .nil)
theorem sc_is_whole : FnScope n_is_whole ["value"] (defScope s_is_whole) := ⟨rfl, rfl, rfl, by decide +kernel, rfl, by decide +kernel, by decide +kernel⟩
theorem ch_is_whole : chSs (scOf n_is_whole s_is_whole false) i_is_whole (defBody s_is_whole) = true := by decide +kernel
theorem ba_is_whole : BA "is_whole" s_is_whole ["value"] := fun _ _ _ _ _ _ us h => match us, h with | [_], _ => rfl
def f_is_whole (ds : List D) : Option D := runP 100000 (tabT tb__law_pick kt0 gl0) 1 i_is_whole ds
def fs_is_whole : FS := .p 1 f_is_whole
def tb_is_whole : List (Str × FS) := (("is_whole", fs_is_whole) :: tb__law_pick)
abbrev s_are_wholes : Stmt := topS 11
abbrev n_are_wholes : List Str := ["value", "part"]
def i_are_wholes : ISs := (.cons (.ret (.and (.isi (.var 0) "tuple") (.one (.gn "all" (.cal "is_whole" (.cons (.var 1) .nil)) (.nm 1) [("part", 1)] (.ex (.var 0)) .no)))) .nil)
theorem sc_are_wholes : FnScope n_are_wholes ["value"] (defScope s_are_wholes) := ⟨rfl, rfl, rfl, by decide +kernel, rfl, by decide +kernel, by decide +kernel⟩
theorem ch_are_wholes : chSs (scOf n_are_wholes s_are_wholes true) i_are_wholes (defBody s_are_wholes) = true := by decide +kernel
theorem ba_are_wholes : BA "are_wholes" s_are_wholes ["value"] := fun _ _ _ _ _ _ us h => match us, h with | [_], _ => rfl
def f_are_wholes (ds : List D) : Option D := runP 100000 (tabT tb_is_whole kt0 gl0) 2 i_are_wholes ds
def fs_are_wholes : FS := .p 1 f_are_wholes
def tb_are_wholes : List (Str × FS) := (("are_wholes", fs_are_wholes) :: tb_is_whole)
abbrev s_is_point : Stmt := topS 15
abbrev n_is_point : List Str := ["value"]
def i_is_point : ISs := (.cons (.ret (.and (.cal "are_wholes" (.cons (.var 0) .nil)) (.one (.cmp .Eq (.bi "len" (.cons (.var 0) .nil)) (.cst (.int 2)))))) .nil)
theorem sc_is_point : FnScope n_is_point ["value"] (defScope s_is_point) := ⟨rfl, rfl, rfl, by decide +kernel, rfl, by decide +kernel, by decide +kernel⟩
theorem ch_is_point : chSs (scOf n_is_point s_is_point false) i_is_point (defBody s_is_point) = true := by decide +kernel
theorem ba_is_point : BA "is_point" s_is_point ["value"] := fun _ _ _ _ _ _ us h => match us, h with | [_], _ => rfl
def f_is_point (ds : List D) : Option D := runP 100000 (tabT tb_are_wholes kt0 gl0) 1 i_is_point ds
def fs_is_point : FS := .p 1 f_is_point
def tb_is_point : List (Str × FS) := (("is_point", fs_is_point) :: tb_are_wholes)
abbrev s_check_point : Stmt := topS 16
abbrev n_check_point : List Str := ["point"]
def i_check_point : ISs := (.cons (.ifs (.not (.cal "is_point" (.cons (.var 0) .nil))) (.cons .nev .nil) .nil) .nil)
theorem sc_check_point : FnScope n_check_point ["point"] (defScope s_check_point) := ⟨rfl, rfl, rfl, by decide +kernel, rfl, by decide +kernel, by decide +kernel⟩
theorem ch_check_point : chSs (scOf n_check_point s_check_point false) i_check_point (defBody s_check_point) = true := by decide +kernel
theorem ba_check_point : BA "check_point" s_check_point ["point"] := fun _ _ _ _ _ _ us h => match us, h with | [_], _ => rfl
def f_check_point (ds : List D) : Option D := runP 100000 (tabT tb_is_point kt0 gl0) 1 i_check_point ds
def fs_check_point : FS := .p 1 f_check_point
def tb_check_point : List (Str × FS) := (("check_point", fs_check_point) :: tb_is_point)
abbrev s_norm_of : Stmt := topS 18
abbrev n_norm_of : List Str := ["point", "first", "second"]
def i_norm_of : ISs := (.cons (.exp (.cal "check_point" (.cons (.var 0) .nil))) (.cons (.asg (.tup (.cons (.nm 1) (.cons (.nm 2) .nil))) (.var 0)) (.cons (.ret (.bin .Add (.bin .Sub (.bin .Mult (.var 1) (.var 1)) (.bin .Mult (.var 1) (.var 2))) (.bin .Mult (.var 2) (.var 2)))) .nil)))
theorem sc_norm_of : FnScope n_norm_of ["point"] (defScope s_norm_of) := ⟨rfl, rfl, rfl, by decide +kernel, rfl, by decide +kernel, by decide +kernel⟩
theorem ch_norm_of : chSs (scOf n_norm_of s_norm_of false) i_norm_of (defBody s_norm_of) = true := by decide +kernel
theorem ba_norm_of : BA "norm_of" s_norm_of ["point"] := fun _ _ _ _ _ _ us h => match us, h with | [_], _ => rfl
def f_norm_of (ds : List D) : Option D := runP 100000 (tabT tb_check_point kt0 gl0) 3 i_norm_of ds
def fs_norm_of : FS := .p 1 f_norm_of
def tb_norm_of : List (Str × FS) := (("norm_of", fs_norm_of) :: tb_check_point)
abbrev s_is_row : Stmt := topS 23
abbrev n_is_row : List Str := ["value"]
def i_is_row : ISs := (.cons (.ret (.and (.cal "are_wholes" (.cons (.var 0) .nil)) (.one (.cmp2 .LtE .LtE (.glb "LEAST_SLOTS") (.bi "len" (.cons (.var 0) .nil)) (.glb "MOST_SLOTS"))))) .nil)
theorem sc_is_row : FnScope n_is_row ["value"] (defScope s_is_row) := ⟨rfl, rfl, rfl, by decide +kernel, rfl, by decide +kernel, by decide +kernel⟩
theorem ch_is_row : chSs (scOf n_is_row s_is_row false) i_is_row (defBody s_is_row) = true := by decide +kernel
theorem ba_is_row : BA "is_row" s_is_row ["value"] := fun _ _ _ _ _ _ us h => match us, h with | [_], _ => rfl
def f_is_row (ds : List D) : Option D := runP 100000 (tabT tb_norm_of kt0 gl0) 1 i_is_row ds
def fs_is_row : FS := .p 1 f_is_row
def tb_is_row : List (Str × FS) := (("is_row", fs_is_row) :: tb_norm_of)
abbrev s_is_phase : Stmt := topS 24
abbrev n_is_phase : List Str := ["value"]
def i_is_phase : ISs := (.cons (.ret (.and (.cal "is_row" (.cons (.var 0) .nil)) (.one (.cmp .Eq (.bi "sum" (.cons (.var 0) .nil)) (.cst (.int 0)))))) .nil)
theorem sc_is_phase : FnScope n_is_phase ["value"] (defScope s_is_phase) := ⟨rfl, rfl, rfl, by decide +kernel, rfl, by decide +kernel, by decide +kernel⟩
theorem ch_is_phase : chSs (scOf n_is_phase s_is_phase false) i_is_phase (defBody s_is_phase) = true := by decide +kernel
theorem ba_is_phase : BA "is_phase" s_is_phase ["value"] := fun _ _ _ _ _ _ us h => match us, h with | [_], _ => rfl
def f_is_phase (ds : List D) : Option D := runP 100000 (tabT tb_is_row kt0 gl0) 1 i_is_phase ds
def fs_is_phase : FS := .p 1 f_is_phase
def tb_is_phase : List (Str × FS) := (("is_phase", fs_is_phase) :: tb_is_row)
abbrev s_wrong_phase : Stmt := topS 25
abbrev n_wrong_phase : List Str := ["phases", "most", "index", "phase"]
def i_wrong_phase : ISs := (.cons (.fors (.tup (.cons (.nm 2) (.cons (.nm 3) .nil))) (.en (.var 0)) (.cons (.ifs (.or (.cmp .Eq (.var 2) (.var 1)) (.or (.not (.cal "is_phase" (.cons (.var 3) .nil))) (.one (.cmp .NotEq (.bi "len" (.cons (.var 3) .nil)) (.bi "len" (.cons (.idx (.var 0) (.cst (.int 0))) .nil)))))) (.cons (.ret (.var 2)) .nil) .nil) .nil)) (.cons (.ret (.cst .none)) .nil))
theorem sc_wrong_phase : FnScope n_wrong_phase ["phases", "most"] (defScope s_wrong_phase) := ⟨rfl, rfl, rfl, by decide +kernel, rfl, by decide +kernel, by decide +kernel⟩
theorem ch_wrong_phase : chSs (scOf n_wrong_phase s_wrong_phase false) i_wrong_phase (defBody s_wrong_phase) = true := by decide +kernel
theorem ba_wrong_phase : BA "wrong_phase" s_wrong_phase ["phases", "most"] := fun _ _ _ _ _ _ us h => match us, h with | [_, _], _ => rfl
def f_wrong_phase (ds : List D) : Option D := runP 100000 (tabT tb_is_phase kt0 gl0) 4 i_wrong_phase ds
def fs_wrong_phase : FS := .p 2 f_wrong_phase
def tb_wrong_phase : List (Str × FS) := (("wrong_phase", fs_wrong_phase) :: tb_is_phase)
abbrev s_check_winding : Stmt := topS 26
abbrev n_check_winding : List Str := ["winding", "wrong"]
def i_check_winding : ISs := (.cons (.ifs (.or (.not (.isi (.var 0) "tuple")) (.one (.cmp .Eq (.bi "len" (.cons (.var 0) .nil)) (.cst (.int 0))))) (.cons .nev .nil) .nil) (.cons (.asg (.nm 1) (.cal "wrong_phase" (.cons (.var 0) (.cons (.glb "MOST_PHASES") .nil)))) (.cons (.ifs (.cmp .IsNot (.var 1) (.cst .none)) (.cons .nev .nil) .nil) .nil)))
theorem sc_check_winding : FnScope n_check_winding ["winding"] (defScope s_check_winding) := ⟨rfl, rfl, rfl, by decide +kernel, rfl, by decide +kernel, by decide +kernel⟩
theorem ch_check_winding : chSs (scOf n_check_winding s_check_winding false) i_check_winding (defBody s_check_winding) = true := by decide +kernel
theorem ba_check_winding : BA "check_winding" s_check_winding ["winding"] := fun _ _ _ _ _ _ us h => match us, h with | [_], _ => rfl
def f_check_winding (ds : List D) : Option D := runP 100000 (tabT tb_wrong_phase kt0 gl0) 2 i_check_winding ds
def fs_check_winding : FS := .p 1 f_check_winding
def tb_check_winding : List (Str × FS) := (("check_winding", fs_check_winding) :: tb_wrong_phase)
abbrev s_check_three : Stmt := topS 28
abbrev n_check_three : List Str := ["winding"]
def i_check_three : ISs := (.cons (.ifs (.cmp .NotEq (.bi "len" (.cons (.var 0) .nil)) (.cst (.int 3))) (.cons .nev .nil) .nil) .nil)
theorem sc_check_three : FnScope n_check_three ["winding"] (defScope s_check_three) := ⟨rfl, rfl, rfl, by decide +kernel, rfl, by decide +kernel, by decide +kernel⟩
theorem ch_check_three : chSs (scOf n_check_three s_check_three false) i_check_three (defBody s_check_three) = true := by decide +kernel
theorem ba_check_three : BA "check_three" s_check_three ["winding"] := fun _ _ _ _ _ _ us h => match us, h with | [_], _ => rfl
def f_check_three (ds : List D) : Option D := runP 100000 (tabT tb_check_winding kt0 gl0) 1 i_check_three ds
def fs_check_three : FS := .p 1 f_check_three
def tb_check_three : List (Str × FS) := (("check_three", fs_check_three) :: tb_check_winding)
abbrev s_check_three_phases : Stmt := topS 29
abbrev n_check_three_phases : List Str := ["winding"]
def i_check_three_phases : ISs := (.cons (.exp (.cal "check_winding" (.cons (.var 0) .nil))) (.cons (.exp (.cal "check_three" (.cons (.var 0) .nil))) .nil))
theorem sc_check_three_phases : FnScope n_check_three_phases ["winding"] (defScope s_check_three_phases) := ⟨rfl, rfl, rfl, by decide +kernel, rfl, by decide +kernel, by decide +kernel⟩
theorem ch_check_three_phases : chSs (scOf n_check_three_phases s_check_three_phases false) i_check_three_phases (defBody s_check_three_phases) = true := by decide +kernel
theorem ba_check_three_phases : BA "check_three_phases" s_check_three_phases ["winding"] := fun _ _ _ _ _ _ us h => match us, h with | [_], _ => rfl
def f_check_three_phases (ds : List D) : Option D := runP 100000 (tabT tb_check_three kt0 gl0) 1 i_check_three_phases ds
def fs_check_three_phases : FS := .p 1 f_check_three_phases
def tb_check_three_phases : List (Str × FS) := (("check_three_phases", fs_check_three_phases) :: tb_check_three)
abbrev s_slot_points : Stmt := topS 30
abbrev n_slot_points : List Str := ["winding", "first", "second", "third"]
def i_slot_points : ISs := (.cons (.exp (.cal "check_three_phases" (.cons (.var 0) .nil))) (.cons (.ret (.gn "tuple" (.tup (.cons (.bin .Sub (.var 1) (.var 2)) (.cons (.bin .Sub (.var 3) (.var 2)) .nil))) (.tup (.cons (.nm 1) (.cons (.nm 2) (.cons (.nm 3) .nil)))) [("first", 1), ("second", 2), ("third", 3)] (.zps (.var 0)) .no)) .nil))
theorem sc_slot_points : FnScope n_slot_points ["winding"] (defScope s_slot_points) := ⟨rfl, rfl, rfl, by decide +kernel, rfl, by decide +kernel, by decide +kernel⟩
theorem ch_slot_points : chSs (scOf n_slot_points s_slot_points true) i_slot_points (defBody s_slot_points) = true := by decide +kernel
theorem ba_slot_points : BA "slot_points" s_slot_points ["winding"] := fun _ _ _ _ _ _ us h => match us, h with | [_], _ => rfl
def f_slot_points (ds : List D) : Option D := runP 100000 (tabT tb_check_three_phases kt0 gl0) 4 i_slot_points ds
def fs_slot_points : FS := .p 1 f_slot_points
def tb_slot_points : List (Str × FS) := (("slot_points", fs_slot_points) :: tb_check_three_phases)
abbrev s_corners : Stmt := topS 31
abbrev n_corners : List Str := ["winding", "sums", "first", "second"]
def i_corners : ISs := (.cons (.asg (.nm 1) (.lst (.cons (.tup (.cons (.cst (.int 0)) (.cons (.cst (.int 0)) .nil))) .nil))) (.cons (.fors (.tup (.cons (.nm 2) (.cons (.nm 3) .nil))) (.ex (.slc (.cal "slot_points" (.cons (.var 0) .nil)) .no (.so (.neg (.cst (.int 1)))))) (.cons (.app 1 (.tup (.cons (.bin .Add (.idx (.idx (.var 1) (.neg (.cst (.int 1)))) (.cst (.int 0))) (.var 2)) (.cons (.bin .Add (.idx (.idx (.var 1) (.neg (.cst (.int 1)))) (.cst (.int 1))) (.var 3)) .nil)))) .nil)) (.cons (.ret (.bi "tuple" (.cons (.var 1) .nil))) .nil)))
theorem sc_corners : FnScope n_corners ["winding"] (defScope s_corners) := ⟨rfl, rfl, rfl, by decide +kernel, rfl, by decide +kernel, by decide +kernel⟩
theorem ch_corners : chSs (scOf n_corners s_corners false) i_corners (defBody s_corners) = true := by decide +kernel
theorem ba_corners : BA "corners" s_corners ["winding"] := fun _ _ _ _ _ _ us h => match us, h with | [_], _ => rfl
def f_corners (ds : List D) : Option D := runP 100000 (tabT tb_slot_points kt0 gl0) 4 i_corners ds
def fs_corners : FS := .p 1 f_corners
def tb_corners : List (Str × FS) := (("corners", fs_corners) :: tb_slot_points)
abbrev s_polygon : Stmt := topS 32
abbrev n_polygon : List Str := ["winding", "points", "slots", "middle", "first", "second", "_"]
def i_polygon : ISs := (.cons (.asg (.nm 1) (.cal "corners" (.cons (.var 0) .nil))) (.cons (.asg (.nm 2) (.bi "len" (.cons (.var 1) .nil))) (.cons (.asg (.nm 3) (.tup (.cons (.gn "sum" (.var 4) (.tup (.cons (.nm 4) (.cons (.nm 6) .nil))) [("first", 4), ("_", 6)] (.ex (.var 1)) .no) (.cons (.gn "sum" (.var 5) (.tup (.cons (.nm 6) (.cons (.nm 5) .nil))) [("_", 6), ("second", 5)] (.ex (.var 1)) .no) .nil)))) (.cons (.ret (.gn "tuple" (.tup (.cons (.bin .Sub (.bin .Mult (.var 2) (.var 4)) (.idx (.var 3) (.cst (.int 0)))) (.cons (.bin .Sub (.bin .Mult (.var 2) (.var 5)) (.idx (.var 3) (.cst (.int 1)))) .nil))) (.tup (.cons (.nm 4) (.cons (.nm 5) .nil))) [("first", 4), ("second", 5)] (.ex (.var 1)) .no)) .nil))))
theorem sc_polygon : FnScope n_polygon ["winding"] (defScope s_polygon) := ⟨rfl, rfl, rfl, by decide +kernel, rfl, by decide +kernel, by decide +kernel⟩
theorem ch_polygon : chSs (scOf n_polygon s_polygon true) i_polygon (defBody s_polygon) = true := by decide +kernel
theorem ba_polygon : BA "polygon" s_polygon ["winding"] := fun _ _ _ _ _ _ us h => match us, h with | [_], _ => rfl
def f_polygon (ds : List D) : Option D := runP 100000 (tabT tb_corners kt0 gl0) 7 i_polygon ds
def fs_polygon : FS := .p 1 f_polygon
def tb_polygon : List (Str × FS) := (("polygon", fs_polygon) :: tb_corners)
abbrev s__norms : Stmt := topS 33
abbrev n__norms : List Str := ["winding", "point"]
def i__norms : ISs := (.cons (.ret (.lc (.cal "norm_of" (.cons (.var 1) .nil)) (.nm 1) [("point", 1)] (.ex (.cal "polygon" (.cons (.var 0) .nil))) .no)) .nil)
theorem sc__norms : FnScope n__norms ["winding"] (defScope s__norms) := ⟨rfl, rfl, rfl, by decide +kernel, rfl, by decide +kernel, by decide +kernel⟩
theorem ch__norms : chSs (scOf n__norms s__norms false) i__norms (defBody s__norms) = true := by decide +kernel
theorem ba__norms : BA "_norms" s__norms ["winding"] := fun _ _ _ _ _ _ us h => match us, h with | [_], _ => rfl
def f__norms (ds : List D) : Option D := runP 100000 (tabT tb_polygon kt0 gl0) 2 i__norms ds
def fs__norms : FS := .p 1 f__norms
def tb__norms : List (Str × FS) := (("_norms", fs__norms) :: tb_polygon)
abbrev s_lowest_terms : Stmt := topS 13
abbrev n_lowest_terms : List Str := ["above", "below", "common"]
def i_lowest_terms : ISs := (.cons (.asg (.nm 2) (.cal "gcd" (.cons (.var 0) (.cons (.var 1) .nil)))) (.cons (.ret (.tup (.cons (.bin .FloorDiv (.var 0) (.var 2)) (.cons (.bin .FloorDiv (.var 1) (.var 2)) .nil)))) .nil))
theorem sc_lowest_terms : FnScope n_lowest_terms ["above", "below"] (defScope s_lowest_terms) := ⟨rfl, rfl, rfl, by decide +kernel, rfl, by decide +kernel, by decide +kernel⟩
theorem ch_lowest_terms : chSs (scOf n_lowest_terms s_lowest_terms false) i_lowest_terms (defBody s_lowest_terms) = true := by decide +kernel
theorem ba_lowest_terms : BA "lowest_terms" s_lowest_terms ["above", "below"] := fun _ _ _ _ _ _ us h => match us, h with | [_, _], _ => rfl
def f_lowest_terms (ds : List D) : Option D := runP 100000 (tabT tb__norms kt0 gl0) 3 i_lowest_terms ds
def fs_lowest_terms : FS := .p 2 f_lowest_terms
def tb_lowest_terms : List (Str × FS) := (("lowest_terms", fs_lowest_terms) :: tb__norms)
abbrev s_mean_square : Stmt := topS 34
abbrev n_mean_square : List Str := ["winding", "norms"]
def i_mean_square : ISs := (.cons (.asg (.nm 1) (.cal "_norms" (.cons (.var 0) .nil))) (.cons (.ret (.cal "lowest_terms" (.cons (.bi "sum" (.cons (.var 1) .nil)) (.cons (.bin .Pow (.bi "len" (.cons (.var 1) .nil)) (.cst (.int 3))) .nil)))) .nil))
theorem sc_mean_square : FnScope n_mean_square ["winding"] (defScope s_mean_square) := ⟨rfl, rfl, rfl, by decide +kernel, rfl, by decide +kernel, by decide +kernel⟩
theorem ch_mean_square : chSs (scOf n_mean_square s_mean_square false) i_mean_square (defBody s_mean_square) = true := by decide +kernel
theorem ba_mean_square : BA "mean_square" s_mean_square ["winding"] := fun _ _ _ _ _ _ us h => match us, h with | [_], _ => rfl
def f_mean_square (ds : List D) : Option D := runP 100000 (tabT tb_lowest_terms kt0 gl0) 2 i_mean_square ds
def fs_mean_square : FS := .p 1 f_mean_square
def tb_mean_square : List (Str × FS) := (("mean_square", fs_mean_square) :: tb_lowest_terms)
abbrev s__law_sixths : Stmt := topS 48
abbrev n__law_sixths : List Str := ["_law_point", "_law_many", "_law_found", "_law_turn"]
def i__law_sixths : ISs := (.cons (.asg (.nm 2) (.var 0)) (.cons (.fors (.nm 3) (.r1 (.bin .Mod (.bi "int" (.cons (.var 1) .nil)) (.cst (.int 6)))) (.cons (.asg (.nm 2) (.tup (.cons (.bin .Sub (.idx (.var 2) (.cst (.int 0))) (.idx (.var 2) (.cst (.int 1)))) (.cons (.idx (.var 2) (.cst (.int 0))) .nil)))) .nil)) (.cons (.ret (.var 2)) .nil)))
theorem sc__law_sixths : FnScope n__law_sixths ["_law_point", "_law_many"] (defScope s__law_sixths) := ⟨rfl, rfl, rfl, by decide +kernel, rfl, by decide +kernel, by decide +kernel⟩
theorem ch__law_sixths : chSs (scOf n__law_sixths s__law_sixths false) i__law_sixths (defBody s__law_sixths) = true := by decide +kernel
theorem ba__law_sixths : BA "_law_sixths" s__law_sixths ["_law_point", "_law_many"] := fun _ _ _ _ _ _ us h => match us, h with | [_, _], _ => rfl
def f__law_sixths (ds : List D) : Option D := runP 100000 (tabT tb_mean_square kt0 gl0) 4 i__law_sixths ds
def fs__law_sixths : FS := .p 2 f__law_sixths
def tb__law_sixths : List (Str × FS) := (("_law_sixths", fs__law_sixths) :: tb_mean_square)
abbrev s__law_repeated : Stmt := topS 50
abbrev n__law_repeated : List Str := ["_law_urn_here", "_law_slots", "_law_turned", "_law_many", "_law_sixths_here", "_law_first", "_law_turn", "_law_found", "_law_one", "_law_two", "_law_each", "_law_point"]
def i__law_repeated : ISs := (.cons (.asg (.nm 2) (.or (.cmp .Eq (.bin .Mod (.bi "int" (.cons (.var 1) .nil)) (.cst (.int 2))) (.cst (.int 0))) (.one (.cmp .Eq (.bin .Mod (.bi "int" (.cons (.var 1) .nil)) (.cst (.int 3))) (.cst (.int 0)))))) (.cons (.asg (.nm 3) (.cal "_law_pick" (.cons (.var 0) (.cons (.lc (.var 10) (.nm 10) [("_law_each", 10)] (.r2 (.cst (.int 1)) (.bin .Add (.var 1) (.bi "int" (.cons (.var 2) .nil)))) (.so (.cmp .Eq (.bin .Mod (.bi "int" (.cons (.var 1) .nil)) (.var 10)) (.cst (.int 0))))) .nil)))) (.cons (.asg (.nm 4) (.cal "_law_pick" (.cons (.var 0) (.cons (.lc (.var 10) (.nm 10) [("_law_each", 10)] (.r2 (.bi "int" (.cons (.cmp .Eq (.var 3) (.var 1)) .nil)) (.cst (.int 6))) (.so (.cmp .Eq (.bin .Mod (.bi "int" (.cons (.bin .Mult (.var 10) (.var 3)) .nil)) (.cst (.int 6))) (.cst (.int 0))))) .nil)))) (.cons (.asg (.nm 5) (.lst .nil)) (.cons (.fors (.nm 6) (.r1 (.bin .FloorDiv (.var 1) (.var 3))) (.cons (.asg (.nm 8) (.bin .Sub (.cal "_law_draw" (.cons (.var 0) (.cons (.cst (.int 5)) .nil))) (.cst (.int 2)))) (.cons (.app 5 (.tup (.cons (.var 8) (.cons (.bin .Sub (.cal "_law_draw" (.cons (.var 0) (.cons (.cst (.int 5)) .nil))) (.cst (.int 2))) .nil)))) .nil))) (.cons (.ifs (.cmp .Eq (.var 4) (.cst (.int 0))) (.cons (.asgs [8, 9] (.cons (.bi "sum" (.cons (.lcO (.idx (.var 11) (.cst (.int 0))) 11 "_law_point" 5) .nil)) (.cons (.bi "sum" (.cons (.lcO (.idx (.var 11) (.cst (.int 1))) 11 "_law_point" 5) .nil)) .nil))) (.cons (.asg (.sub 5 (.cst (.int 0))) (.tup (.cons (.bin .Sub (.idx (.idx (.var 5) (.cst (.int 0))) (.cst (.int 0))) (.var 8)) (.cons (.bin .Sub (.idx (.idx (.var 5) (.cst (.int 0))) (.cst (.int 1))) (.var 9)) .nil)))) .nil)) .nil) (.cons (.asg (.nm 7) (.lst .nil)) (.cons (.fors (.nm 6) (.r1 (.var 3)) (.cons (.asg (.nm 7) (.bin .Add (.var 7) (.lc (.cal "_law_sixths" (.cons (.var 11) (.cons (.bin .Mult (.var 4) (.var 6)) .nil))) (.nm 11) [("_law_point", 11)] (.ex (.var 5)) .no))) .nil)) (.cons (.ret (.var 7)) .nil)))))))))
theorem sc__law_repeated : FnScope n__law_repeated ["_law_urn_here", "_law_slots"] (defScope s__law_repeated) := ⟨rfl, rfl, rfl, by decide +kernel, rfl, by decide +kernel, by decide +kernel⟩
theorem ch__law_repeated : chSs (scOf n__law_repeated s__law_repeated false) i__law_repeated (defBody s__law_repeated) = true := by decide +kernel
theorem ba__law_repeated : BA "_law_repeated" s__law_repeated ["_law_urn_here", "_law_slots"] := fun _ _ _ _ _ _ us h => match us, h with | [_, _], _ => rfl
def f__law_repeated (ds0 ds : List D) : Option (D × List D) := runW 100000 (tabT tb__law_sixths kt0 gl0) 12 i__law_repeated ds0 ds
def fs__law_repeated : FS := .w 2 f__law_repeated
def tb__law_repeated : List (Str × FS) := (("_law_repeated", fs__law_repeated) :: tb__law_sixths)
abbrev s__law_turns : Stmt := topS 46
abbrev n__law_turns : List Str := ["_law_urn_here", "_law_turns_here", "_law_far"]
def i__law_turns : ISs := (.cons (.asg (.nm 1) (.cal "_law_pick" (.cons (.var 0) (.cons (.lst (.cons (.cst (.int 1)) (.cons (.neg (.cst (.int 1))) (.cons (.cst (.int 2)) (.cons (.neg (.cst (.int 2))) (.cons (.cst (.int 3)) (.cons (.neg (.cst (.int 5))) .nil))))))) .nil)))) (.cons (.ifs (.cmp .Eq (.cal "_law_draw" (.cons (.var 0) (.cons (.cst (.int 14)) .nil))) (.cst (.int 5))) (.cons (.asg (.nm 2) (.cal "_law_draw" (.cons (.var 0) (.cons (.bin .Pow (.cst (.int 10)) (.cst (.int 6))) .nil)))) (.cons (.asg (.nm 1) (.bin .Mult (.var 1) (.bin .Add (.bin .Add (.bin .Pow (.cst (.int 10)) (.cst (.int 14))) (.bin .Mult (.var 2) (.bin .Pow (.cst (.int 10)) (.cst (.int 6))))) (.cal "_law_draw" (.cons (.var 0) (.cons (.bin .Pow (.cst (.int 10)) (.cst (.int 6))) .nil)))))) .nil)) .nil) (.cons (.ret (.var 1)) .nil)))
theorem sc__law_turns : FnScope n__law_turns ["_law_urn_here"] (defScope s__law_turns) := ⟨rfl, rfl, rfl, by decide +kernel, rfl, by decide +kernel, by decide +kernel⟩
theorem ch__law_turns : chSs (scOf n__law_turns s__law_turns false) i__law_turns (defBody s__law_turns) = true := by decide +kernel
theorem ba__law_turns : BA "_law_turns" s__law_turns ["_law_urn_here"] := fun _ _ _ _ _ _ us h => match us, h with | [_], _ => rfl
def f__law_turns (ds0 ds : List D) : Option (D × List D) := runW 100000 (tabT tb__law_repeated kt0 gl0) 3 i__law_turns ds0 ds
def fs__law_turns : FS := .w 1 f__law_turns
def tb__law_turns : List (Str × FS) := (("_law_turns", fs__law_turns) :: tb__law_repeated)
abbrev s__law_wired : Stmt := topS 47
abbrev n__law_wired : List Str := ["_law_urn_here", "_law_slots", "_law_least", "_law_most", "_law_row", "_law_turn", "_law_far", "_law_at", "_law_steps", "_law_turns_here"]
def i__law_wired : ISs := (.cons (.asg (.nm 4) (.bin .Mult (.lst (.cons (.cst (.int 0)) .nil)) (.var 1))) (.cons (.fors (.nm 5) (.r1 (.bin .Add (.var 2) (.cal "_law_draw" (.cons (.var 0) (.cons (.bin .Sub (.bin .Add (.var 3) (.cst (.int 1))) (.var 2)) .nil))))) (.cons (.asgs [7, 8, 9] (.cons (.cal "_law_draw" (.cons (.var 0) (.cons (.var 1) .nil))) (.cons (.bin .Add (.cst (.int 1)) (.cal "_law_draw" (.cons (.var 0) (.cons (.bin .Sub (.var 1) (.cst (.int 1))) .nil)))) (.cons (.cal "_law_turns" (.cons (.var 0) .nil)) .nil)))) (.cons (.asg (.nm 6) (.bin .Mod (.bi "int" (.cons (.bin .Add (.var 7) (.var 8)) .nil)) (.var 1))) (.cons (.asg (.sub 4 (.var 7)) (.bin .Add (.idx (.var 4) (.var 7)) (.var 9))) (.cons (.asg (.sub 4 (.var 6)) (.bin .Sub (.idx (.var 4) (.var 6)) (.var 9))) .nil))))) (.cons (.ret (.var 4)) .nil)))
theorem sc__law_wired : FnScope n__law_wired ["_law_urn_here", "_law_slots", "_law_least", "_law_most"] (defScope s__law_wired) := ⟨rfl, rfl, rfl, by decide +kernel, rfl, by decide +kernel, by decide +kernel⟩
theorem ch__law_wired : chSs (scOf n__law_wired s__law_wired false) i__law_wired (defBody s__law_wired) = true := by decide +kernel
theorem ba__law_wired : BA "_law_wired" s__law_wired ["_law_urn_here", "_law_slots", "_law_least", "_law_most"] := fun _ _ _ _ _ _ us h => match us, h with | [_, _, _, _], _ => rfl
def f__law_wired (ds0 ds : List D) : Option (D × List D) := runW 100000 (tabT tb__law_turns kt0 gl0) 10 i__law_wired ds0 ds
def fs__law_wired : FS := .w 4 f__law_wired
def tb__law_wired : List (Str × FS) := (("_law_wired", fs__law_wired) :: tb__law_turns)
abbrev s__law_spread : Stmt := topS 49
abbrev n__law_spread : List Str := ["_law_urn_here", "_law_points", "_law_base", "_law_one", "_law_point", "_law_number"]
def i__law_spread : ISs := (.cons (.asg (.nm 2) (.cal "_law_wired" (.cons (.var 0) (.cons (.bi "len" (.cons (.var 1) .nil)) (.cons (.cst (.int 0)) (.cons (.cst (.int 2)) .nil)))))) (.cons (.asg (.nm 3) (.bi "tuple" (.cons (.lc (.bin .Add (.idx (.var 4) (.cst (.int 0))) (.var 5)) (.tup (.cons (.nm 4) (.cons (.nm 5) .nil))) [("_law_point", 4), ("_law_number", 5)] (.zp (.var 1) (.var 2)) .no) .nil))) (.cons (.ret (.tup (.cons (.var 3) (.cons (.bi "tuple" (.cons (.var 2) .nil)) (.cons (.bi "tuple" (.cons (.lc (.bin .Add (.idx (.var 4) (.cst (.int 1))) (.var 5)) (.tup (.cons (.nm 4) (.cons (.nm 5) .nil))) [("_law_point", 4), ("_law_number", 5)] (.zp (.var 1) (.var 2)) .no) .nil)) .nil))))) .nil)))
theorem sc__law_spread : FnScope n__law_spread ["_law_urn_here", "_law_points"] (defScope s__law_spread) := ⟨rfl, rfl, rfl, by decide +kernel, rfl, by decide +kernel, by decide +kernel⟩
theorem ch__law_spread : chSs (scOf n__law_spread s__law_spread false) i__law_spread (defBody s__law_spread) = true := by decide +kernel
theorem ba__law_spread : BA "_law_spread" s__law_spread ["_law_urn_here", "_law_points"] := fun _ _ _ _ _ _ us h => match us, h with | [_, _], _ => rfl
def f__law_spread (ds0 ds : List D) : Option (D × List D) := runW 100000 (tabT tb__law_wired kt0 gl0) 6 i__law_spread ds0 ds
def fs__law_spread : FS := .w 2 f__law_spread
def tb__law_spread : List (Str × FS) := (("_law_spread", fs__law_spread) :: tb__law_wired)
abbrev s__law_belted : Stmt := topS 52
abbrev n__law_belted : List Str := ["_law_urn_here", "_law_slots", "_law_pairs", "_law_s", "_law_each"]
def i__law_belted : ISs := (.cons (.asg (.nm 2) (.cal "_law_pick" (.cons (.var 0) (.cons (.lc (.var 4) (.nm 4) [("_law_each", 4)] (.r2 (.cst (.int 1)) (.bin .Add (.bin .FloorDiv (.var 1) (.cst (.int 6))) (.cst (.int 1)))) (.so (.cmp .Eq (.bin .Mod (.bi "int" (.cons (.var 1) .nil)) (.bin .Mult (.cst (.int 6)) (.var 4))) (.cst (.int 0))))) .nil)))) (.cons (.ret (.lc (.cal "_law_sixths" (.cons (.tup (.cons (.cst (.int 1)) (.cons (.cst (.int 0)) .nil))) (.cons (.bin .Sub (.cst (.int 0)) (.bin .FloorDiv (.bin .Mult (.bin .Mult (.cst (.int 6)) (.var 2)) (.var 3)) (.var 1))) .nil))) (.nm 3) [("_law_s", 3)] (.r1 (.var 1)) .no)) .nil))
theorem sc__law_belted : FnScope n__law_belted ["_law_urn_here", "_law_slots"] (defScope s__law_belted) := ⟨rfl, rfl, rfl, by decide +kernel, rfl, by decide +kernel, by decide +kernel⟩
theorem ch__law_belted : chSs (scOf n__law_belted s__law_belted false) i__law_belted (defBody s__law_belted) = true := by decide +kernel
theorem ba__law_belted : BA "_law_belted" s__law_belted ["_law_urn_here", "_law_slots"] := fun _ _ _ _ _ _ us h => match us, h with | [_, _], _ => rfl
def f__law_belted (ds0 ds : List D) : Option (D × List D) := runW 100000 (tabT tb__law_spread kt0 gl0) 5 i__law_belted ds0 ds
def fs__law_belted : FS := .w 2 f__law_belted
def tb__law_belted : List (Str × FS) := (("_law_belted", fs__law_belted) :: tb__law_spread)
abbrev s__law_mirrored : Stmt := topS 51
abbrev n__law_mirrored : List Str := ["_law_urn_here", "_law_points", "_law_found", "_law_k", "_law_at", "_law_sixths_here", "_law_slots", "_law_far", "_law_one", "_law_two"]
def i__law_mirrored : ISs := (.cons (.asgs [4, 5, 6] (.cons (.cal "_law_draw" (.cons (.var 0) (.cons (.bi "len" (.cons (.var 1) .nil)) .nil))) (.cons (.cal "_law_draw" (.cons (.var 0) (.cons (.cst (.int 6)) .nil))) (.cons (.bi "len" (.cons (.var 1) .nil)) .nil)))) (.cons (.asg (.nm 2) (.lst .nil)) (.cons (.fors (.nm 3) (.r1 (.var 6)) (.cons (.asg (.tup (.cons (.nm 8) (.cons (.nm 9) .nil))) (.idx (.var 1) (.bin .Sub (.var 4) (.var 3)))) (.cons (.asg (.nm 7) (.cal "_law_sixths" (.cons (.tup (.cons (.bin .Sub (.var 8) (.var 9)) (.cons (.bin .Sub (.cst (.int 0)) (.var 9)) .nil))) (.cons (.var 5) .nil)))) (.cons (.app 2 (.tup (.cons (.bin .Add (.idx (.idx (.var 1) (.var 3)) (.cst (.int 0))) (.idx (.var 7) (.cst (.int 0)))) (.cons (.bin .Add (.idx (.idx (.var 1) (.var 3)) (.cst (.int 1))) (.idx (.var 7) (.cst (.int 1)))) .nil)))) .nil)))) (.cons (.ret (.var 2)) .nil))))
theorem sc__law_mirrored : FnScope n__law_mirrored ["_law_urn_here", "_law_points"] (defScope s__law_mirrored) := ⟨rfl, rfl, rfl, by decide +kernel, rfl, by decide +kernel, by decide +kernel⟩
theorem ch__law_mirrored : chSs (scOf n__law_mirrored s__law_mirrored false) i__law_mirrored (defBody s__law_mirrored) = true := by decide +kernel
theorem ba__law_mirrored : BA "_law_mirrored" s__law_mirrored ["_law_urn_here", "_law_points"] := fun _ _ _ _ _ _ us h => match us, h with | [_, _], _ => rfl
def f__law_mirrored (ds0 ds : List D) : Option (D × List D) := runW 100000 (tabT tb__law_belted kt0 gl0) 10 i__law_mirrored ds0 ds
def fs__law_mirrored : FS := .w 2 f__law_mirrored
def tb__law_mirrored : List (Str × FS) := (("_law_mirrored", fs__law_mirrored) :: tb__law_belted)
abbrev s__law_three : Stmt := topS 53
abbrev n__law_three : List Str := ["_law_urn_here", "_law_slots", "_law_way", "_law_rows", "_law_two", "_law_points", "_law_row", "_law_none", "_law_turn", "_law_sign", "_law_phase", "_law_s"]
def i__law_three : ISs := (.cons (.asg (.nm 2) (.cal "_law_draw" (.cons (.var 0) (.cons (.cst (.int 12)) .nil)))) (.cons (.ifs (.cmp .Lt (.var 2) (.cst (.int 3))) (.cons (.asg (.nm 3) (.lc (.cal "_law_wired" (.cons (.var 0) (.cons (.var 1) (.cons (.cst (.int 0)) (.cons (.cst (.int 3)) .nil))))) (.nm 10) [("_law_phase", 10)] (.r1 (.cst (.int 3))) .no)) (.cons (.ret (.bi "tuple" (.cons (.lc (.bi "tuple" (.cons (.var 6) .nil)) (.nm 6) [("_law_row", 6)] (.ex (.var 3)) .no) .nil))) .nil)) .nil) (.cons (.ifs (.cmp .Lt (.var 2) (.cst (.int 5))) (.cons (.asgs [6, 8, 9] (.cons (.cal "_law_wired" (.cons (.var 0) (.cons (.var 1) (.cons (.cst (.int 1)) (.cons (.cst (.int 3)) .nil))))) (.cons (.cal "_law_draw" (.cons (.var 0) (.cons (.var 1) .nil))) (.cons (.cal "_law_pick" (.cons (.var 0) (.cons (.lst (.cons (.cst (.int 1)) (.cons (.neg (.cst (.int 1))) .nil))) .nil))) .nil)))) (.cons (.asg (.nm 4) (.lc (.bin .Mult (.var 9) (.idx (.var 6) (.bin .Sub (.var 11) (.var 8)))) (.nm 11) [("_law_s", 11)] (.r1 (.var 1)) .no)) (.cons (.ret (.tup (.cons (.bi "tuple" (.cons (.var 6) .nil)) (.cons (.bi "tuple" (.cons (.var 4) .nil)) (.cons (.bi "tuple" (.cons (.lc (.bin .Mult (.var 9) (.idx (.var 4) (.bin .Sub (.var 11) (.var 8)))) (.nm 11) [("_law_s", 11)] (.r1 (.var 1)) .no) .nil)) .nil))))) .nil))) .nil) (.cons (.ifs (.cmp .Lt (.var 2) (.cst (.int 9))) (.cons (.asg (.nm 5) (.cal "_law_repeated" (.cons (.var 0) (.cons (.var 1) .nil)))) (.cons (.ret (.cal "_law_spread" (.cons (.var 0) (.cons (.ite (.cmp .Lt (.var 2) (.cst (.int 7))) (.var 5) (.cal "_law_mirrored" (.cons (.var 0) (.cons (.var 5) .nil)))) .nil)))) .nil)) .nil) (.cons (.ifs (.and (.cmp .Eq (.var 2) (.cst (.int 9))) (.one (.cmp .Eq (.bin .Mod (.bi "int" (.cons (.var 1) .nil)) (.cst (.int 6))) (.cst (.int 0))))) (.cons (.ret (.cal "_law_spread" (.cons (.var 0) (.cons (.cal "_law_belted" (.cons (.var 0) (.cons (.var 1) .nil))) .nil)))) .nil) .nil) (.cons (.asgs [6, 7] (.cons (.bi "tuple" (.cons (.cal "_law_wired" (.cons (.var 0) (.cons (.var 1) (.cons (.cst (.int 1)) (.cons (.cst (.int 2)) .nil))))) .nil)) (.cons (.bi "tuple" (.cons (.bin .Mult (.lst (.cons (.cst (.int 0)) .nil)) (.var 1)) .nil)) .nil))) (.cons (.ret (.ite (.cmp .Eq (.var 2) (.cst (.int 11))) (.tup (.cons (.var 6) (.cons (.var 6) (.cons (.var 6) .nil)))) (.tup (.cons (.var 7) (.cons (.var 6) (.cons (.var 7) .nil)))))) .nil)))))))
theorem sc__law_three : FnScope n__law_three ["_law_urn_here", "_law_slots"] (defScope s__law_three) := ⟨rfl, rfl, rfl, by decide +kernel, rfl, by decide +kernel, by decide +kernel⟩
theorem ch__law_three : chSs (scOf n__law_three s__law_three false) i__law_three (defBody s__law_three) = true := by decide +kernel
theorem ba__law_three : BA "_law_three" s__law_three ["_law_urn_here", "_law_slots"] := fun _ _ _ _ _ _ us h => match us, h with | [_, _], _ => rfl
def f__law_three (ds0 ds : List D) : Option (D × List D) := runW 100000 (tabT tb__law_mirrored kt0 gl0) 12 i__law_three ds0 ds
def fs__law_three : FS := .w 2 f__law_three
def tb__law_three : List (Str × FS) := (("_law_three", fs__law_three) :: tb__law_mirrored)
abbrev s__law_currents : Stmt := topS 54
abbrev n__law_currents : List Str := ["_law_moment", "_law_at", "_law_row"]
def i__law_currents : ISs := (.cons (.asg (.nm 1) (.bin .FloorDiv (.var 0) (.cst (.int 2)))) (.cons (.asg (.nm 2) (.ite (.cmp .Eq (.bin .Mod (.bi "int" (.cons (.var 0) .nil)) (.cst (.int 2))) (.cst (.int 0))) (.tup (.cons (.cst (.int 2)) (.cons (.cst (.int 1)) (.cons (.neg (.cst (.int 1))) (.cons (.neg (.cst (.int 2))) (.cons (.neg (.cst (.int 1))) (.cons (.cst (.int 1)) .nil))))))) (.tup (.cons (.cst (.int 1)) (.cons (.cst (.int 0)) (.cons (.neg (.cst (.int 1))) (.cons (.neg (.cst (.int 1))) (.cons (.cst (.int 0)) (.cons (.cst (.int 1)) .nil))))))))) (.cons (.ret (.tup (.cons (.idx (.var 2) (.var 1)) (.cons (.idx (.var 2) (.bin .Sub (.var 1) (.cst (.int 2)))) (.cons (.idx (.var 2) (.bin .Sub (.var 1) (.cst (.int 4)))) .nil))))) .nil)))
theorem sc__law_currents : FnScope n__law_currents ["_law_moment"] (defScope s__law_currents) := ⟨rfl, rfl, rfl, by decide +kernel, rfl, by decide +kernel, by decide +kernel⟩
theorem ch__law_currents : chSs (scOf n__law_currents s__law_currents false) i__law_currents (defBody s__law_currents) = true := by decide +kernel
theorem ba__law_currents : BA "_law_currents" s__law_currents ["_law_moment"] := fun _ _ _ _ _ _ us h => match us, h with | [_], _ => rfl
def f__law_currents (ds : List D) : Option D := runP 100000 (tabT tb__law_three kt0 gl0) 3 i__law_currents ds
def fs__law_currents : FS := .p 1 f__law_currents
def tb__law_currents : List (Str × FS) := (("_law_currents", fs__law_currents) :: tb__law_three)
abbrev s__law_field : Stmt := topS 55
abbrev n__law_field : List Str := ["_law_winding", "_law_slots", "_law_currents_here", "_law_s", "_law_one", "_law_two", "_law_three_here", "_law_sums", "_law_here", "_law_each"]
def i__law_field : ISs := (.cons (.asg (.tup (.cons (.nm 4) (.cons (.nm 5) (.cons (.nm 6) .nil)))) (.var 2)) (.cons (.asgs [7, 8] (.cons (.lst .nil) (.cons (.cst (.int 0)) .nil))) (.cons (.fors (.nm 3) (.r1 (.var 1)) (.cons (.app 7 (.var 8)) (.cons (.asg (.nm 8) (.bin .Add (.bin .Add (.bin .Add (.var 8) (.bin .Mult (.idx (.idx (.var 0) (.cst (.int 0))) (.var 3)) (.var 4))) (.bin .Mult (.idx (.idx (.var 0) (.cst (.int 1))) (.var 3)) (.var 5))) (.bin .Mult (.idx (.idx (.var 0) (.cst (.int 2))) (.var 3)) (.var 6)))) .nil))) (.cons (.ret (.lc (.bin .Sub (.bin .Mult (.var 1) (.var 9)) (.bi "sum" (.cons (.var 7) .nil))) (.nm 9) [("_law_each", 9)] (.ex (.var 7)) .no)) .nil))))
theorem sc__law_field : FnScope n__law_field ["_law_winding", "_law_slots", "_law_currents_here"] (defScope s__law_field) := ⟨rfl, rfl, rfl, by decide +kernel, rfl, by decide +kernel, by decide +kernel⟩
theorem ch__law_field : chSs (scOf n__law_field s__law_field false) i__law_field (defBody s__law_field) = true := by decide +kernel
theorem ba__law_field : BA "_law_field" s__law_field ["_law_winding", "_law_slots", "_law_currents_here"] := fun _ _ _ _ _ _ us h => match us, h with | [_, _, _], _ => rfl
def f__law_field (ds : List D) : Option D := runP 100000 (tabT tb__law_currents kt0 gl0) 10 i__law_field ds
def fs__law_field : FS := .p 3 f__law_field
def tb__law_field : List (Str × FS) := (("_law_field", fs__law_field) :: tb__law_currents)
abbrev s_is_within : Stmt := topS 10
abbrev n_is_within : List Str := ["value", "least", "greatest"]
def i_is_within : ISs := (.cons (.ret (.and (.cal "is_whole" (.cons (.var 0) .nil)) (.one (.cmp2 .LtE .LtE (.var 1) (.var 0) (.var 2))))) .nil)
theorem sc_is_within : FnScope n_is_within ["value", "least", "greatest"] (defScope s_is_within) := ⟨rfl, rfl, rfl, by decide +kernel, rfl, by decide +kernel, by decide +kernel⟩
theorem ch_is_within : chSs (scOf n_is_within s_is_within false) i_is_within (defBody s_is_within) = true := by decide +kernel
theorem ba_is_within : BA "is_within" s_is_within ["value", "least", "greatest"] := fun _ _ _ _ _ _ us h => match us, h with | [_, _, _], _ => rfl
def f_is_within (ds : List D) : Option D := runP 100000 (tabT tb__law_field kt0 gl0) 3 i_is_within ds
def fs_is_within : FS := .p 3 f_is_within
def tb_is_within : List (Str × FS) := (("is_within", fs_is_within) :: tb__law_field)
abbrev s_check_moment : Stmt := topS 38
abbrev n_check_moment : List Str := ["moment"]
def i_check_moment : ISs := (.cons (.ifs (.not (.cal "is_within" (.cons (.var 0) (.cons (.cst (.int 0)) (.cons (.bin .Sub (.glb "MOMENTS") (.cst (.int 1))) .nil))))) (.cons .nev .nil) .nil) .nil)
theorem sc_check_moment : FnScope n_check_moment ["moment"] (defScope s_check_moment) := ⟨rfl, rfl, rfl, by decide +kernel, rfl, by decide +kernel, by decide +kernel⟩
theorem ch_check_moment : chSs (scOf n_check_moment s_check_moment false) i_check_moment (defBody s_check_moment) = true := by decide +kernel
theorem ba_check_moment : BA "check_moment" s_check_moment ["moment"] := fun _ _ _ _ _ _ us h => match us, h with | [_], _ => rfl
def f_check_moment (ds : List D) : Option D := runP 100000 (tabT tb_is_within kt0 gl0) 1 i_check_moment ds
def fs_check_moment : FS := .p 1 f_check_moment
def tb_check_moment : List (Str × FS) := (("check_moment", fs_check_moment) :: tb_is_within)
abbrev s_check_number : Stmt := topS 12
abbrev n_check_number : List Str := ["given"]
def i_check_number : ISs := (.cons (.ifs (.not (.cal "is_whole" (.cons (.var 0) .nil))) (.cons .nev .nil) .nil) .nil)
theorem sc_check_number : FnScope n_check_number ["given"] (defScope s_check_number) := ⟨rfl, rfl, rfl, by decide +kernel, rfl, by decide +kernel, by decide +kernel⟩
theorem ch_check_number : chSs (scOf n_check_number s_check_number false) i_check_number (defBody s_check_number) = true := by decide +kernel
theorem ba_check_number : BA "check_number" s_check_number ["given"] := fun _ _ _ _ _ _ us h => match us, h with | [_], _ => rfl
def f_check_number (ds : List D) : Option D := runP 100000 (tabT tb_check_moment kt0 gl0) 1 i_check_number ds
def fs_check_number : FS := .p 1 f_check_number
def tb_check_number : List (Str × FS) := (("check_number", fs_check_number) :: tb_check_moment)
abbrev s_turned_point : Stmt := topS 17
abbrev n_turned_point : List Str := ["point", "sixths", "_", "first", "second"]
def i_turned_point : ISs := (.cons (.exp (.cal "check_point" (.cons (.var 0) .nil))) (.cons (.exp (.cal "check_number" (.cons (.var 1) .nil))) (.cons (.asg (.tup (.cons (.nm 3) (.cons (.nm 4) .nil))) (.var 0)) (.cons (.fors (.nm 2) (.r1 (.bin .Mod (.var 1) (.cst (.int 6)))) (.cons (.asgs [3, 4] (.cons (.bin .Sub (.var 3) (.var 4)) (.cons (.var 3) .nil))) .nil)) (.cons (.ret (.tup (.cons (.var 3) (.cons (.var 4) .nil)))) .nil)))))
theorem sc_turned_point : FnScope n_turned_point ["point", "sixths"] (defScope s_turned_point) := ⟨rfl, rfl, rfl, by decide +kernel, rfl, by decide +kernel, by decide +kernel⟩
theorem ch_turned_point : chSs (scOf n_turned_point s_turned_point false) i_turned_point (defBody s_turned_point) = true := by decide +kernel
theorem ba_turned_point : BA "turned_point" s_turned_point ["point", "sixths"] := fun _ _ _ _ _ _ us h => match us, h with | [_, _], _ => rfl
def f_turned_point (ds : List D) : Option D := runP 100000 (tabT tb_check_number kt0 gl0) 5 i_turned_point ds
def fs_turned_point : FS := .p 2 f_turned_point
def tb_turned_point : List (Str × FS) := (("turned_point", fs_turned_point) :: tb_check_number)
abbrev s_field_at : Stmt := topS 40
abbrev n_field_at : List Str := ["winding", "moment", "weight", "turned", "point", "first", "second"]
def i_field_at : ISs := (.cons (.exp (.cal "check_winding" (.cons (.var 0) .nil))) (.cons (.exp (.cal "check_moment" (.cons (.var 1) .nil))) (.cons (.exp (.cal "check_three" (.cons (.var 0) .nil))) (.cons (.asg (.nm 2) (.ite (.cmp .Eq (.bin .Mod (.var 1) (.cst (.int 2))) (.cst (.int 1))) (.cst (.int 1)) (.cst (.int 2)))) (.cons (.asg (.nm 3) (.lc (.cal "turned_point" (.cons (.var 4) (.cons (.bin .FloorDiv (.var 1) (.cst (.int 2))) .nil))) (.nm 4) [("point", 4)] (.ex (.cal "polygon" (.cons (.var 0) .nil))) .no)) (.cons (.ret (.gn "tuple" (.bin .Sub (.bin .Mult (.var 2) (.var 5)) (.var 6)) (.tup (.cons (.nm 5) (.cons (.nm 6) .nil))) [("first", 5), ("second", 6)] (.ex (.var 3)) .no)) .nil))))))
theorem sc_field_at : FnScope n_field_at ["winding", "moment"] (defScope s_field_at) := ⟨rfl, rfl, rfl, by decide +kernel, rfl, by decide +kernel, by decide +kernel⟩
theorem ch_field_at : chSs (scOf n_field_at s_field_at true) i_field_at (defBody s_field_at) = true := by decide +kernel
theorem ba_field_at : BA "field_at" s_field_at ["winding", "moment"] := fun _ _ _ _ _ _ us h => match us, h with | [_, _], _ => rfl
theorem ka_field_at_0 : KA "field_at" s_field_at ["winding", "moment"] 0 ["moment", "winding"] [1, 0] := fun _ _ _ _ _ _ us ws h h2 => match us, ws, h, h2 with | [], [_, _], _, _ => rfl
def f_field_at (ds : List D) : Option D := runP 100000 (tabT tb_turned_point kt0 gl0) 7 i_field_at ds
def fs_field_at : FS := .p 2 f_field_at
def tb_field_at : List (Str × FS) := (("field_at", fs_field_at) :: tb_turned_point)
abbrev s_currents_at : Stmt := topS 39
abbrev n_currents_at : List Str := ["moment", "phase"]
def i_currents_at : ISs := (.cons (.exp (.cal "check_moment" (.cons (.var 0) .nil))) (.cons (.ret (.gn "tuple" (.idx (.glb "COSINES") (.bin .Mod (.bin .Sub (.var 0) (.bin .Mult (.cst (.int 4)) (.var 1))) (.glb "MOMENTS"))) (.nm 1) [("phase", 1)] (.r1 (.cst (.int 3))) .no)) .nil))
theorem sc_currents_at : FnScope n_currents_at ["moment"] (defScope s_currents_at) := ⟨rfl, rfl, rfl, by decide +kernel, rfl, by decide +kernel, by decide +kernel⟩
theorem ch_currents_at : chSs (scOf n_currents_at s_currents_at true) i_currents_at (defBody s_currents_at) = true := by decide +kernel
theorem ba_currents_at : BA "currents_at" s_currents_at ["moment"] := fun _ _ _ _ _ _ us h => match us, h with | [_], _ => rfl
theorem ka_currents_at_0 : KA "currents_at" s_currents_at ["moment"] 0 ["moment"] [0] := fun _ _ _ _ _ _ us ws h h2 => match us, ws, h, h2 with | [], [_], _, _ => rfl
def f_currents_at (ds : List D) : Option D := runP 100000 (tabT tb_field_at kt0 gl0) 2 i_currents_at ds
def fs_currents_at : FS := .p 1 f_currents_at
def tb_currents_at : List (Str × FS) := (("currents_at", fs_currents_at) :: tb_field_at)
abbrev s_square_at : Stmt := topS 41
abbrev n_square_at : List Str := ["winding", "moment", "number"]
def i_square_at : ISs := (.cons (.ret (.gn "sum" (.bin .Mult (.var 2) (.var 2)) (.nm 2) [("number", 2)] (.ex (.cal "field_at" (.cons (.var 0) (.cons (.var 1) .nil)))) .no)) .nil)
theorem sc_square_at : FnScope n_square_at ["winding", "moment"] (defScope s_square_at) := ⟨rfl, rfl, rfl, by decide +kernel, rfl, by decide +kernel, by decide +kernel⟩
theorem ch_square_at : chSs (scOf n_square_at s_square_at true) i_square_at (defBody s_square_at) = true := by decide +kernel
theorem ba_square_at : BA "square_at" s_square_at ["winding", "moment"] := fun _ _ _ _ _ _ us h => match us, h with | [_, _], _ => rfl
theorem ka_square_at_0 : KA "square_at" s_square_at ["winding", "moment"] 0 ["moment", "winding"] [1, 0] := fun _ _ _ _ _ _ us ws h h2 => match us, ws, h, h2 with | [], [_, _], _, _ => rfl
def f_square_at (ds : List D) : Option D := runP 100000 (tabT tb_currents_at kt0 gl0) 3 i_square_at ds
def fs_square_at : FS := .p 2 f_square_at
def tb_square_at : List (Str × FS) := (("square_at", fs_square_at) :: tb_currents_at)
abbrev s__law_right : Stmt := topS 56
abbrev n__law_right : List Str := ["_law_urn_here", "_law_slots", "_law_moment", "_law_winding", "_law_squares", "_law_due", "_law_field_here", "_law_square", "_law_whole", "_law_part", "_law_both", "_law_one", "_law_two", "_law_each"]
def i__law_right : ISs := (.cons (.asg (.nm 1) (.cal "_law_pick" (.cons (.var 0) (.cons (.lst (.cons (.cst (.int 6)) (.cons (.cst (.int 3)) (.cons (.cst (.int 4)) (.cons (.cst (.int 9)) (.cons (.cst (.int 2)) (.cons (.cst (.int 5)) (.cons (.cst (.int 12)) (.cons (.cst (.int 8)) (.cons (.cst (.int 7)) (.cons (.cst (.int 10)) (.cons (.cst (.int 60)) .nil)))))))))))) .nil)))) (.cons (.asgs [3, 4] (.cons (.cal "_law_three" (.cons (.var 0) (.cons (.var 1) .nil))) (.cons (.lst .nil) .nil))) (.cons (.fors (.nm 2) (.r1 (.cst (.int 12))) (.cons (.asg (.nm 5) (.cal "_law_currents" (.cons (.var 2) .nil))) (.cons (.ifs (.cmp .NotEq (.bi "repr" (.cons (.lst (.cons (.cal "currents_at" (.cons (.var 2) .nil)) (.cons (.calk "currents_at" 0 (.cons (.var 2) .nil) ["moment"]) .nil))) .nil)) (.bi "repr" (.cons (.lst (.cons (.var 5) (.cons (.var 5) .nil))) .nil))) (.cons (.ret (.cst (.bool false))) .nil) .nil) (.cons (.asg (.nm 6) (.cal "_law_field" (.cons (.var 3) (.cons (.var 1) (.cons (.var 5) .nil))))) (.cons (.ifs (.cmp .NotEq (.bi "repr" (.cons (.lst (.cons (.cal "field_at" (.cons (.var 3) (.cons (.var 2) .nil))) (.cons (.calk "field_at" 0 (.cons (.var 2) (.cons (.var 3) .nil)) ["moment", "winding"]) .nil))) .nil)) (.bi "repr" (.cons (.lst (.cons (.bi "tuple" (.cons (.var 6) .nil)) (.cons (.bi "tuple" (.cons (.var 6) .nil)) .nil))) .nil))) (.cons (.ret (.cst (.bool false))) .nil) .nil) (.cons (.asg (.nm 7) (.bi "sum" (.cons (.lc (.bin .Mult (.var 13) (.var 13)) (.nm 13) [("_law_each", 13)] (.ex (.var 6)) .no) .nil))) (.cons (.app 4 (.var 7)) (.cons (.ifs (.cmp .NotEq (.bi "repr" (.cons (.lst (.cons (.cal "square_at" (.cons (.var 3) (.cons (.var 2) .nil))) (.cons (.calk "square_at" 0 (.cons (.var 2) (.cons (.var 3) .nil)) ["moment", "winding"]) .nil))) .nil)) (.bi "repr" (.cons (.lst (.cons (.var 7) (.cons (.var 7) .nil))) .nil))) (.cons (.ret (.cst (.bool false))) .nil) .nil) (.cons (.ifs (.and (.cmp .Gt (.var 2) (.cst (.int 5))) (.one (.cmp .NotEq (.cal "field_at" (.cons (.var 3) (.cons (.var 2) .nil))) (.bi "tuple" (.cons (.lc (.bin .Sub (.cst (.int 0)) (.var 13)) (.nm 13) [("_law_each", 13)] (.ex (.cal "field_at" (.cons (.var 3) (.cons (.bin .Sub (.var 2) (.cst (.int 6))) .nil)))) .no) .nil))))) (.cons (.ret (.cst (.bool false))) .nil) .nil) .nil))))))))) (.cons (.asg (.tup (.cons (.nm 8) (.cons (.nm 9) .nil))) (.cal "mean_square" (.cons (.var 3) .nil))) (.cons (.fors (.nm 2) (.r1 (.cst (.int 12))) (.cons (.asgs [11, 12] (.cons (.idx (.var 4) (.var 2)) (.cons (.idx (.var 4) (.bin .Sub (.var 2) (.cst (.int 9)))) .nil))) (.cons (.asg (.nm 10) (.ite (.cmp .Eq (.bin .Mod (.bi "int" (.cons (.var 2) .nil)) (.cst (.int 2))) (.cst (.int 0))) (.bin .Add (.var 11) (.bin .Mult (.cst (.int 3)) (.var 12))) (.bin .Add (.bin .Mult (.cst (.int 3)) (.var 11)) (.var 12)))) (.cons (.ifs (.cmp .NotEq (.bin .Mult (.var 10) (.var 9)) (.bin .Mult (.bin .Mult (.bin .Mult (.bin .Mult (.cst (.int 4)) (.var 1)) (.var 1)) (.var 1)) (.var 8))) (.cons (.ret (.cst (.bool false))) .nil) .nil) .nil)))) (.cons (.ret (.cst (.bool true))) .nil))))))
theorem sc__law_right : FnScope n__law_right ["_law_urn_here"] (defScope s__law_right) := ⟨rfl, rfl, rfl, by decide +kernel, rfl, by decide +kernel, by decide +kernel⟩
theorem ch__law_right : chSs (scOf n__law_right s__law_right false) i__law_right (defBody s__law_right) = true := by decide +kernel
theorem ba__law_right : BA "_law_right" s__law_right ["_law_urn_here"] := fun _ _ _ _ _ _ us h => match us, h with | [_], _ => rfl
def f__law_right (ds0 ds : List D) : Option (D × List D) := runW 100000 (tabT tb_square_at kt0 gl0) 14 i__law_right ds0 ds
def fs__law_right : FS := .w 1 f__law_right
def tb__law_right : List (Str × FS) := (("_law_right", fs__law_right) :: tb_square_at)
abbrev s__law_urn : Stmt := topS 43
abbrev n__law_urn : List Str := ["_law_script", "_law_turn", "_law_own", "_law_stirred", "_law_cell", "_law_seed"]
def i__law_urn : ISs := (.cons (.asg (.nm 2) (.ite (.cmp .Lt (.var 1) (.bi "len" (.cons (.var 0) .nil))) (.bi "int" (.cons (.idx (.var 0) (.var 1)) .nil)) (.bin .Add (.bin .Mult (.cst (.int 613)) (.var 1)) (.cst (.int 211))))) (.cons (.asg (.nm 3) (.bin .Add (.cst (.int 157939)) (.bin .Mult (.cst (.int 6007)) (.var 1)))) (.cons (.fors (.nm 4) (.ex (.slc (.var 0) .no (.so (.cst (.int 8))))) (.cons (.asg (.nm 3) (.bin .Mod (.bi "int" (.cons (.bin .Add (.bin .Add (.bin .Mult (.var 3) (.cst (.int 48889))) (.bin .Mod (.bi "int" (.cons (.var 4) .nil)) (.cst (.int 2147483563)))) (.cst (.int 19))) .nil)) (.cst (.int 2147483647)))) .nil)) (.cons (.asg (.nm 5) (.bin .Mod (.bi "int" (.cons (.bin .Add (.bin .Mult (.var 3) (.cst (.int 101))) (.bin .Mult (.bin .Mod (.bi "int" (.cons (.var 2) .nil)) (.cst (.int 2147483563))) (.cst (.int 40507)))) .nil)) (.cst (.int 2147483647)))) (.cons (.retM (.lst (.cons (.ite (.or (.cmp .Lt (.var 2) (.cst (.int 0))) (.one (.cmp .GtE (.var 2) (.bin .Pow (.cst (.int 10)) (.cst (.int 17)))))) (.bi "abs" (.cons (.var 2) .nil)) (.cst (.int 0))) (.cons (.var 5) (.cons (.cst (.int 0)) .nil))))) .nil)))))
theorem sc__law_urn : FnScope n__law_urn ["_law_script", "_law_turn"] (defScope s__law_urn) := ⟨rfl, rfl, rfl, by decide +kernel, rfl, by decide +kernel, by decide +kernel⟩
theorem ch__law_urn : chSs (scOf n__law_urn s__law_urn false) i__law_urn (defBody s__law_urn) = true := by decide +kernel
theorem ba__law_urn : BA "_law_urn" s__law_urn ["_law_script", "_law_turn"] := fun _ _ _ _ _ _ us h => match us, h with | [_, _], _ => rfl
def f__law_urn (ds : List D) : Option (List D) := runM 100000 (tabT tb__law_right kt0 gl0) 6 i__law_urn ds
def fs__law_urn : FS := .m 2 f__law_urn
def tb__law_urn : List (Str × FS) := (("_law_urn", fs__law_urn) :: tb__law_right)
abbrev s_law : Stmt := topS 57
abbrev n_law : List Str := ["_law_script", "_law_turn"]
def i_law : ISs := (.cons (.ret (.bi "all" (.cons (.lc (.cal "_law_right" (.cons (.cal "_law_urn" (.cons (.var 0) (.cons (.var 1) .nil))) .nil)) (.nm 1) [("_law_turn", 1)] (.r1 (.bi "max" (.cons (.cst (.int 2)) (.cons (.bi "min" (.cons (.bi "len" (.cons (.var 0) .nil)) (.cons (.cst (.int 3)) .nil))) .nil)))) .no) .nil))) .nil)
theorem sc_law : FnScope n_law ["_law_script"] (defScope s_law) := ⟨rfl, rfl, rfl, by decide +kernel, rfl, by decide +kernel, by decide +kernel⟩
theorem ch_law : chSs (scOf n_law s_law false) i_law (defBody s_law) = true := by decide +kernel
theorem ba_law : BA "law" s_law ["_law_script"] := fun _ _ _ _ _ _ us h => match us, h with | [_], _ => rfl
def f_law (ds : List D) : Option D := runP 100000 (tabT tb__law_urn kt0 gl0) 2 i_law ds
def fs_law : FS := .p 1 f_law
section
variable {P : Program} {w : World} {K : PySem.W.Frag} {mg : Str → Option Value}
theorem all_mk {fa : Addr} {h : Heap} {cs0 : List (Addr × Addr)} (KX : K.In h) (hfa : mg "law" = some (.ref fa))
    (g__law_draw : Got K mg "_law_draw" s__law_draw)
    (g__law_pick : Got K mg "_law_pick" s__law_pick)
    (g_is_whole : Got K mg "is_whole" s_is_whole)
    (g_are_wholes : Got K mg "are_wholes" s_are_wholes)
    (g_is_point : Got K mg "is_point" s_is_point)
    (g_check_point : Got K mg "check_point" s_check_point)
    (g_norm_of : Got K mg "norm_of" s_norm_of)
    (g_is_row : Got K mg "is_row" s_is_row)
    (g_is_phase : Got K mg "is_phase" s_is_phase)
    (g_wrong_phase : Got K mg "wrong_phase" s_wrong_phase)
    (g_check_winding : Got K mg "check_winding" s_check_winding)
    (g_check_three : Got K mg "check_three" s_check_three)
    (g_check_three_phases : Got K mg "check_three_phases" s_check_three_phases)
    (g_slot_points : Got K mg "slot_points" s_slot_points)
    (g_corners : Got K mg "corners" s_corners)
    (g_polygon : Got K mg "polygon" s_polygon)
    (g__norms : Got K mg "_norms" s__norms)
    (g_lowest_terms : Got K mg "lowest_terms" s_lowest_terms)
    (g_mean_square : Got K mg "mean_square" s_mean_square)
    (g__law_sixths : Got K mg "_law_sixths" s__law_sixths)
    (g__law_repeated : Got K mg "_law_repeated" s__law_repeated)
    (g__law_turns : Got K mg "_law_turns" s__law_turns)
    (g__law_wired : Got K mg "_law_wired" s__law_wired)
    (g__law_spread : Got K mg "_law_spread" s__law_spread)
    (g__law_belted : Got K mg "_law_belted" s__law_belted)
    (g__law_mirrored : Got K mg "_law_mirrored" s__law_mirrored)
    (g__law_three : Got K mg "_law_three" s__law_three)
    (g__law_currents : Got K mg "_law_currents" s__law_currents)
    (g__law_field : Got K mg "_law_field" s__law_field)
    (g_is_within : Got K mg "is_within" s_is_within)
    (g_check_moment : Got K mg "check_moment" s_check_moment)
    (g_check_number : Got K mg "check_number" s_check_number)
    (g_turned_point : Got K mg "turned_point" s_turned_point)
    (g_field_at : Got K mg "field_at" s_field_at)
    (g_currents_at : Got K mg "currents_at" s_currents_at)
    (g_square_at : Got K mg "square_at" s_square_at)
    (g__law_right : Got K mg "_law_right" s__law_right)
    (g__law_urn : Got K mg "_law_urn" s__law_urn)
    (g_law : Got K mg "law" s_law)
    (z_len : mg "len" = none) (z_abs : mg "abs" = none) (z_int : mg "int" = none) (z_max : mg "max" = none) (z_min : mg "min" = none) (z_divmod : mg "divmod" = none) (z_tuple : mg "tuple" = none) (z_list : mg "list" = none) (z_sum : mg "sum" = none) (z_repr : mg "repr" = none) (z_all : mg "all" = none) (z_any : mg "any" = none) (z_sorted : mg "sorted" = none) (z_range : mg "range" = none) (z_enumerate : mg "enumerate" = none) (z_zip : mg "zip" = none) (z_isinstance : mg "isinstance" = none) (z_bool : mg "bool" = none) (z_str : mg "str" = none) (z_dict : mg "dict" = none) (z_float : mg "float" = none)
    (c_LEAST_SLOTS : ∃ t, mg "LEAST_SLOTS" = some (.int (2) t))
    (c_MOST_SLOTS : ∃ t, mg "MOST_SLOTS" = some (.int (60) t))
    (c_MOST_PHASES : ∃ t, mg "MOST_PHASES" = some (.int (6) t))
    (c_MOMENTS : ∃ t, mg "MOMENTS" = some (.int (12) t))
    (c_COSINES : ConT K mg "COSINES" [(2 : Int), (1 : Int), (1 : Int), (0 : Int), (-1 : Int), (-1 : Int), (-2 : Int), (-1 : Int), (-1 : Int), (0 : Int), (1 : Int), (1 : Int)])
    (m_gcd : mg "gcd" = some (.builtin "math.gcd")) (tx : TabsX h mg ["are_wholes", "slot_points", "polygon", "field_at", "currents_at", "square_at"] cs0) :
    ∃ fd : FuncData, (∀ (s : Shared) (u : Value), BindsTo s fd ⟨[u], []⟩ [("_law_script", u)]) ∧ ∀ base : Heap, (∀ p ∈ cs0, GxR.TabB base mg p.1 p.2) → FnG P w K mg base 88 fa fd ["_law_script"] (SpP K (cs0.map (·.2)) 1 f_law) := by
  obtain ⟨p0, cs1, rfl, t0, tx⟩ := tx.uncons
  obtain ⟨p1, cs2, rfl, t1, tx⟩ := tx.uncons
  obtain ⟨p2, cs3, rfl, t2, tx⟩ := tx.uncons
  obtain ⟨p3, cs4, rfl, t3, tx⟩ := tx.uncons
  obtain ⟨p4, cs5, rfl, t4, tx⟩ := tx.uncons
  obtain ⟨p5, cs6, rfl, t5, tx⟩ := tx.uncons
  cases tx
  obtain ⟨fd, h1, h2⟩ := law_g (T := tabT tb__law_urn kt0 gl0) (tb := (List.map (·.2) [p0, p1, p2, p3, p4, p5])) (k := 87) (P := P) (w := w) (sp := f_law) g_law sc_law ba_law hfa ch_law
  refine ⟨fd, h1, fun base hTB => ?_⟩
  have g__law_draw : GotT K mg base (List.map (·.2) [p0, p1, p2, p3, p4, p5]) false "_law_draw" s__law_draw := g__law_draw.t0
  have g__law_pick : GotT K mg base (List.map (·.2) [p0, p1, p2, p3, p4, p5]) false "_law_pick" s__law_pick := g__law_pick.t0
  have g_is_whole : GotT K mg base (List.map (·.2) [p0, p1, p2, p3, p4, p5]) false "is_whole" s_is_whole := g_is_whole.t0
  have g_are_wholes : GotT K mg base (List.map (·.2) [p0, p1, p2, p3, p4, p5]) true "are_wholes" s_are_wholes := Got.tx KX g_are_wholes t0 (hTB p0 (by simp)) (by simp)
  have g_is_point : GotT K mg base (List.map (·.2) [p0, p1, p2, p3, p4, p5]) false "is_point" s_is_point := g_is_point.t0
  have g_check_point : GotT K mg base (List.map (·.2) [p0, p1, p2, p3, p4, p5]) false "check_point" s_check_point := g_check_point.t0
  have g_norm_of : GotT K mg base (List.map (·.2) [p0, p1, p2, p3, p4, p5]) false "norm_of" s_norm_of := g_norm_of.t0
  have g_is_row : GotT K mg base (List.map (·.2) [p0, p1, p2, p3, p4, p5]) false "is_row" s_is_row := g_is_row.t0
  have g_is_phase : GotT K mg base (List.map (·.2) [p0, p1, p2, p3, p4, p5]) false "is_phase" s_is_phase := g_is_phase.t0
  have g_wrong_phase : GotT K mg base (List.map (·.2) [p0, p1, p2, p3, p4, p5]) false "wrong_phase" s_wrong_phase := g_wrong_phase.t0
  have g_check_winding : GotT K mg base (List.map (·.2) [p0, p1, p2, p3, p4, p5]) false "check_winding" s_check_winding := g_check_winding.t0
  have g_check_three : GotT K mg base (List.map (·.2) [p0, p1, p2, p3, p4, p5]) false "check_three" s_check_three := g_check_three.t0
  have g_check_three_phases : GotT K mg base (List.map (·.2) [p0, p1, p2, p3, p4, p5]) false "check_three_phases" s_check_three_phases := g_check_three_phases.t0
  have g_slot_points : GotT K mg base (List.map (·.2) [p0, p1, p2, p3, p4, p5]) true "slot_points" s_slot_points := Got.tx KX g_slot_points t1 (hTB p1 (by simp)) (by simp)
  have g_corners : GotT K mg base (List.map (·.2) [p0, p1, p2, p3, p4, p5]) false "corners" s_corners := g_corners.t0
  have g_polygon : GotT K mg base (List.map (·.2) [p0, p1, p2, p3, p4, p5]) true "polygon" s_polygon := Got.tx KX g_polygon t2 (hTB p2 (by simp)) (by simp)
  have g__norms : GotT K mg base (List.map (·.2) [p0, p1, p2, p3, p4, p5]) false "_norms" s__norms := g__norms.t0
  have g_lowest_terms : GotT K mg base (List.map (·.2) [p0, p1, p2, p3, p4, p5]) false "lowest_terms" s_lowest_terms := g_lowest_terms.t0
  have g_mean_square : GotT K mg base (List.map (·.2) [p0, p1, p2, p3, p4, p5]) false "mean_square" s_mean_square := g_mean_square.t0
  have g__law_sixths : GotT K mg base (List.map (·.2) [p0, p1, p2, p3, p4, p5]) false "_law_sixths" s__law_sixths := g__law_sixths.t0
  have g__law_repeated : GotT K mg base (List.map (·.2) [p0, p1, p2, p3, p4, p5]) false "_law_repeated" s__law_repeated := g__law_repeated.t0
  have g__law_turns : GotT K mg base (List.map (·.2) [p0, p1, p2, p3, p4, p5]) false "_law_turns" s__law_turns := g__law_turns.t0
  have g__law_wired : GotT K mg base (List.map (·.2) [p0, p1, p2, p3, p4, p5]) false "_law_wired" s__law_wired := g__law_wired.t0
  have g__law_spread : GotT K mg base (List.map (·.2) [p0, p1, p2, p3, p4, p5]) false "_law_spread" s__law_spread := g__law_spread.t0
  have g__law_belted : GotT K mg base (List.map (·.2) [p0, p1, p2, p3, p4, p5]) false "_law_belted" s__law_belted := g__law_belted.t0
  have g__law_mirrored : GotT K mg base (List.map (·.2) [p0, p1, p2, p3, p4, p5]) false "_law_mirrored" s__law_mirrored := g__law_mirrored.t0
  have g__law_three : GotT K mg base (List.map (·.2) [p0, p1, p2, p3, p4, p5]) false "_law_three" s__law_three := g__law_three.t0
  have g__law_currents : GotT K mg base (List.map (·.2) [p0, p1, p2, p3, p4, p5]) false "_law_currents" s__law_currents := g__law_currents.t0
  have g__law_field : GotT K mg base (List.map (·.2) [p0, p1, p2, p3, p4, p5]) false "_law_field" s__law_field := g__law_field.t0
  have g_is_within : GotT K mg base (List.map (·.2) [p0, p1, p2, p3, p4, p5]) false "is_within" s_is_within := g_is_within.t0
  have g_check_moment : GotT K mg base (List.map (·.2) [p0, p1, p2, p3, p4, p5]) false "check_moment" s_check_moment := g_check_moment.t0
  have g_check_number : GotT K mg base (List.map (·.2) [p0, p1, p2, p3, p4, p5]) false "check_number" s_check_number := g_check_number.t0
  have g_turned_point : GotT K mg base (List.map (·.2) [p0, p1, p2, p3, p4, p5]) false "turned_point" s_turned_point := g_turned_point.t0
  have g_field_at : GotT K mg base (List.map (·.2) [p0, p1, p2, p3, p4, p5]) true "field_at" s_field_at := Got.tx KX g_field_at t3 (hTB p3 (by simp)) (by simp)
  have g_currents_at : GotT K mg base (List.map (·.2) [p0, p1, p2, p3, p4, p5]) true "currents_at" s_currents_at := Got.tx KX g_currents_at t4 (hTB p4 (by simp)) (by simp)
  have g_square_at : GotT K mg base (List.map (·.2) [p0, p1, p2, p3, p4, p5]) true "square_at" s_square_at := Got.tx KX g_square_at t5 (hTB p5 (by simp)) (by simp)
  have g__law_right : GotT K mg base (List.map (·.2) [p0, p1, p2, p3, p4, p5]) false "_law_right" s__law_right := g__law_right.t0
  have g__law_urn : GotT K mg base (List.map (·.2) [p0, p1, p2, p3, p4, p5]) false "_law_urn" s__law_urn := g__law_urn.t0
  have e0 : Env1 (tabT [] kt0 gl0) P w K mg base (List.map (·.2) [p0, p1, p2, p3, p4, p5]) 0 := env0 (fun x d h => by
    have h := lookup_mem h
    simp only [gl0, List.mem_cons, List.not_mem_nil, or_false, Prod.mk.injEq] at h
    rcases h with ⟨rfl, rfl⟩ | ⟨rfl, rfl⟩ | ⟨rfl, rfl⟩ | ⟨rfl, rfl⟩ | ⟨rfl, rfl⟩
    · obtain ⟨t, ht⟩ := c_LEAST_SLOTS
      exact ⟨.int (2), _, ht, ⟨t, rfl⟩, fun F => .int (2)⟩
    · obtain ⟨t, ht⟩ := c_MOST_SLOTS
      exact ⟨.int (60), _, ht, ⟨t, rfl⟩, fun F => .int (60)⟩
    · obtain ⟨t, ht⟩ := c_MOST_PHASES
      exact ⟨.int (6), _, ht, ⟨t, rfl⟩, fun F => .int (6)⟩
    · obtain ⟨t, ht⟩ := c_MOMENTS
      exact ⟨.int (12), _, ht, ⟨t, rfl⟩, fun F => .int (12)⟩
    · exact conT_glb c_COSINES) (fun x h => by
    simp only [bnames, List.mem_cons, List.not_mem_nil, or_false] at h
    rcases h with rfl | rfl | rfl | rfl | rfl | rfl | rfl | rfl | rfl | rfl | rfl | rfl | rfl | rfl | rfl | rfl | rfl | rfl | rfl | rfl | rfl
    · exact z_len
    · exact z_abs
    · exact z_int
    · exact z_max
    · exact z_min
    · exact z_divmod
    · exact z_tuple
    · exact z_list
    · exact z_sum
    · exact z_repr
    · exact z_all
    · exact z_any
    · exact z_sorted
    · exact z_range
    · exact z_enumerate
    · exact z_zip
    · exact z_isinstance
    · exact z_bool
    · exact z_str
    · exact z_dict
    · exact z_float)
  have e_gcd := e0.ext (k := 1) (can_gcd m_gcd) (fun l h => by rw [show List.lookup ("gcd" : Str) kt0 = none by decide +kernel] at h; cases h) (by decide)
  have e__law_draw : Env1 (tabT tb__law_draw kt0 gl0) P w K mg base (List.map (·.2) [p0, p1, p2, p3, p4, p5]) 2 := e_gcd.ext (s := fs__law_draw) (can_gw g__law_draw sc__law_draw ba__law_draw e_gcd ch__law_draw (fun ds0 ds r h _ => ⟨100000, h⟩)) (fun l h => by rw [show List.lookup ("_law_draw" : Str) kt0 = none by decide +kernel] at h; cases h) (by decide)
  have e__law_pick : Env1 (tabT tb__law_pick kt0 gl0) P w K mg base (List.map (·.2) [p0, p1, p2, p3, p4, p5]) 3 := e__law_draw.ext (s := fs__law_pick) (can_gw g__law_pick sc__law_pick ba__law_pick e__law_draw ch__law_pick (fun ds0 ds r h _ => ⟨100000, h⟩)) (fun l h => by rw [show List.lookup ("_law_pick" : Str) kt0 = none by decide +kernel] at h; cases h) (by decide)
  have e_is_whole : Env1 (tabT tb_is_whole kt0 gl0) P w K mg base (List.map (·.2) [p0, p1, p2, p3, p4, p5]) 4 := e__law_pick.ext (s := fs_is_whole) (can_gp g_is_whole sc_is_whole ba_is_whole e__law_pick ch_is_whole (fun ds r h _ => ⟨100000, h⟩)) (fun l h => by rw [show List.lookup ("is_whole" : Str) kt0 = none by decide +kernel] at h; cases h) (by decide)
  have e_are_wholes : Env1 (tabT tb_are_wholes kt0 gl0) P w K mg base (List.map (·.2) [p0, p1, p2, p3, p4, p5]) 13 := e_is_whole.ext (s := fs_are_wholes) (can_gp g_are_wholes sc_are_wholes ba_are_wholes e_is_whole ch_are_wholes (fun ds r h _ => ⟨100000, h⟩)) (fun l h => by rw [show List.lookup ("are_wholes" : Str) kt0 = none by decide +kernel] at h; cases h) (by decide)
  have e_is_point : Env1 (tabT tb_is_point kt0 gl0) P w K mg base (List.map (·.2) [p0, p1, p2, p3, p4, p5]) 14 := e_are_wholes.ext (s := fs_is_point) (can_gp g_is_point sc_is_point ba_is_point e_are_wholes ch_is_point (fun ds r h _ => ⟨100000, h⟩)) (fun l h => by rw [show List.lookup ("is_point" : Str) kt0 = none by decide +kernel] at h; cases h) (by decide)
  have e_check_point : Env1 (tabT tb_check_point kt0 gl0) P w K mg base (List.map (·.2) [p0, p1, p2, p3, p4, p5]) 15 := e_is_point.ext (s := fs_check_point) (can_gp g_check_point sc_check_point ba_check_point e_is_point ch_check_point (fun ds r h _ => ⟨100000, h⟩)) (fun l h => by rw [show List.lookup ("check_point" : Str) kt0 = none by decide +kernel] at h; cases h) (by decide)
  have e_norm_of : Env1 (tabT tb_norm_of kt0 gl0) P w K mg base (List.map (·.2) [p0, p1, p2, p3, p4, p5]) 16 := e_check_point.ext (s := fs_norm_of) (can_gp g_norm_of sc_norm_of ba_norm_of e_check_point ch_norm_of (fun ds r h _ => ⟨100000, h⟩)) (fun l h => by rw [show List.lookup ("norm_of" : Str) kt0 = none by decide +kernel] at h; cases h) (by decide)
  have e_is_row : Env1 (tabT tb_is_row kt0 gl0) P w K mg base (List.map (·.2) [p0, p1, p2, p3, p4, p5]) 17 := e_norm_of.ext (s := fs_is_row) (can_gp g_is_row sc_is_row ba_is_row e_norm_of ch_is_row (fun ds r h _ => ⟨100000, h⟩)) (fun l h => by rw [show List.lookup ("is_row" : Str) kt0 = none by decide +kernel] at h; cases h) (by decide)
  have e_is_phase : Env1 (tabT tb_is_phase kt0 gl0) P w K mg base (List.map (·.2) [p0, p1, p2, p3, p4, p5]) 18 := e_is_row.ext (s := fs_is_phase) (can_gp g_is_phase sc_is_phase ba_is_phase e_is_row ch_is_phase (fun ds r h _ => ⟨100000, h⟩)) (fun l h => by rw [show List.lookup ("is_phase" : Str) kt0 = none by decide +kernel] at h; cases h) (by decide)
  have e_wrong_phase : Env1 (tabT tb_wrong_phase kt0 gl0) P w K mg base (List.map (·.2) [p0, p1, p2, p3, p4, p5]) 19 := e_is_phase.ext (s := fs_wrong_phase) (can_gp g_wrong_phase sc_wrong_phase ba_wrong_phase e_is_phase ch_wrong_phase (fun ds r h _ => ⟨100000, h⟩)) (fun l h => by rw [show List.lookup ("wrong_phase" : Str) kt0 = none by decide +kernel] at h; cases h) (by decide)
  have e_check_winding : Env1 (tabT tb_check_winding kt0 gl0) P w K mg base (List.map (·.2) [p0, p1, p2, p3, p4, p5]) 20 := e_wrong_phase.ext (s := fs_check_winding) (can_gp g_check_winding sc_check_winding ba_check_winding e_wrong_phase ch_check_winding (fun ds r h _ => ⟨100000, h⟩)) (fun l h => by rw [show List.lookup ("check_winding" : Str) kt0 = none by decide +kernel] at h; cases h) (by decide)
  have e_check_three : Env1 (tabT tb_check_three kt0 gl0) P w K mg base (List.map (·.2) [p0, p1, p2, p3, p4, p5]) 21 := e_check_winding.ext (s := fs_check_three) (can_gp g_check_three sc_check_three ba_check_three e_check_winding ch_check_three (fun ds r h _ => ⟨100000, h⟩)) (fun l h => by rw [show List.lookup ("check_three" : Str) kt0 = none by decide +kernel] at h; cases h) (by decide)
  have e_check_three_phases : Env1 (tabT tb_check_three_phases kt0 gl0) P w K mg base (List.map (·.2) [p0, p1, p2, p3, p4, p5]) 22 := e_check_three.ext (s := fs_check_three_phases) (can_gp g_check_three_phases sc_check_three_phases ba_check_three_phases e_check_three ch_check_three_phases (fun ds r h _ => ⟨100000, h⟩)) (fun l h => by rw [show List.lookup ("check_three_phases" : Str) kt0 = none by decide +kernel] at h; cases h) (by decide)
  have e_slot_points : Env1 (tabT tb_slot_points kt0 gl0) P w K mg base (List.map (·.2) [p0, p1, p2, p3, p4, p5]) 31 := e_check_three_phases.ext (s := fs_slot_points) (can_gp g_slot_points sc_slot_points ba_slot_points e_check_three_phases ch_slot_points (fun ds r h _ => ⟨100000, h⟩)) (fun l h => by rw [show List.lookup ("slot_points" : Str) kt0 = none by decide +kernel] at h; cases h) (by decide)
  have e_corners : Env1 (tabT tb_corners kt0 gl0) P w K mg base (List.map (·.2) [p0, p1, p2, p3, p4, p5]) 32 := e_slot_points.ext (s := fs_corners) (can_gp g_corners sc_corners ba_corners e_slot_points ch_corners (fun ds r h _ => ⟨100000, h⟩)) (fun l h => by rw [show List.lookup ("corners" : Str) kt0 = none by decide +kernel] at h; cases h) (by decide)
  have e_polygon : Env1 (tabT tb_polygon kt0 gl0) P w K mg base (List.map (·.2) [p0, p1, p2, p3, p4, p5]) 41 := e_corners.ext (s := fs_polygon) (can_gp g_polygon sc_polygon ba_polygon e_corners ch_polygon (fun ds r h _ => ⟨100000, h⟩)) (fun l h => by rw [show List.lookup ("polygon" : Str) kt0 = none by decide +kernel] at h; cases h) (by decide)
  have e__norms : Env1 (tabT tb__norms kt0 gl0) P w K mg base (List.map (·.2) [p0, p1, p2, p3, p4, p5]) 42 := e_polygon.ext (s := fs__norms) (can_gp g__norms sc__norms ba__norms e_polygon ch__norms (fun ds r h _ => ⟨100000, h⟩)) (fun l h => by rw [show List.lookup ("_norms" : Str) kt0 = none by decide +kernel] at h; cases h) (by decide)
  have e_lowest_terms : Env1 (tabT tb_lowest_terms kt0 gl0) P w K mg base (List.map (·.2) [p0, p1, p2, p3, p4, p5]) 43 := e__norms.ext (s := fs_lowest_terms) (can_gp g_lowest_terms sc_lowest_terms ba_lowest_terms e__norms ch_lowest_terms (fun ds r h _ => ⟨100000, h⟩)) (fun l h => by rw [show List.lookup ("lowest_terms" : Str) kt0 = none by decide +kernel] at h; cases h) (by decide)
  have e_mean_square : Env1 (tabT tb_mean_square kt0 gl0) P w K mg base (List.map (·.2) [p0, p1, p2, p3, p4, p5]) 44 := e_lowest_terms.ext (s := fs_mean_square) (can_gp g_mean_square sc_mean_square ba_mean_square e_lowest_terms ch_mean_square (fun ds r h _ => ⟨100000, h⟩)) (fun l h => by rw [show List.lookup ("mean_square" : Str) kt0 = none by decide +kernel] at h; cases h) (by decide)
  have e__law_sixths : Env1 (tabT tb__law_sixths kt0 gl0) P w K mg base (List.map (·.2) [p0, p1, p2, p3, p4, p5]) 45 := e_mean_square.ext (s := fs__law_sixths) (can_gp g__law_sixths sc__law_sixths ba__law_sixths e_mean_square ch__law_sixths (fun ds r h _ => ⟨100000, h⟩)) (fun l h => by rw [show List.lookup ("_law_sixths" : Str) kt0 = none by decide +kernel] at h; cases h) (by decide)
  have e__law_repeated : Env1 (tabT tb__law_repeated kt0 gl0) P w K mg base (List.map (·.2) [p0, p1, p2, p3, p4, p5]) 46 := e__law_sixths.ext (s := fs__law_repeated) (can_gw g__law_repeated sc__law_repeated ba__law_repeated e__law_sixths ch__law_repeated (fun ds0 ds r h _ => ⟨100000, h⟩)) (fun l h => by rw [show List.lookup ("_law_repeated" : Str) kt0 = none by decide +kernel] at h; cases h) (by decide)
  have e__law_turns : Env1 (tabT tb__law_turns kt0 gl0) P w K mg base (List.map (·.2) [p0, p1, p2, p3, p4, p5]) 47 := e__law_repeated.ext (s := fs__law_turns) (can_gw g__law_turns sc__law_turns ba__law_turns e__law_repeated ch__law_turns (fun ds0 ds r h _ => ⟨100000, h⟩)) (fun l h => by rw [show List.lookup ("_law_turns" : Str) kt0 = none by decide +kernel] at h; cases h) (by decide)
  have e__law_wired : Env1 (tabT tb__law_wired kt0 gl0) P w K mg base (List.map (·.2) [p0, p1, p2, p3, p4, p5]) 48 := e__law_turns.ext (s := fs__law_wired) (can_gw g__law_wired sc__law_wired ba__law_wired e__law_turns ch__law_wired (fun ds0 ds r h _ => ⟨100000, h⟩)) (fun l h => by rw [show List.lookup ("_law_wired" : Str) kt0 = none by decide +kernel] at h; cases h) (by decide)
  have e__law_spread : Env1 (tabT tb__law_spread kt0 gl0) P w K mg base (List.map (·.2) [p0, p1, p2, p3, p4, p5]) 49 := e__law_wired.ext (s := fs__law_spread) (can_gw g__law_spread sc__law_spread ba__law_spread e__law_wired ch__law_spread (fun ds0 ds r h _ => ⟨100000, h⟩)) (fun l h => by rw [show List.lookup ("_law_spread" : Str) kt0 = none by decide +kernel] at h; cases h) (by decide)
  have e__law_belted : Env1 (tabT tb__law_belted kt0 gl0) P w K mg base (List.map (·.2) [p0, p1, p2, p3, p4, p5]) 50 := e__law_spread.ext (s := fs__law_belted) (can_gw g__law_belted sc__law_belted ba__law_belted e__law_spread ch__law_belted (fun ds0 ds r h _ => ⟨100000, h⟩)) (fun l h => by rw [show List.lookup ("_law_belted" : Str) kt0 = none by decide +kernel] at h; cases h) (by decide)
  have e__law_mirrored : Env1 (tabT tb__law_mirrored kt0 gl0) P w K mg base (List.map (·.2) [p0, p1, p2, p3, p4, p5]) 51 := e__law_belted.ext (s := fs__law_mirrored) (can_gw g__law_mirrored sc__law_mirrored ba__law_mirrored e__law_belted ch__law_mirrored (fun ds0 ds r h _ => ⟨100000, h⟩)) (fun l h => by rw [show List.lookup ("_law_mirrored" : Str) kt0 = none by decide +kernel] at h; cases h) (by decide)
  have e__law_three : Env1 (tabT tb__law_three kt0 gl0) P w K mg base (List.map (·.2) [p0, p1, p2, p3, p4, p5]) 52 := e__law_mirrored.ext (s := fs__law_three) (can_gw g__law_three sc__law_three ba__law_three e__law_mirrored ch__law_three (fun ds0 ds r h _ => ⟨100000, h⟩)) (fun l h => by rw [show List.lookup ("_law_three" : Str) kt0 = none by decide +kernel] at h; cases h) (by decide)
  have e__law_currents : Env1 (tabT tb__law_currents kt0 gl0) P w K mg base (List.map (·.2) [p0, p1, p2, p3, p4, p5]) 53 := e__law_three.ext (s := fs__law_currents) (can_gp g__law_currents sc__law_currents ba__law_currents e__law_three ch__law_currents (fun ds r h _ => ⟨100000, h⟩)) (fun l h => by rw [show List.lookup ("_law_currents" : Str) kt0 = none by decide +kernel] at h; cases h) (by decide)
  have e__law_field : Env1 (tabT tb__law_field kt0 gl0) P w K mg base (List.map (·.2) [p0, p1, p2, p3, p4, p5]) 54 := e__law_currents.ext (s := fs__law_field) (can_gp g__law_field sc__law_field ba__law_field e__law_currents ch__law_field (fun ds r h _ => ⟨100000, h⟩)) (fun l h => by rw [show List.lookup ("_law_field" : Str) kt0 = none by decide +kernel] at h; cases h) (by decide)
  have e_is_within : Env1 (tabT tb_is_within kt0 gl0) P w K mg base (List.map (·.2) [p0, p1, p2, p3, p4, p5]) 55 := e__law_field.ext (s := fs_is_within) (can_gp g_is_within sc_is_within ba_is_within e__law_field ch_is_within (fun ds r h _ => ⟨100000, h⟩)) (fun l h => by rw [show List.lookup ("is_within" : Str) kt0 = none by decide +kernel] at h; cases h) (by decide)
  have e_check_moment : Env1 (tabT tb_check_moment kt0 gl0) P w K mg base (List.map (·.2) [p0, p1, p2, p3, p4, p5]) 56 := e_is_within.ext (s := fs_check_moment) (can_gp g_check_moment sc_check_moment ba_check_moment e_is_within ch_check_moment (fun ds r h _ => ⟨100000, h⟩)) (fun l h => by rw [show List.lookup ("check_moment" : Str) kt0 = none by decide +kernel] at h; cases h) (by decide)
  have e_check_number : Env1 (tabT tb_check_number kt0 gl0) P w K mg base (List.map (·.2) [p0, p1, p2, p3, p4, p5]) 57 := e_check_moment.ext (s := fs_check_number) (can_gp g_check_number sc_check_number ba_check_number e_check_moment ch_check_number (fun ds r h _ => ⟨100000, h⟩)) (fun l h => by rw [show List.lookup ("check_number" : Str) kt0 = none by decide +kernel] at h; cases h) (by decide)
  have e_turned_point : Env1 (tabT tb_turned_point kt0 gl0) P w K mg base (List.map (·.2) [p0, p1, p2, p3, p4, p5]) 58 := e_check_number.ext (s := fs_turned_point) (can_gp g_turned_point sc_turned_point ba_turned_point e_check_number ch_turned_point (fun ds r h _ => ⟨100000, h⟩)) (fun l h => by rw [show List.lookup ("turned_point" : Str) kt0 = none by decide +kernel] at h; cases h) (by decide)
  have e_field_at : Env1 (tabT tb_field_at kt0 gl0) P w K mg base (List.map (·.2) [p0, p1, p2, p3, p4, p5]) 67 := e_turned_point.ext (s := fs_field_at) (can_gp g_field_at sc_field_at ba_field_at e_turned_point ch_field_at (fun ds r h _ => ⟨100000, h⟩)) (fun l h n ks pm hm => by
    rw [show List.lookup ("field_at" : Str) kt0 = (some [((0, ["moment", "winding"]), [1, 0])] : Option (List ((Nat × List Str) × List Nat))) by decide +kernel] at h
    cases h
    simp only [List.mem_cons, List.not_mem_nil, or_false, Prod.mk.injEq] at hm
    rcases hm with ⟨⟨rfl, rfl⟩, rfl⟩
    · exact cank_gp g_field_at sc_field_at ka_field_at_0 e_turned_point ch_field_at (fun ds r h _ => ⟨100000, h⟩)) (by decide)
  have e_currents_at : Env1 (tabT tb_currents_at kt0 gl0) P w K mg base (List.map (·.2) [p0, p1, p2, p3, p4, p5]) 76 := e_field_at.ext (s := fs_currents_at) (can_gp g_currents_at sc_currents_at ba_currents_at e_field_at ch_currents_at (fun ds r h _ => ⟨100000, h⟩)) (fun l h n ks pm hm => by
    rw [show List.lookup ("currents_at" : Str) kt0 = (some [((0, ["moment"]), [0])] : Option (List ((Nat × List Str) × List Nat))) by decide +kernel] at h
    cases h
    simp only [List.mem_cons, List.not_mem_nil, or_false, Prod.mk.injEq] at hm
    rcases hm with ⟨⟨rfl, rfl⟩, rfl⟩
    · exact cank_gp g_currents_at sc_currents_at ka_currents_at_0 e_field_at ch_currents_at (fun ds r h _ => ⟨100000, h⟩)) (by decide)
  have e_square_at : Env1 (tabT tb_square_at kt0 gl0) P w K mg base (List.map (·.2) [p0, p1, p2, p3, p4, p5]) 85 := e_currents_at.ext (s := fs_square_at) (can_gp g_square_at sc_square_at ba_square_at e_currents_at ch_square_at (fun ds r h _ => ⟨100000, h⟩)) (fun l h n ks pm hm => by
    rw [show List.lookup ("square_at" : Str) kt0 = (some [((0, ["moment", "winding"]), [1, 0])] : Option (List ((Nat × List Str) × List Nat))) by decide +kernel] at h
    cases h
    simp only [List.mem_cons, List.not_mem_nil, or_false, Prod.mk.injEq] at hm
    rcases hm with ⟨⟨rfl, rfl⟩, rfl⟩
    · exact cank_gp g_square_at sc_square_at ka_square_at_0 e_currents_at ch_square_at (fun ds r h _ => ⟨100000, h⟩)) (by decide)
  have e__law_right : Env1 (tabT tb__law_right kt0 gl0) P w K mg base (List.map (·.2) [p0, p1, p2, p3, p4, p5]) 86 := e_square_at.ext (s := fs__law_right) (can_gw g__law_right sc__law_right ba__law_right e_square_at ch__law_right (fun ds0 ds r h _ => ⟨100000, h⟩)) (fun l h => by rw [show List.lookup ("_law_right" : Str) kt0 = none by decide +kernel] at h; cases h) (by decide)
  have e__law_urn : Env1 (tabT tb__law_urn kt0 gl0) P w K mg base (List.map (·.2) [p0, p1, p2, p3, p4, p5]) 87 := e__law_right.ext (s := fs__law_urn) (can_gm g__law_urn sc__law_urn ba__law_urn e__law_right ch__law_urn (fun ds r h _ => ⟨100000, h⟩)) (fun l h => by rw [show List.lookup ("_law_urn" : Str) kt0 = none by decide +kernel] at h; cases h) (by decide)
  exact h2 base e__law_urn (fun ds r h _ => ⟨100000, h⟩)
end
end Ev

set_option maxHeartbeats 1000000
namespace Ev
open PySem L2
/-! ### draws -/
def Urn (l : List D) : Prop := ∃ r m c : Int, l = [.int r, .int m, .int c] ∧ 0 ≤ r
theorem v_draw1 (r m c k : Int) (hr : 0 < r) (hk : 0 < k) (hk2 : k < 1073741824) : f__law_draw [.int r, .int m, .int c] [.int k] = some (.int (r % k), [.int (r / k), .int m, .int c]) := by
  simp [f__law_draw, runW, i__law_draw, entW, evSs, evS, evE, evEs, evT, viewOp, viewL, idxD, atI, ixN, ofC, cmpD, cmpI, hr, biD, hk, hk2, asgT, asgTs, keepOp, stOp, setE, lenOk]
theorem v_draw2 (m c k : Int) (hk : 0 < k) : ∃ v m' : Int, f__law_draw [.int 0, .int m, .int c] [.int k] = some (.int (v % k), [.int 0, .int m', .int (c + 1)]) := by
  have h1 : mulOk m 48271 = true := mulOk_r (by decide) (by decide)
  have h2 : mulOk (c + 1) 69621 = true := mulOk_r (by decide) (by decide)
  have h3 : divOk 211 = true := by decide
  have h4 : ∀ x : Int, mulOk x (x % 10007 + 30011) = true := fun x => mulOk_r (by omega) (by omega)
  refine ⟨((m * 48271 + (c + 1) * 69621 + 7) % 2147483647 * ((m * 48271 + (c + 1) * 69621 + 7) % 2147483647 % 10007 + 30011)) % 2147483629 / 211, (m * 48271 + (c + 1) * 69621 + 7) % 2147483647, ?_⟩
  simp [f__law_draw, runW, i__law_draw, entW, evSs, evS, evE, evEs, evT, viewOp, viewL, idxD, atI, ixN, ofC, cmpD, cmpI, biD, hk, asgT, asgTs, keepOp, stOp, setE, lenOk, binD, binI, h1, h2, h3, h4]
theorem v_draw {l : List D} (w : Urn l) {k : Int} (hk : 0 < k) (hk2 : k < 1073741824) : ∃ v l', f__law_draw l [.int k] = some (.int v, l') ∧ Urn l' ∧ 0 ≤ v ∧ v < k := by
  obtain ⟨r, m, c, rfl, hr⟩ := w
  by_cases h0 : 0 < r
  · exact ⟨_, _, v_draw1 r m c k h0 hk hk2, ⟨_, _, _, rfl, Int.ediv_nonneg hr (by omega)⟩, Int.emod_nonneg _ (by omega), Int.emod_lt_of_pos _ hk⟩
  · have : r = 0 := by omega
    subst this
    obtain ⟨v, m', e⟩ := v_draw2 m c k hk
    exact ⟨_, _, e, ⟨_, _, _, rfl, Int.le_refl _⟩, Int.emod_nonneg _ (by omega), Int.emod_lt_of_pos _ hk⟩
theorem t_drawP : (tabT tb__law_draw kt0 gl0).fs "_law_draw" = some fs__law_draw := rfl
theorem t_drawT : (tabT tb__law_repeated kt0 gl0).fs "_law_draw" = some fs__law_draw := rfl
theorem t_pickT : (tabT tb__law_repeated kt0 gl0).fs "_law_pick" = some fs__law_pick := rfl
theorem v_pick {l : List D} (w : Urn l) {ds : List D} (h0 : 0 < ds.length) (h1 : ds.length < 1073741824) : ∃ d l', f__law_pick l [.list ds] = some (d, l') ∧ Urn l' ∧ d ∈ ds := by
  obtain ⟨v, l1, e1, w1, v0, v1⟩ := v_draw w (k := (ds.length : Int)) (by omega) (by omega)
  have hv : v.toNat < ds.length := by omega
  have hi : ixN ds.length v = some v.toNat := ixN_nn v0 v1
  refine ⟨ds[v.toNat], l1, ?_, w1, List.getElem_mem _⟩
  have hd : ds[v.toNat]? = some ds[v.toNat] := List.getElem?_eq_getElem hv
  simp [f__law_pick, runW, i__law_pick, entW, evSs, evS, evE, evEs, evT, viewOp, viewL, t_drawP, fs__law_draw, callF, callW, keepL, keepOp, biD, e1, idxD, atI, hi, hd]
theorem v_turns {l : List D} (w : Urn l) : ∃ (v : Int) (l' : List D), f__law_turns l [] = some (.int v, l') ∧ Urn l' ∧ Bd 50 v := by
  obtain ⟨d, l1, e1, w1, hd⟩ := v_pick w (ds := [.int 1, .int (-1), .int 2, .int (-2), .int 3, .int (-5)]) (by decide) (by decide)
  obtain ⟨u, l2, e2, w2, u0, u1⟩ := v_draw w1 (k := 14) (by decide) (by decide)
  have hd' : ∃ t : Int, d = .int t ∧ (t = 1 ∨ t = -1 ∨ t = 2 ∨ t = -2 ∨ t = 3 ∨ t = -5) := by
    simp only [List.mem_cons, List.not_mem_nil, or_false] at hd
    rcases hd with h | h | h | h | h | h <;> exact ⟨_, h, by decide⟩
  obtain ⟨t, rfl, ht⟩ := hd'
  have hl : lenOk 6 = true := by decide +kernel
  by_cases h0 : u = 5
  · subst h0
    obtain ⟨a, l3, e3, w3, a0, a1⟩ := v_draw w2 (k := 1000000) (by decide) (by decide)
    obtain ⟨b, l4, e4, w4, b0, b1⟩ := v_draw w3 (k := 1000000) (by decide) (by decide)
    have p6 : powOk 10 6 = true := by decide
    have p12 : powOk 10 14 = true := by decide
    have m1 : mulOk a 1000000 = true := mulOk_r (by decide) (by decide)
    have m2 : mulOk t (100000000000000 + a * 1000000 + b) = true := mulOk_l (by omega) (by omega)
    refine ⟨t * (100000000000000 + a * 1000000 + b), l4, ?_, w4, ?_⟩
    · simp [f__law_turns, runW, i__law_turns, entW, evSs, evS, evE, evEs, evT, viewOp, viewL, t_drawT, t_pickT, fs__law_draw, fs__law_pick, callF, callW, keepL, keepOp, e1, e2, e3, e4, ofC, asgT, stOp, setE, cmp_eq, binD, binI, p6, p12, m1, m2, hl]
    · unfold Bd
      have : (2 : Nat) ^ 50 = 1125899906842624 := by decide
      rw [this]
      rcases ht with h | h | h | h | h | h <;> subst h <;> omega
  · refine ⟨t, l2, ?_, w2, ?_⟩
    · simp [f__law_turns, runW, i__law_turns, entW, evSs, evS, evE, evEs, evT, viewOp, viewL, t_drawT, t_pickT, fs__law_draw, fs__law_pick, callF, callW, keepL, keepOp, e1, e2, ofC, asgT, stOp, setE, cmp_eq, binD, binI, h0, hl]
    · unfold Bd
      have : (2 : Nat) ^ 50 = 1125899906842624 := by decide
      rw [this]; omega
/-! ### a wired row -/
def RowOk (k : Nat) (t : Nat) (row : List Int) : Prop := row.length = k ∧ row.sum = 0 ∧ ∀ x ∈ row, x.natAbs ≤ t * 2 ^ 51
def wireB : ISs := (.cons (.asgs [7, 8, 9] (.cons (.cal "_law_draw" (.cons (.var 0) (.cons (.var 1) .nil))) (.cons (.bin .Add (.cst (.int 1)) (.cal "_law_draw" (.cons (.var 0) (.cons (.bin .Sub (.var 1) (.cst (.int 1))) .nil)))) (.cons (.cal "_law_turns" (.cons (.var 0) .nil)) .nil)))) (.cons (.asg (.nm 6) (.bin .Mod (.bi "int" (.cons (.bin .Add (.var 7) (.var 8)) .nil)) (.var 1))) (.cons (.asg (.sub 4 (.var 7)) (.bin .Add (.idx (.var 4) (.var 7)) (.var 9))) (.cons (.asg (.sub 4 (.var 6)) (.bin .Sub (.idx (.var 4) (.var 6)) (.var 9))) .nil))))
theorem t_drawW : (tabT tb__law_turns kt0 gl0).fs "_law_draw" = some fs__law_draw := rfl
theorem t_turnsW : (tabT tb__law_turns kt0 gl0).fs "_law_turns" = some fs__law_turns := rfl
theorem RowOk.put {k t : Nat} {row : List Int} {j : Nat} {x : Int} {c : Int} (hj : row[j]? = some x) (h : row.length = k ∧ row.sum = c ∧ ∀ x ∈ row, x.natAbs ≤ t) (v : Int) (hv : v.natAbs ≤ 2 ^ 50) : (row.set j (x + v)).length = k ∧ (row.set j (x + v)).sum = c + v ∧ ∀ y ∈ row.set j (x + v), y.natAbs ≤ t + 2 ^ 50 := by
  refine ⟨by rw [List.length_set]; exact h.1, by rw [sum_set _ _ _ _ hj, h.2.1]; omega, fun y hy => ?_⟩
  rcases List.mem_or_eq_of_mem_set hy with hy | rfl
  · have := h.2.2 y hy; omega
  · have := h.2.2 x (List.mem_of_getElem? hj); omega
theorem wire_turn (n : Nat) {l : List D} (w : Urn l) {k t : Nat} (hk : 2 ≤ k) (hk2 : k ≤ 60) {row : List Int} (hr : RowOk k t row) (y : D) (a b c d e : Sl) (p q : D) :
    ∃ (l' : List D) (row' : List Int) (d' a' b' c' : Sl), evSs n (tabT tb__law_turns kt0 gl0) [.o true l, .v (.int k), .v p, .v q, .o false (row.map .int), .v y, d, a, b, c] wireB = some (.nx [.o true l', .v (.int k), .v p, .v q, .o false (row'.map .int), .v y, d', a', b', c']) ∧ Urn l' ∧ RowOk k (t + 1) row' := by
  obtain ⟨at', l1, e1, w1, a0, a1⟩ := v_draw w (k := (k : Int)) (by omega) (by omega)
  obtain ⟨st, l2, e2, w2, s0, s1⟩ := v_draw w1 (k := (k : Int) - 1) (by omega) (by omega)
  obtain ⟨v, l3, e3, w3, hv⟩ := v_turns w2
  have hv' : v.natAbs ≤ 2 ^ 50 := Nat.le_of_lt hv
  obtain ⟨r1, r2, r3⟩ := hr
  have f0 : 0 ≤ (at' + (1 + st)) % (k : Int) := Int.emod_nonneg _ (by omega)
  have f1 : (at' + (1 + st)) % (k : Int) < k := Int.emod_lt_of_pos _ (by omega)
  generalize hf : (at' + (1 + st)) % (k : Int) = far at f0 f1
  have i1 : ixN (row.map PyData.int).length at' = some at'.toNat := by rw [List.length_map, r1]; exact ixN_nn a0 a1
  have i1' : ixN row.length at' = some at'.toNat := by rw [List.length_map] at i1; exact i1
  have g1 : row[at'.toNat]? = some (row[at'.toNat]'(by omega)) := List.getElem?_eq_getElem _
  generalize row[at'.toNat]'(by omega) = x at g1
  obtain ⟨q1, q2, q3⟩ := RowOk.put g1 ⟨r1, r2, r3⟩ v hv'
  generalize hrow1 : row.set at'.toNat (x + v) = row1 at q1 q2 q3
  have i2' : ixN row1.length far = some far.toNat := by rw [q1]; exact ixN_nn f0 f1
  have g2 : row1[far.toNat]? = some (row1[far.toNat]'(by omega)) := List.getElem?_eq_getElem _
  generalize row1[far.toNat]'(by omega) = z at g2
  obtain ⟨u1, u2, u3⟩ := RowOk.put g2 ⟨q1, q2, q3⟩ (-v) (by omega)
  have k0 : 0 < k := by omega
  refine ⟨l3, row1.set far.toNat (z + -v), .v (.int far), .v (.int at'), .v (.int (1 + st)), .v (.int v), ?_, w3, u1, by omega, fun y hy => by have := u3 y hy; omega⟩
  have m1 : (row.map PyData.int).set at'.toNat (.int (x + v)) = row1.map PyData.int := by rw [← hrow1, List.map_set]
  have m2 : (row1.map PyData.int).set far.toNat (.int (z + -v)) = (row1.set far.toNat (z + -v)).map PyData.int := by rw [List.map_set]
  simp [wireB, evSs, evS, evE, evEs, evT, viewOp, viewL, t_drawW, t_turnsW, fs__law_draw, fs__law_turns, callF, callW, keepL, keepOp, e1, e2, e3, ofC, asgT, asgN, settle, settle1, stOp, setE, cmp_eq, binD, binI, biD, k0, hf, idxD, atI, i1', g1, i2', g2, m1, ← m2]
  rw [Int.sub_eq_add_neg]

def wireF : IS := .fors (.nm 5) (.r1 (.bin .Add (.var 2) (.cal "_law_draw" (.cons (.var 0) (.cons (.bin .Sub (.bin .Add (.var 3) (.cst (.int 1))) (.var 2)) .nil))))) wireB
theorem wire_step (n : Nat) (ρ : En) (x : D) (l : List D) (k : Nat) (p q : D) (row : List Int) (y d a b c : Sl) (r : Option Oc) (hρ : ρ = [.o true l, .v (.int k), .v p, .v q, .o false (row.map .int), y, d, a, b, c]) (h : evSs n (tabT tb__law_turns kt0 gl0) [.o true l, .v (.int k), .v p, .v q, .o false (row.map .int), .v x, d, a, b, c] wireB = r) :
    ((bindT ρ (.nm 5) x).bind fun ρ2 => evSs n (tabT tb__law_turns kt0 gl0) ρ2 wireB) = r := by
  subst hρ
  rw [← h]
  simp only [bindT, setE, List.length_cons, List.length_nil]
  simp
theorem wire_loop (n : Nat) {l : List D} (w : Urn l) {k : Nat} (hk : 2 ≤ k) (hk2 : k ≤ 60) {lo hi : Int} (h0 : 0 ≤ lo) (h1 : lo ≤ hi) (h2 : hi ≤ 6) : ∃ (l' : List D) (row : List Int) (y d a b c : Sl), evS n (tabT tb__law_turns kt0 gl0) [.o true l, .v (.int k), .v (.int lo), .v (.int hi), .o false (List.replicate k (.int 0)), .u, .u, .u, .u, .u] wireF = some (.nx [.o true l', .v (.int k), .v (.int lo), .v (.int hi), .o false (row.map .int), y, d, a, b, c]) ∧ Urn l' ∧ row.length = k ∧ row.sum = 0 ∧ ∀ x ∈ row, Bd 54 x := by
  obtain ⟨m, l1, e1, w1, m0, m1⟩ := v_draw w (k := hi + 1 - lo) (by omega) (by omega)
  have hr : RowOk k 0 (List.replicate k 0) := by
    refine ⟨by simp, by simp, fun x hx => ?_⟩
    have := List.eq_of_mem_replicate hx
    subst this; simp
  have hm : (rngD 0 (lo + m).toNat).length = (lo + m).toNat := by simp [rngD]
  obtain ⟨ρ', e2, l2, row, d', a', b', c', y', rfl, w2, r2⟩ := evFor_count (f := fun x ρ1 => (bindT ρ1 (.nm 5) x).bind fun ρ2 => evSs n (tabT tb__law_turns kt0 gl0) ρ2 wireB)
    (Q := fun t ρ => ∃ (l' : List D) (row : List Int) (d a b c y : Sl), ρ = [.o true l', .v (.int k), .v (.int lo), .v (.int hi), .o false (row.map .int), y, d, a, b, c] ∧ Urn l' ∧ RowOk k t row)
    (xs := rngD 0 (lo + m).toNat) (n := 0) (ρ := [.o true l1, .v (.int k), .v (.int lo), .v (.int hi), .o false ((List.replicate k 0).map .int), .u, .u, .u, .u, .u])
    (fun x hx t ρ ⟨l', row, d, a, b, c, y, hρ, w', r'⟩ => by
      obtain ⟨l2, row2, d', a', b', c', e, w2, r2⟩ := wire_turn n w' hk hk2 r' x a b c d d (.int lo) (.int hi)
      exact ⟨_, wire_step n ρ x l' k _ _ row y d a b c _ hρ e, l2, row2, d', a', b', c', .v x, rfl, w2, r2⟩) ⟨_, _, _, _, _, _, _, rfl, w1, hr⟩
  rw [hm] at r2
  obtain ⟨q1, q2, q3⟩ := r2
  refine ⟨l2, row, y', d', a', b', c', ?_, w2, q1, q2, fun x hx => ?_⟩
  · rw [List.map_replicate] at e2
    rw [← e2]
    have ro : rngOk (lo + m) = true := by unfold rngOk; rw [decide_eq_true_eq]; omega
    simp [wireF, evS, evIt, evE, evEs, viewOp, viewL, ofC, binD, binI, t_drawW, fs__law_draw, callF, callW, keepL, keepOp, e1, ro]
  · have := q3 x hx
    unfold Bd
    have : (lo + m).toNat ≤ 6 := by omega
    have e1 : (2 : Nat) ^ 54 = 18014398509481984 := by decide
    have e2 : (2 : Nat) ^ 51 = 2251799813685248 := by decide
    rw [e1]; rw [e2] at *; omega
theorem wire_zero (n : Nat) (l : List D) {k : Nat} (hk2 : k ≤ 60) (p q : D) : evS n (tabT tb__law_turns kt0 gl0) [.o true l, .v (.int k), .v p, .v q, .u, .u, .u, .u, .u, .u] (.asg (.nm 4) (.bin .Mult (.lst (.cons (.cst (.int 0)) .nil)) (.var 1))) = some (.nx [.o true l, .v (.int k), .v p, .v q, .o false (List.replicate k (.int 0)), .u, .u, .u, .u, .u]) := by
  refine asg_ok (bin_ok (ev_z1 _ _) (ρ2 := [.o true l, .v (.int k), .v p, .v q, .u, .u, .u, .u, .u, .u]) (y := .slot 1) rfl rfl rfl (rep_b4 hk2)) ?_
  rfl
theorem v_wired {l : List D} (w : Urn l) {k : Nat} (hk : 2 ≤ k) (hk2 : k ≤ 60) {lo hi : Int} (h0 : 0 ≤ lo) (h1 : lo ≤ hi) (h2 : hi ≤ 6) : ∃ (row : List Int) (l' : List D), f__law_wired l [.int k, .int lo, .int hi] = some (.list (row.map .int), l') ∧ Urn l' ∧ row.length = k ∧ row.sum = 0 ∧ ∀ x ∈ row, Bd 54 x := by
  obtain ⟨l', row, y, d, a, b, c, hs, w', h⟩ := wire_loop 100000 w hk hk2 h0 h1 h2
  refine ⟨row, l', ?_, w', h⟩
  have e0 := wire_zero 100000 l hk2 (.int lo) (.int hi)
  unfold wireF wireB at hs
  unfold f__law_wired i__law_wired
  refine runW_ok (r := [.v (.int k), .v (.int lo), .v (.int hi), .v (.list (row.map .int)), y, d, a, b, c]) (ss_nx (ρ1 := _) e0 (ss_nx hs (ss_rt (ret_ok (o := .slot 4) rfl rfl))))
end Ev

set_option maxHeartbeats 1000000
namespace Ev
open PySem L2
/-! ### sixths of a turn -/
def rot : Nat → Int × Int → Int × Int
  | 0, p => p
  | n + 1, p => ((rot n p).1 - (rot n p).2, (rot n p).1)
def PtB (b : Nat) (p : Int × Int) : Prop := p.1.natAbs ≤ b ∧ p.2.natAbs ≤ b
theorem rot_bd {b r : Nat} {p : Int × Int} (hr : r < 6) (h : PtB b p) : PtB (2 * b) (rot r p) := by
  obtain ⟨h1, h2⟩ := h
  match r, hr with
  | 0, _ => simp only [rot, PtB]; omega
  | 1, _ => simp only [rot, PtB]; omega
  | 2, _ => simp only [rot, PtB]; omega
  | 3, _ => simp only [rot, PtB]; omega
  | 4, _ => simp only [rot, PtB]; omega
  | 5, _ => simp only [rot, PtB]; omega
def addP (p q : Int × Int) : Int × Int := (p.1 + q.1, p.2 + q.2)
theorem rot_add {r : Nat} (p q : Int × Int) : rot r (addP p q) = addP (rot r p) (rot r q) := by
  induction r with
  | zero => rfl
  | succ r ih =>
    show ((rot r (addP p q)).1 - (rot r (addP p q)).2, (rot r (addP p q)).1) = addP ((rot r p).1 - (rot r p).2, (rot r p).1) ((rot r q).1 - (rot r q).2, (rot r q).1)
    rw [ih]
    simp only [addP]
    rw [Prod.mk.injEq]
    omega
theorem rot_zero (r : Nat) : rot r (0, 0) = (0, 0) := by
  induction r with
  | zero => rfl
  | succ r ih => simp only [rot, ih]; rfl
theorem foldl_rot (p : Int × Int) : ∀ r : Nat, (List.range r).foldl (fun (q : Int × Int) (_ : Nat) => (q.1 - q.2, q.1)) p = rot r p
  | 0 => rfl
  | r + 1 => by rw [List.range_succ, List.foldl_append, foldl_rot p r]; rfl
theorem v_sixths (p : Int × Int) (m : Int) : f__law_sixths [ptD p, .int m] = some (ptD (rot (m % 6).toNat p)) := by
  have h0 : 0 ≤ m % 6 := Int.emod_nonneg _ (by decide)
  have h1 : m % 6 < 6 := Int.emod_lt_of_pos _ (by decide)
  unfold f__law_sixths i__law_sixths
  generalize 100000 = N
  obtain ⟨ρ', e, y, rfl⟩ := forT (f := fun x ρ1 => (bindT ρ1 (.nm 3) x).bind fun ρ2 => evSs N (tabT tb_mean_square kt0 gl0) ρ2 (.cons (.asg (.nm 2) (.tup (.cons (.bin .Sub (.idx (.var 2) (.cst (.int 0))) (.idx (.var 2) (.cst (.int 1)))) (.cons (.idx (.var 2) (.cst (.int 0))) .nil)))) .nil))
    (R := fun (q : Int × Int) ρ => ∃ y, ρ = [.v (ptD p), .v (.int m), .v (ptD q), y]) (step := fun (q : Int × Int) (_ : Nat) => (q.1 - q.2, q.1)) (fun i : Nat => PyData.int (i : Int)) (l := List.range (m % 6).toNat) (s := p) (ρ := [.v (ptD p), .v (.int m), .v (ptD p), .u])
    (fun a _ q ρ ⟨y, hρ⟩ => ⟨[.v (ptD p), .v (.int m), .v (ptD (q.1 - q.2, q.1)), .v (.int a)], by subst hρ; simp [bindT, setE, evSs, evS, evE, evEs, viewOp, ptD, idxD, atI, ixN, ofC, binD, binI, keepL, keepOp, lenOk2, asgT, stOp], _, rfl⟩) ⟨_, rfl⟩
  rw [foldl_rot] at e
  refine runP_ok (r := [.v (ptD p), .v (.int m), .v (ptD (rot (m % 6).toNat p)), y]) (ss_nx (ρ1 := [.v (ptD p), .v (.int m), .v (ptD p), .u]) (by rfl) (ss_nx (for_ok (ρ1 := [.v (ptD p), .v (.int m), .v (ptD p), .u]) ?_ e) (ss_rt (ret_ok (o := .slot 2) rfl rfl))))
  have ro : rngOk (m % 6) = true := by unfold rngOk; rw [decide_eq_true_eq]; omega
  simp [evIt, evE, evEs, viewL, viewOp, biD, ofC, binD, binI, ro, rngD_map]
/-! ### points and rows -/
def sumP (ps : List (Int × Int)) : Int × Int := ((ps.map (·.1)).sum, (ps.map (·.2)).sum)
theorem sumP_nil : sumP [] = (0, 0) := rfl
theorem sumP_cons (p : Int × Int) (ps : List (Int × Int)) : sumP (p :: ps) = addP p (sumP ps) := by simp [sumP, addP]
theorem sumP_app (ps qs : List (Int × Int)) : sumP (ps ++ qs) = addP (sumP ps) (sumP qs) := by simp [sumP, addP]
theorem sumP_rot (r : Nat) : ∀ ps : List (Int × Int), sumP (ps.map (rot r)) = rot r (sumP ps)
  | [] => (rot_zero r).symm
  | p :: ps => by rw [List.map_cons, sumP_cons, sumP_cons, rot_add, sumP_rot r ps]
structure Ps (k b : Nat) (ps : List (Int × Int)) : Prop where
  len : ps.length = k
  sum : sumP ps = (0, 0)
  bd : ∀ p ∈ ps, PtB b p
structure Ph (k n : Nat) (A : List Int) : Prop where
  len : A.length = k
  sum : A.sum = 0
  bd : ∀ x ∈ A, Bd n x
theorem Ph.mono {k m n : Nat} {A : List Int} (h : Ph k m A) (hn : m ≤ n) : Ph k n A := ⟨h.len, h.sum, fun x hx => (h.bd x hx).mono hn⟩
def tupI (A : List Int) : D := .tuple (A.map .int)
def wD (A B C : List Int) : D := .tuple [tupI A, tupI B, tupI C]
theorem zipD_map {α β : Type} (f : α → D) (g : β → D) : ∀ (xs : List α) (ys : List β), zipD (xs.map f) (ys.map g) = (xs.zip ys).map fun q => .tuple [f q.1, g q.2]
  | [], _ => by simp [zipD]
  | _ :: _, [] => by simp [zipD]
  | x :: xs, y :: ys => by
    have := zipD_map f g xs ys
    simp only [zipD] at this
    simp [zipD, this]
theorem sum_zip1 : ∀ (ps : List (Int × Int)) (row : List Int), ps.length = row.length → ((ps.zip row).map fun q => q.1.1 + q.2).sum = (sumP ps).1 + row.sum ∧ ((ps.zip row).map fun q => q.1.2 + q.2).sum = (sumP ps).2 + row.sum
  | [], [], _ => by simp [sumP]
  | p :: ps, x :: row, h => by
    have := sum_zip1 ps row (by simpa using h)
    simp only [List.zip_cons_cons, List.map_cons, List.sum_cons, this, sumP_cons, addP]
    omega
  | [], _ :: _, h => by simp at h
  | _ :: _, [], h => by simp at h
theorem Bd.of {n : Nat} {x : Int} (b : Nat) (h : x.natAbs ≤ b) (hb : b < 2 ^ n) : Bd n x := Nat.lt_of_le_of_lt h hb
theorem t_wiredS : (tabT tb__law_wired kt0 gl0).fs "_law_wired" = some fs__law_wired := rfl
/-! ### three phases with these points -/
def prD (q : (Int × Int) × Int) : D := .tuple [ptD q.1, .int q.2]
theorem sp_it (T : Tb) (u : List D) (ps : List (Int × Int)) (row : List Int) (x : Sl) : evIt T [.o true u, .v (.list (ps.map ptD)), .v (.list (row.map .int)), x, .u, .u] (.zp (.var 1) (.var 2)) = some ((ps.zip row).map prD, [.o true u, .v (.list (ps.map ptD)), .v (.list (row.map .int)), x, .u, .u]) := by
  have : (ps.zip row).map prD = zipD (ps.map ptD) (row.map .int) := (zipD_map ptD PyData.int ps row).symm
  rw [this]
  simp only [evIt, evE, List.getElem?_cons_succ, List.getElem?_cons_zero, Option.bind_some, Option.map_some, keepL, keepOp]
theorem sp_lc (T : Tb) (u : List D) {ps : List (Int × Int)} {row : List Int} (x : Sl) (hl : (ps.zip row).length ≤ 60) (j : Int) (g : Int × Int → Int) (hg : ∀ p, idxD (ptD p) (.int j) = some (.int (g p))) :
    evE T [.o true u, .v (.list (ps.map ptD)), .v (.list (row.map .int)), x, .u, .u] (.bi "tuple" (.cons (.lc (.bin .Add (.idx (.var 4) (.cst (.int j))) (.var 5)) (.tup (.cons (.nm 4) (.cons (.nm 5) .nil))) [("_law_point", 4), ("_law_number", 5)] (.zp (.var 1) (.var 2)) .no) .nil)) = some (.val (tupI ((ps.zip row).map fun q => g q.1 + q.2)), [.o true u, .v (.list (ps.map ptD)), .v (.list (row.map .int)), x, .u, .u]) := by
  have := lcM (T := T) (own := [("_law_point", 4), ("_law_number", 5)]) (e := .bin .Add (.idx (.var 4) (.cst (.int j))) (.var 5)) (t := .tup (.cons (.nm 4) (.cons (.nm 5) .nil))) prD (fun q => .int (g q.1 + q.2)) (sp_it T u ps row x) (fun a _ => ⟨[.o true u, .v (.list (ps.map ptD)), .v (.list (row.map .int)), x, .v (ptD a.1), .v (.int a.2)], .val (.int (g a.1 + a.2)), rfl, by
    simp only [evE, List.getElem?_cons_succ, List.getElem?_cons_zero, Option.bind_some, ofC, Option.map_some, viewOp, hg, binD, binI], rfl, rfl⟩) (fun i hi => .inl (by
      simp only [List.map_cons, List.map_nil, List.mem_cons, List.not_mem_nil, or_false] at hi
      rcases hi with rfl | rfl <;> rfl)) (lenOk_le (by omega))
  rw [show tupI ((ps.zip row).map fun q => g q.1 + q.2) = .tuple ((ps.zip row).map fun q => .int (g q.1 + q.2)) by simp only [tupI, List.map_map]; rfl]
  exact bi_tuple this rfl
theorem v_spread {l : List D} (w : Urn l) {k b : Nat} (hk : 2 ≤ k) (hk2 : k ≤ 60) (hb : b < 2 ^ 54) {ps : List (Int × Int)} (hp : Ps k b ps) :
    ∃ (A B C : List Int) (l' : List D), f__law_spread l [.list (ps.map ptD)] = some (wD A B C, l') ∧ Urn l' ∧ Ph k 55 A ∧ Ph k 55 B ∧ Ph k 55 C := by
  obtain ⟨row, l1, e1, w1, r1, r2, r3⟩ := v_wired w hk hk2 (lo := 0) (hi := 2) (by decide) (by decide) (by decide)
  have hl : ps.length = row.length := by rw [hp.len, r1]
  obtain ⟨s1, s2⟩ := sum_zip1 ps row hl
  have hz : (ps.zip row).length = k := by rw [List.length_zip, hp.len, r1, Nat.min_self]
  have hs := hp.sum
  have bd : ∀ q ∈ ps.zip row, Bd 55 (q.1.1 + q.2) ∧ Bd 55 (q.1.2 + q.2) := fun q hq => by
    obtain ⟨m1, m2⟩ := List.of_mem_zip hq
    obtain ⟨b1, b2⟩ := hp.bd _ m1
    have := r3 _ m2
    exact ⟨(Bd.of b b1 hb).add this, (Bd.of b b2 hb).add this⟩
  refine ⟨(ps.zip row).map fun q => q.1.1 + q.2, row, (ps.zip row).map fun q => q.1.2 + q.2, l1, ?_, w1, ⟨by rw [List.length_map, hz], by rw [s1, hs, r2]; rfl, fun x hx => ?_⟩, ⟨r1, r2, fun x hx => (r3 x hx).mono (by decide)⟩, ⟨by rw [List.length_map, hz], by rw [s2, hs, r2]; rfl, fun x hx => ?_⟩⟩
  · have ht := t_wiredS
    unfold f__law_spread i__law_spread
    generalize (tabT tb__law_wired kt0 gl0) = T at ht
    generalize 100000 = N
    have e0 : evS N T [.o true l, .v (.list (ps.map ptD)), .u, .u, .u, .u] (.asg (.nm 2) (.cal "_law_wired" (.cons (.var 0) (.cons (.bi "len" (.cons (.var 1) .nil)) (.cons (.cst (.int 0)) (.cons (.cst (.int 2)) .nil)))))) = some (.nx [.o true l1, .v (.list (ps.map ptD)), .v (.list (row.map .int)), .u, .u, .u]) := by
      rw [← hp.len] at e1
      exact asg_ok (calW ht (r := [.val (.int (ps.map ptD).length), .val (.int 0), .val (.int 2)]) rfl rfl rfl (by rw [List.length_map]; exact e1)) rfl
    have e2 := sp_lc T l1 (ps := ps) (row := row) .u (by omega) 0 (·.1) (fun p => rfl)
    have e3 := sp_lc T l1 (ps := ps) (row := row) (.v (tupI ((ps.zip row).map fun q => q.1.1 + q.2))) (by omega) 1 (·.2) (fun p => rfl)
    refine runW_ok (r := [.v (.list (ps.map ptD)), .v (.list (row.map .int)), .v (tupI ((ps.zip row).map fun q => q.1.1 + q.2)), .u, .u]) (ss_nx e0 (ss_nx (ρ1 := [.o true l1, .v (.list (ps.map ptD)), .v (.list (row.map .int)), .v (tupI ((ps.zip row).map fun q => q.1.1 + q.2)), .u, .u]) (asg_ok e2 rfl) (ss_rt (ret_ok (o := .val (wD ((ps.zip row).map fun q => q.1.1 + q.2) row ((ps.zip row).map fun q => q.1.2 + q.2))) ?_ rfl))))
    exact tup3 (x := .slot 3) (y := .val (tupI row)) rfl (bi_tuple (o := .slot 2) rfl rfl) e3 rfl
  · obtain ⟨q, hq, rfl⟩ := List.mem_map.mp hx
    exact (bd q hq).1
  · obtain ⟨q, hq, rfl⟩ := List.mem_map.mp hx
    exact (bd q hq).2
end Ev

set_option maxHeartbeats 1000000
namespace Ev
open PySem L2
/-! ### filtered numbers, and one of them -/
def filI (p : Int → Bool) : D → Option D
  | .int i => if p i then some (.int i) else none
  | _ => none
theorem filI_map (p : Int → Bool) : ∀ l : List Int, (l.map PyData.int).filterMap (filI p) = (l.filter p).map .int
  | [] => rfl
  | i :: l => by
    have := filI_map p l
    simp only [List.map_cons, List.filterMap_cons, List.filter_cons, filI]
    cases h : p i <;> simp [this]
theorem lcF {T : Tb} {ρ ρ1 : En} {it : IT} {c : IE} {i : Nat} {nm : Str} {lo : Int} {n : Nat} (p : Int → Bool) (hit : evIt T ρ it = some (rngD lo n, ρ1)) (hu : ρ1[i]? = some .u)
    (ht : ∀ x : Int, lo ≤ x → x < lo + n → evT T (ρ1.set i (.v (.int x))) c = some (p x, ρ1.set i (.v (.int x)))) (hn : n ≤ 1000) :
    evE T ρ (.lc (.var i) (.nm i) [(nm, i)] it (.so c)) = some (.new ((((List.range n).map fun t => lo + (t : Nat)).filter p).map .int), ρ1) := by
  have hi : i < ρ1.length := (List.getElem?_eq_some_iff.mp hu).1
  have e := lc1 (T := T) (ρ := ρ) (ρ1 := ρ1) (it := it) (c := .so c) (e := .var i) (i := i) (nm := nm) (xs := ((List.range n).map fun t => lo + (t : Nat)).map .int) (filI p) (by rw [hit, rngD, List.map_map]; rfl) hu (fun x hx => by
    obtain ⟨y, hy, rfl⟩ := List.mem_map.mp hx
    obtain ⟨t, ht', rfl⟩ := List.mem_map.mp hy
    have htn := List.mem_range.mp ht'
    have := ht (lo + (t : Nat)) (by omega) (by omega)
    simp only [evIf, this, Option.bind_some, filI]
    cases p (lo + (t : Nat)) with
    | false => rfl
    | true =>
      simp only [if_true, evE]
      rw [List.getElem?_set_self hi]
      simp only [Option.bind_some, keepOp]
      rw [List.getElem?_set_self hi]
      rfl) (by
    rw [filI_map, List.length_map]
    refine lenOk_le (Nat.le_trans (List.length_filter_le _ _) ?_)
    simp; omega)
  rw [filI_map] at e
  exact e
theorem v_pickI {l : List D} (w : Urn l) {L : List Int} (h0 : L ≠ []) (h1 : L.length < 1073741824) : ∃ x l', f__law_pick l [.list (L.map .int)] = some (.int x, l') ∧ Urn l' ∧ x ∈ L := by
  obtain ⟨d, l', e, w', hd⟩ := v_pick w (ds := L.map .int) (by rw [List.length_map]; exact List.length_pos_iff.mpr h0) (by rw [List.length_map]; exact h1)
  obtain ⟨x, hx, rfl⟩ := List.mem_map.mp hd
  exact ⟨x, l', e, w', hx⟩
theorem mem_fil {n : Nat} {lo x : Int} {p : Int → Bool} : x ∈ (((List.range n).map fun t => lo + (t : Nat)).filter p) ↔ (lo ≤ x ∧ x < lo + n) ∧ p x = true := by
  simp only [List.mem_filter, List.mem_map, List.mem_range]
  constructor
  · rintro ⟨⟨t, ht, rfl⟩, h⟩
    exact ⟨⟨by omega, by omega⟩, h⟩
  · rintro ⟨⟨h1, h2⟩, h⟩
    exact ⟨⟨(x - lo).toNat, by omega, by omega⟩, h⟩
theorem fil_len {n : Nat} {lo : Int} {p : Int → Bool} (hn : n ≤ 1000) : (((List.range n).map fun t => lo + (t : Nat)).filter p).length < 1073741824 :=
  Nat.lt_of_le_of_lt (List.length_filter_le _ _) (by simp; omega)
theorem app_ok {n : Nat} {T : Tb} {ρ ρ1 ρ2 : En} {i : Nat} {e : IE} {o : Op} {d : D} {mt mt0 : Bool} {ds ds0 : List D} (h0 : ρ[i]? = some (.o mt0 ds0)) (h1 : evE T ρ e = some (o, ρ1)) (h2 : keepOp ρ1 o = some (d, ρ2)) (h3 : ρ2[i]? = some (.o mt ds)) (hl : ds.length ≤ 1000) : evS n T ρ (.app i e) = some (.nx (ρ2.set i (.o mt (ds ++ [d])))) := by
  have : decide (ds.length < sizeLine) = true := by
    rw [decide_eq_true_eq, show sizeLine = 16777216 by decide]
    omega
  simp only [evS, h0, h1, Option.bind_some, h2, h3, this, if_true]
theorem ifs_t {n : Nat} {T : Tb} {ρ ρ1 : En} {c : IE} {a b : ISs} {r : Option Oc} (h : evT T ρ c = some (true, ρ1)) (h2 : evSs n T ρ1 a = r) : evS n T ρ (.ifs c a b) = r := by simp only [evS, h, h2]
theorem ifs_f {n : Nat} {T : Tb} {ρ ρ1 : En} {c : IE} {a b : ISs} {r : Option Oc} (h : evT T ρ c = some (false, ρ1)) (h2 : evSs n T ρ1 b = r) : evS n T ρ (.ifs c a b) = r := by simp only [evS, h, h2]
theorem asgs_ok {n : Nat} {T : Tb} {ρ ρ1 ρ2 ρ3 : En} {is : List Nat} {es : IEs} {ops os : List Op} (h1 : evEs T ρ es = some (ops, ρ1)) (h2 : settle ρ1 ops = some (os, ρ2)) (h3 : asgN ρ2 is os = some ρ3) : evS n T ρ (.asgs is es) = some (.nx ρ3) := by
  simp only [evS, h1, h2, h3, Option.bind_some, Option.map_some]
theorem ee_cons {T : Tb} {ρ ρ1 ρ2 : En} {e : IE} {es : IEs} {o : Op} {os : List Op} (h1 : evE T ρ e = some (o, ρ1)) (h2 : evEs T ρ1 es = some (os, ρ2)) : evEs T ρ (.cons e es) = some (o :: os, ρ2) := by
  simp only [evEs, h1, h2, Option.bind_some, Option.map_some]
theorem lcO_v {T : Tb} {ρ : En} {e : IE} {i j : Nat} {nm : Str} {α : Type} {l : List α} (enc out : α → D) (h0 : ρ[i]? = some (.o false (l.map enc))) (hu : ρ[j]? = some .u ∨ ∃ d, ρ[j]? = some (.v d)) (he : ∀ a ∈ l, evE T (ρ.set j (.v (enc a))) e = some (.val (out a), ρ.set j (.v (enc a)))) (hl : l.length ≤ 1000) :
    evE T ρ (.lcO e j nm i) = some (.new (l.map out), ρ) := by
  have hj : j < ρ.length := by
    rcases hu with h | ⟨d, h⟩ <;> exact (List.getElem?_eq_some_iff.mp h).1
  have key : ∀ f : D → En → Option (Option D × En), (∀ a ∈ l, ∀ ρ1, wipeE ρ1 [j] = wipeE ρ [j] → f (enc a) ρ1 = some (some (out a), ρ.set j (.v (enc a)))) →
      ((evComp f (l.map enc) [] ρ).bind fun r => if lenOk r.1.length then some (Op.new r.1, backE ρ r.2 [j]) else none) = some (.new (l.map out), ρ) := fun f hf => by
    obtain ⟨ρ', e1, h1⟩ := comp_ty (f := f) (P := fun ρ1 => wipeE ρ1 [j] = wipeE ρ [j]) enc (fun a => some (out a)) (l := l) (acc := []) (ρ := ρ) (fun a ha ρ1 h1 => ⟨ρ.set j (.v (enc a)), hf a ha ρ1 h1, by simp only [wipeE, List.set_set]⟩) rfl
    rw [fm_some] at e1
    rw [e1]
    simp only [Option.bind_some, List.nil_append, lenOk_le (show (l.map out).length ≤ 16777216 by rw [List.length_map]; omega), if_true]
    rw [back_ok (fun x hx => by
      have : x = j := by simpa using hx
      rw [this]; exact hu) h1]
  simp only [evE, h0]
  refine key _ fun a ha ρ1 h1 => ?_
  have hs : setE (wipeE ρ [j]) j (.v (enc a)) = some (ρ.set j (.v (enc a))) := by
    simp only [wipeE, setE, List.length_set, decide_eq_true hj, if_true, List.set_set]
  rw [h1]
  simp only [hs, Option.bind_some, he a ha]
end Ev

set_option maxHeartbeats 1000000
namespace Ev
open PySem L2
/-! ### a loop over a range -/
theorem evFor_r {f : D → En → Option Oc} {Q : Nat → En → Prop} : ∀ {n s : Nat} {ρ : En}, (∀ t, s ≤ t → t < s + n → ∀ ρ, Q t ρ → ∃ ρ', f (.int (t : Int)) ρ = some (.nx ρ') ∧ Q (t + 1) ρ') → Q s ρ → ∃ ρ', evFor f ((List.range' s n).map fun i => PyData.int ((i : Nat) : Int)) ρ = some (.nx ρ') ∧ Q (s + n) ρ'
  | 0, s, ρ, _, h => ⟨ρ, rfl, h⟩
  | n + 1, s, ρ, hf, h => by
    obtain ⟨ρ1, e1, h1⟩ := hf s (Nat.le_refl _) (by omega) ρ h
    obtain ⟨ρ2, e2, h2⟩ := evFor_r (n := n) (s := s + 1) (fun t h1 h2 ρ q => hf t (by omega) (by omega) ρ q) h1
    refine ⟨ρ2, ?_, by rw [show s + (n + 1) = s + 1 + n by omega]; exact h2⟩
    rw [List.range'_succ, List.map_cons]
    simp only [evFor, e1, e2]
theorem evFor_rng {f : D → En → Option Oc} {Q : Nat → En → Prop} {n : Nat} {ρ : En} (hf : ∀ t, t < n → ∀ ρ, Q t ρ → ∃ ρ', f (.int (t : Int)) ρ = some (.nx ρ') ∧ Q (t + 1) ρ') (h : Q 0 ρ) : ∃ ρ', evFor f (rngD 0 n) ρ = some (.nx ρ') ∧ Q n ρ' := by
  obtain ⟨ρ', e, q⟩ := evFor_r (n := n) (s := 0) (fun t _ h => hf t (by omega)) h
  rw [Nat.zero_add] at q
  refine ⟨ρ', ?_, q⟩
  rw [rngD_map, List.range_eq_range']
  exact e
theorem sumP_flat : ∀ L : List (List (Int × Int)), sumP L.flatten = sumP (L.map sumP)
  | [] => rfl
  | l :: L => by rw [List.flatten_cons, sumP_app, sumP_flat L, List.map_cons, sumP_cons]
theorem rot_lin (r : Nat) (a b : Int) : rot r (a, b) = (a * (rot r (1, 0)).1 + b * (rot r (0, 1)).1, a * (rot r (1, 0)).2 + b * (rot r (0, 1)).2) := by
  induction r with
  | zero => simp [rot]
  | succ r ih =>
    simp only [rot, ih]
    rw [Prod.mk.injEq]
    refine ⟨?_, rfl⟩
    rw [Int.mul_sub, Int.mul_sub]
    omega
theorem rot_sum (s : Nat) (a b : Int) : ∀ m : Nat, sumP ((List.range m).map fun j => rot ((s * j) % 6) (a, b)) = (a * (sumP ((List.range m).map fun j => rot ((s * j) % 6) (1, 0))).1 + b * (sumP ((List.range m).map fun j => rot ((s * j) % 6) (0, 1))).1, a * (sumP ((List.range m).map fun j => rot ((s * j) % 6) (1, 0))).2 + b * (sumP ((List.range m).map fun j => rot ((s * j) % 6) (0, 1))).2)
  | 0 => by simp [sumP]
  | m + 1 => by
    simp only [List.range_succ, List.map_append, List.map_cons, List.map_nil, sumP_app, sumP_cons, sumP_nil, rot_sum s a b m, addP]
    rw [rot_lin]
    simp only [Int.mul_add, Prod.mk.injEq]
    omega
theorem rot_zerB : ((List.range 61).all fun m => (List.range 6).all fun s => s == 0 || (s * m) % 6 != 0 || (sumP ((List.range m).map fun j => rot ((s * j) % 6) (1, 0)) == (0, 0) && sumP ((List.range m).map fun j => rot ((s * j) % 6) (0, 1)) == (0, 0))) = true := by decide +kernel
theorem rot_zer (m : Nat) (hm : m < 61) (s : Nat) (hs : s < 6) (h0 : s ≠ 0) (h : (s * m) % 6 = 0) : sumP ((List.range m).map fun j => rot ((s * j) % 6) (1, 0)) = (0, 0) ∧ sumP ((List.range m).map fun j => rot ((s * j) % 6) (0, 1)) = (0, 0) := by
  have := List.all_eq_true.mp (List.all_eq_true.mp rot_zerB m (List.mem_range.mpr hm)) s (List.mem_range.mpr hs)
  simpa [h0, h] using this
theorem rot_all {s m : Nat} {S : Int × Int} (hm : m ≤ 60) (hs : s < 6) (h : (s * m) % 6 = 0) (h0 : s = 0 → S = (0, 0)) : sumP ((List.range m).map fun j => rot ((s * j) % 6) S) = (0, 0) := by
  by_cases z : s = 0
  · rw [h0 z, show (0, 0) = ((0, 0) : Int × Int) from rfl, rot_sum]
    simp
  · obtain ⟨a, b⟩ := S
    obtain ⟨e1, e2⟩ := rot_zer m (by omega) s hs z h
    rw [rot_sum, e1, e2]
    simp
def fnd (s : Nat) (ps : List (Int × Int)) (t : Nat) : List (Int × Int) := ((List.range t).map fun j => ps.map (rot ((s * j) % 6))).flatten
theorem fnd_succ (s : Nat) (ps : List (Int × Int)) (t : Nat) : fnd s ps (t + 1) = fnd s ps t ++ ps.map (rot ((s * t) % 6)) := by
  simp [fnd, List.range_succ]
theorem fnd_len (s : Nat) (ps : List (Int × Int)) : ∀ t : Nat, (fnd s ps t).length = t * ps.length
  | 0 => by simp [fnd]
  | t + 1 => by rw [fnd_succ, List.length_append, fnd_len s ps t, List.length_map, Nat.succ_mul]
theorem fnd_sum {s : Nat} {ps : List (Int × Int)} {m : Nat} (hm : m ≤ 60) (hs : s < 6) (h : (s * m) % 6 = 0) (h0 : s = 0 → sumP ps = (0, 0)) : sumP (fnd s ps m) = (0, 0) := by
  rw [fnd, sumP_flat, List.map_map]
  have : (sumP ∘ fun j => ps.map (rot ((s * j) % 6))) = fun j => rot ((s * j) % 6) (sumP ps) := by
    funext j
    exact sumP_rot _ ps
  rw [this]
  exact rot_all hm hs h h0
theorem fnd_bd {s b : Nat} {ps : List (Int × Int)} (h : ∀ p ∈ ps, PtB b p) {t : Nat} : ∀ p ∈ fnd s ps t, PtB (2 * b) p := by
  intro p hp
  simp only [fnd, List.mem_flatten, List.mem_map, List.mem_range] at hp
  obtain ⟨l, ⟨j, _, rfl⟩, hp⟩ := hp
  obtain ⟨q, hq, rfl⟩ := List.mem_map.mp hp
  exact rot_bd (Nat.mod_lt _ (by decide)) (h q hq)
def rp_1 : IS := .asg (.nm 2) (.or (.cmp .Eq (.bin .Mod (.bi "int" (.cons (.var 1) .nil)) (.cst (.int 2))) (.cst (.int 0))) (.one (.cmp .Eq (.bin .Mod (.bi "int" (.cons (.var 1) .nil)) (.cst (.int 3))) (.cst (.int 0)))))
def rp_2 : IS := .asg (.nm 3) (.cal "_law_pick" (.cons (.var 0) (.cons (.lc (.var 10) (.nm 10) [("_law_each", 10)] (.r2 (.cst (.int 1)) (.bin .Add (.var 1) (.bi "int" (.cons (.var 2) .nil)))) (.so (.cmp .Eq (.bin .Mod (.bi "int" (.cons (.var 1) .nil)) (.var 10)) (.cst (.int 0))))) .nil)))
def rp_3 : IS := .asg (.nm 4) (.cal "_law_pick" (.cons (.var 0) (.cons (.lc (.var 10) (.nm 10) [("_law_each", 10)] (.r2 (.bi "int" (.cons (.cmp .Eq (.var 3) (.var 1)) .nil)) (.cst (.int 6))) (.so (.cmp .Eq (.bin .Mod (.bi "int" (.cons (.bin .Mult (.var 10) (.var 3)) .nil)) (.cst (.int 6))) (.cst (.int 0))))) .nil)))
def rp_4 : IS := .asg (.nm 5) (.lst .nil)
def rp_5b1 : IS := .asg (.nm 8) (.bin .Sub (.cal "_law_draw" (.cons (.var 0) (.cons (.cst (.int 5)) .nil))) (.cst (.int 2)))
def rp_5b2 : IS := .app 5 (.tup (.cons (.var 8) (.cons (.bin .Sub (.cal "_law_draw" (.cons (.var 0) (.cons (.cst (.int 5)) .nil))) (.cst (.int 2))) .nil)))
def rp_5b : ISs := (.cons rp_5b1 (.cons rp_5b2 .nil))
def rp_5 : IS := .fors (.nm 6) (.r1 (.bin .FloorDiv (.var 1) (.var 3))) rp_5b
def rp_6t1 : IS := .asgs [8, 9] (.cons (.bi "sum" (.cons (.lcO (.idx (.var 11) (.cst (.int 0))) 11 "_law_point" 5) .nil)) (.cons (.bi "sum" (.cons (.lcO (.idx (.var 11) (.cst (.int 1))) 11 "_law_point" 5) .nil)) .nil))
def rp_6t2 : IS := .asg (.sub 5 (.cst (.int 0))) (.tup (.cons (.bin .Sub (.idx (.idx (.var 5) (.cst (.int 0))) (.cst (.int 0))) (.var 8)) (.cons (.bin .Sub (.idx (.idx (.var 5) (.cst (.int 0))) (.cst (.int 1))) (.var 9)) .nil)))
def rp_6t : ISs := (.cons rp_6t1 (.cons rp_6t2 .nil))
def rp_6 : IS := .ifs (.cmp .Eq (.var 4) (.cst (.int 0))) rp_6t .nil
def rp_7 : IS := .asg (.nm 7) (.lst .nil)
def rp_8b1 : IS := .asg (.nm 7) (.bin .Add (.var 7) (.lc (.cal "_law_sixths" (.cons (.var 11) (.cons (.bin .Mult (.var 4) (.var 6)) .nil))) (.nm 11) [("_law_point", 11)] (.ex (.var 5)) .no))
def rp_8b : ISs := (.cons rp_8b1 .nil)
def rp_8 : IS := .fors (.nm 6) (.r1 (.var 3)) rp_8b
def rp_9 : IS := .ret (.var 7)
def rp_ : ISs := (.cons rp_1 (.cons rp_2 (.cons rp_3 (.cons rp_4 (.cons rp_5 (.cons rp_6 (.cons rp_7 (.cons rp_8 (.cons rp_9 .nil)))))))))
theorem rp__is : i__law_repeated = rp_ := rfl
theorem rp_e1 (N : Nat) (T : Tb) (l : List D) (k : Nat) : ∃ b : Bool, (b = true → (k : Int) % 2 = 0 ∨ (k : Int) % 3 = 0) ∧ evS N T [.o true l, .v (.int k), .u, .u, .u, .u, .u, .u, .u, .u, .u, .u] rp_1 = some (.nx [.o true l, .v (.int k), .v (.bool b), .u, .u, .u, .u, .u, .u, .u, .u, .u]) := by
  by_cases h2 : (k : Int) % 2 = 0
  · exact ⟨true, fun _ => .inl h2, by simp [rp_1, evS, evE, evEs, viewL, viewOp, biD, ofC, binD, binI, cmp_eq, h2, asgT, stOp, setE]⟩
  · by_cases h3 : (k : Int) % 3 = 0
    · exact ⟨true, fun _ => .inr h3, by simp [rp_1, evS, evE, evEs, viewL, viewOp, biD, ofC, binD, binI, cmp_eq, h2, h3, asgT, stOp, setE]⟩
    · exact ⟨false, fun h => absurd h Bool.false_ne_true, by simp [rp_1, evS, evE, evEs, viewL, viewOp, biD, ofC, binD, binI, cmp_eq, h2, h3, asgT, stOp, setE]⟩
theorem rp_e2 (N : Nat) {T : Tb} (hp : T.fs "_law_pick" = some fs__law_pick) {l : List D} (w : Urn l) {k : Nat} (hk : 2 ≤ k) (hk2 : k ≤ 60) (b : Bool) (hb : b = true → (k : Int) % 2 = 0 ∨ (k : Int) % 3 = 0) : ∃ (m : Nat) (l' : List D), Urn l' ∧ 1 ≤ m ∧ m ≤ k ∧ k % m = 0 ∧ (m = k → (k : Int) % 2 = 0 ∨ (k : Int) % 3 = 0) ∧
    evS N T [.o true l, .v (.int k), .v (.bool b), .u, .u, .u, .u, .u, .u, .u, .u, .u] rp_2 = some (.nx [.o true l', .v (.int k), .v (.bool b), .v (.int m), .u, .u, .u, .u, .u, .u, .u, .u]) := by
  obtain ⟨bi, hbi⟩ : ∃ bi : Int, bi = if b then 1 else 0 := ⟨_, rfl⟩
  have hbi2 : 0 ≤ bi ∧ bi ≤ 1 := by subst hbi; cases b <;> simp
  have e1 := lcF (T := T) (ρ := [.o true l, .v (.int k), .v (.bool b), .u, .u, .u, .u, .u, .u, .u, .u, .u]) (ρ1 := [.o true l, .v (.int k), .v (.bool b), .u, .u, .u, .u, .u, .u, .u, .u, .u]) (it := .r2 (.cst (.int 1)) (.bin .Add (.var 1) (.bi "int" (.cons (.var 2) .nil)))) (c := .cmp .Eq (.bin .Mod (.bi "int" (.cons (.var 1) .nil)) (.var 10)) (.cst (.int 0))) (i := 10) (nm := "_law_each") (lo := 1) (n := (k + bi - 1).toNat) (fun x : Int => decide ((k : Int) % x = 0)) (by
      have r1 : rngOk 1 = true := by decide
      have r2 : rngOk ((k : Int) + bi) = true := by unfold rngOk; rw [decide_eq_true_eq]; omega
      simp [evIt, evE, evEs, viewL, viewOp, biD, ofC, binD, binI, ← hbi, r1, r2]) rfl (fun x h1 h2 => by
      have : 0 < x := by omega
      simp [evT, evE, evEs, viewL, viewOp, biD, ofC, binD, binI, this, cmp_eq]) (by omega)
  have ne : (((List.range (k + bi - 1).toNat).map fun t => 1 + ((t : Nat) : Int)).filter fun x : Int => decide ((k : Int) % x = 0)) ≠ [] := by
    have : (1 : Int) ∈ (((List.range (k + bi - 1).toNat).map fun t => 1 + ((t : Nat) : Int)).filter fun x : Int => decide ((k : Int) % x = 0)) := mem_fil.mpr ⟨⟨by omega, by omega⟩, by simp⟩
    exact List.ne_nil_of_mem this
  obtain ⟨x, l', e2, w', hx⟩ := v_pickI w ne (fil_len (by omega))
  obtain ⟨⟨h1, h2⟩, h3⟩ := mem_fil.mp hx
  have h3 : (k : Int) % x = 0 := of_decide_eq_true h3
  obtain ⟨m, rfl⟩ : ∃ m : Nat, x = m := ⟨x.toNat, by omega⟩
  refine ⟨m, l', w', by omega, by omega, by omega, fun he => hb ?_, asg_ok (calW hp (ee_cons e1 rfl) rfl rfl e2) rfl⟩
  cases b with
  | true => rfl
  | false => simp at hbi; omega
theorem rp_e3 (N : Nat) {T : Tb} (hp : T.fs "_law_pick" = some fs__law_pick) {l : List D} (w : Urn l) {k m : Nat} (hk : 2 ≤ k) (hk2 : k ≤ 60) (b : Bool) (hm : m = k → (k : Int) % 2 = 0 ∨ (k : Int) % 3 = 0) (h1 : m ≤ k) : ∃ (s : Nat) (l' : List D), Urn l' ∧ s < 6 ∧ (s * m) % 6 = 0 ∧
    evS N T [.o true l, .v (.int k), .v (.bool b), .v (.int m), .u, .u, .u, .u, .u, .u, .u, .u] rp_3 = some (.nx [.o true l', .v (.int k), .v (.bool b), .v (.int m), .v (.int s), .u, .u, .u, .u, .u, .u, .u]) := by
  obtain ⟨bi, hbi⟩ : ∃ bi : Int, bi = if (m : Int) = k then 1 else 0 := ⟨_, rfl⟩
  have hbi2 : 0 ≤ bi ∧ bi ≤ 1 := by subst hbi; split <;> simp
  have e1 := lcF (T := T) (ρ := [.o true l, .v (.int k), .v (.bool b), .v (.int m), .u, .u, .u, .u, .u, .u, .u, .u]) (ρ1 := [.o true l, .v (.int k), .v (.bool b), .v (.int m), .u, .u, .u, .u, .u, .u, .u, .u]) (it := .r2 (.bi "int" (.cons (.cmp .Eq (.var 3) (.var 1)) .nil)) (.cst (.int 6))) (c := .cmp .Eq (.bin .Mod (.bi "int" (.cons (.bin .Mult (.var 10) (.var 3)) .nil)) (.cst (.int 6))) (.cst (.int 0))) (i := 10) (nm := "_law_each") (lo := bi) (n := (6 - bi).toNat) (fun x : Int => decide ((x * m) % 6 = 0)) (by
      have r1 : rngOk 6 = true := by decide
      have r2 : rngOk bi = true := by unfold rngOk; rw [decide_eq_true_eq]; omega
      have e0 : (if decide ((m : Int) = k) = true then (1 : Int) else 0) = bi := by rw [hbi]; simp
      simp only [evIt, evE, evEs, viewL, viewOp, biD, ofC, cmp_eq, Option.bind_some, Option.map_some, List.getElem?_cons_succ, List.getElem?_cons_zero, e0, r1, r2, Bool.and_self, if_true]) rfl (fun x h1 h2 => by
      have : mulOk x m = true := mulOk_l (by omega) (by omega)
      simp [evT, evE, evEs, viewL, viewOp, biD, ofC, binD, binI, this, cmp_eq]) (by omega)
  have ne : (((List.range (6 - bi).toNat).map fun t => bi + ((t : Nat) : Int)).filter fun x : Int => decide ((x * m) % 6 = 0)) ≠ [] := by
    by_cases hmk : (m : Int) = k
    · rcases hm (by omega) with h | h
      · exact List.ne_nil_of_mem (a := (3 : Int)) (mem_fil.mpr ⟨⟨by omega, by omega⟩, by rw [decide_eq_true_eq]; omega⟩)
      · exact List.ne_nil_of_mem (a := (2 : Int)) (mem_fil.mpr ⟨⟨by omega, by omega⟩, by rw [decide_eq_true_eq]; omega⟩)
    · rw [if_neg hmk] at hbi
      exact List.ne_nil_of_mem (a := (0 : Int)) (mem_fil.mpr ⟨⟨by omega, by omega⟩, by rw [decide_eq_true_eq]; omega⟩)
  obtain ⟨x, l', e2, w', hx⟩ := v_pickI w ne (fil_len (by omega))
  obtain ⟨⟨h1, h2⟩, h3⟩ := mem_fil.mp hx
  have h3 : (x * m) % 6 = 0 := of_decide_eq_true h3
  obtain ⟨s, rfl⟩ : ∃ s : Nat, x = s := ⟨x.toNat, by omega⟩
  exact ⟨s, l', w', by omega, by omega, asg_ok (calW hp (ee_cons e1 rfl) rfl rfl e2) rfl⟩
end Ev

set_option maxHeartbeats 1000000
namespace Ev
open PySem L2
theorem tupK2 {T : Tb} {ρ ρ1 ρ2 ρ3 : En} {a b : IE} {x y : Op} {d e : D} (h1 : evE T ρ a = some (x, ρ1)) (h2 : evE T ρ1 b = some (y, ρ2)) (hk : keepL ρ2 [x, y] = some ([d, e], ρ3)) : evE T ρ (.tup (.cons a (.cons b .nil))) = some (.val (.tuple [d, e]), ρ3) := by
  simp only [evE, evEs, h1, h2, hk, Option.bind_some, Option.map_some, List.length_cons, List.length_nil]
  rw [show lenOk (0 + 1 + 1) = true from lenOk2]
  rfl
theorem rp_turn (N : Nat) {T : Tb} (hd : T.fs "_law_draw" = some fs__law_draw) {l : List D} (w : Urn l) (a b c d y x8 : Sl) {ps : List (Int × Int)} (hl : ps.length ≤ 1000) : ∃ (p : Int × Int) (l' : List D) (z : Sl), Urn l' ∧ PtB 2 p ∧
    evSs N T [.o true l, a, b, c, d, .o false (ps.map ptD), y, .u, x8, .u, .u, .u] rp_5b = some (.nx [.o true l', a, b, c, d, .o false ((ps ++ [p]).map ptD), y, .u, z, .u, .u, .u]) := by
  obtain ⟨u, l1, e1, w1, u0, u1⟩ := v_draw w (k := 5) (by decide) (by decide)
  obtain ⟨v, l2, e2, w2, v0, v1⟩ := v_draw w1 (k := 5) (by decide) (by decide)
  have s1 : evS N T [.o true l, a, b, c, d, .o false (ps.map ptD), y, .u, x8, .u, .u, .u] rp_5b1 = some (.nx [.o true l1, a, b, c, d, .o false (ps.map ptD), y, .u, .v (.int (u - 2)), .u, .u, .u]) :=
    asg_ok (bin_ok (x := .val (.int u)) (calW hd (r := [.val (.int 5)]) rfl rfl rfl e1) (y := .val (.int 2)) rfl rfl rfl rfl) rfl
  have t2 : evE T [.o true l1, a, b, c, d, .o false (ps.map ptD), y, .u, .v (.int (u - 2)), .u, .u, .u] (.bin .Sub (.cal "_law_draw" (.cons (.var 0) (.cons (.cst (.int 5)) .nil))) (.cst (.int 2))) = some (.val (.int (v - 2)), [.o true l2, a, b, c, d, .o false (ps.map ptD), y, .u, .v (.int (u - 2)), .u, .u, .u]) :=
    bin_ok (x := .val (.int v)) (calW hd (r := [.val (.int 5)]) rfl rfl rfl e2) (y := .val (.int 2)) rfl rfl rfl rfl
  have s2 : evS N T [.o true l1, a, b, c, d, .o false (ps.map ptD), y, .u, .v (.int (u - 2)), .u, .u, .u] rp_5b2 = some (.nx [.o true l2, a, b, c, d, .o false ((ps ++ [(u - 2, v - 2)]).map ptD), y, .u, .v (.int (u - 2)), .u, .u, .u]) := by
    have := app_ok (n := N) (T := T) (i := 5) (mt := false) (mt0 := false) (ds := ps.map ptD) (ds0 := ps.map ptD) (ρ := [.o true l1, a, b, c, d, .o false (ps.map ptD), y, .u, .v (.int (u - 2)), .u, .u, .u]) (e := .tup (.cons (.var 8) (.cons (.bin .Sub (.cal "_law_draw" (.cons (.var 0) (.cons (.cst (.int 5)) .nil))) (.cst (.int 2))) .nil))) (o := .val (ptD (u - 2, v - 2))) (d := ptD (u - 2, v - 2)) rfl (tupK2 (x := .slot 8) rfl t2 rfl) rfl rfl (by rw [List.length_map]; exact hl)
    rw [rp_5b2, this, List.map_append]
    rfl
  refine ⟨(u - 2, v - 2), l2, _, w2, ⟨by simp only; omega, by simp only; omega⟩, ss_nx s1 (ss_nx s2 rfl)⟩
theorem bd_set (ρ : En) (i : Nat) (hi : i < ρ.length) (d : D) : bindT ρ (.nm i) d = some (ρ.set i (.v d)) := by simp only [bindT, setE, decide_eq_true hi, if_true]
theorem dv_ok {m : Nat} (h1 : 1 ≤ m) (h2 : m ≤ 8000) : divOk (m : Int) = true := by
  unfold divOk
  rw [decide_eq_true_eq]
  refine ⟨by omega, ?_⟩
  rw [Int.natAbs_natCast]
  exact Nat.lt_of_le_of_lt (Nat.log2_le_self m) (by omega)
theorem div_nat (k m : Nat) : (k : Int) / m = ((k / m : Nat) : Int) ∧ ((k : Int) / m).toNat = k / m := by
  rw [← Int.natCast_ediv]
  exact ⟨rfl, Int.toNat_natCast _⟩
theorem ro_nat {j : Int} {k : Nat} (h : j = (k : Int)) (hk : k ≤ 1000) : rngOk j = true := by
  subst h
  unfold rngOk
  rw [decide_eq_true_eq]
  omega
theorem it_r1e {T : Tb} {ρ ρ1 : En} {e : IE} {o : Op} {j : Int} (h : evE T ρ e = some (o, ρ1)) (hv : viewOp ρ1 o = some (.int j)) (ho : rngOk j = true) : evIt T ρ (.r1 e) = some (rngD 0 j.toNat, ρ1) := by
  simp only [evIt, h, Option.bind_some, hv, ho, if_true]
theorem bi_div {i j : Int} (h : divOk j = true) : binD .FloorDiv (.int i) (.int j) = some (.val (.int (i / j))) := by simp only [binD, binI, h, if_true, Option.map_some]
theorem rp_loop (N : Nat) {T : Tb} (hd : T.fs "_law_draw" = some fs__law_draw) {l : List D} (w : Urn l) {k m : Nat} (b d : Sl) (h1 : 1 ≤ m) (h2 : m ≤ k) (hk : k ≤ 60) : ∃ (ps : List (Int × Int)) (l' : List D) (y z : Sl), Urn l' ∧ ps.length = k / m ∧ (∀ p ∈ ps, PtB 2 p) ∧
    evS N T [.o true l, .v (.int k), b, .v (.int m), d, .o false [], .u, .u, .u, .u, .u, .u] rp_5 = some (.nx [.o true l', .v (.int k), b, .v (.int m), d, .o false (ps.map ptD), y, .u, z, .u, .u, .u]) := by
  have hn : k / m ≤ 60 := Nat.le_trans (Nat.div_le_self _ _) hk
  obtain ⟨ρ', e, l', ps, y, z, rfl, w', q1, q2⟩ := evFor_rng (f := fun x ρ1 => (bindT ρ1 (.nm 6) x).bind fun ρ2 => evSs N T ρ2 rp_5b) (n := k / m)
    (Q := fun t ρ => ∃ (l' : List D) (ps : List (Int × Int)) (y z : Sl), ρ = [.o true l', .v (.int k), b, .v (.int m), d, .o false (ps.map ptD), y, .u, z, .u, .u, .u] ∧ Urn l' ∧ ps.length = t ∧ ∀ p ∈ ps, PtB 2 p)
    (ρ := [.o true l, .v (.int k), b, .v (.int m), d, .o false [], .u, .u, .u, .u, .u, .u]) (fun t ht ρ ⟨l1, ps, y, z, hρ, w1, q1, q2⟩ => by
      subst hρ
      obtain ⟨p, l2, z', w2, hp, e⟩ := rp_turn N hd w1 (.v (.int k)) b (.v (.int m)) d (.v (.int t)) z (ps := ps) (by omega)
      refine ⟨_, ?_, l2, ps ++ [p], .v (.int t), z', rfl, w2, by simp [q1], fun q hq => ?_⟩
      · rw [bd_set _ 6 (by simp)]
        simp only [Option.bind_some, List.set_cons_succ, List.set_cons_zero]
        exact e
      · rcases List.mem_append.mp hq with h | h
        · exact q2 q h
        · rw [List.mem_singleton.mp h]; exact hp) ⟨l, [], .u, .u, rfl, w, rfl, fun p hp => by cases hp⟩
  refine ⟨ps, l', y, z, w', q1, q2, for_ok (ρ1 := [.o true l, .v (.int k), b, .v (.int m), d, .o false [], .u, .u, .u, .u, .u, .u]) ?_ e⟩
  rw [← (div_nat k m).2]
  exact it_r1e (bin_ok (x := .slot 1) (y := .slot 3) rfl rfl rfl rfl (bi_div (dv_ok (by omega) (by omega)))) rfl (ro_nat (div_nat k m).1 (by omega))
theorem idx_ok {T : Tb} {ρ ρ1 ρ2 : En} {a b : IE} {x y : Op} {d e r : D} (h1 : evE T ρ a = some (x, ρ1)) (h2 : evE T ρ1 b = some (y, ρ2)) (h3 : viewOp ρ2 x = some d) (h4 : viewOp ρ2 y = some e) (h5 : idxD d e = some r) : evE T ρ (.idx a b) = some (.val r, ρ2) := by
  simp only [evE, h1, h2, h3, h4, h5, Option.bind_some, Option.map_some]
theorem idx0L (d : D) (ds : List D) : idxD (.list (d :: ds)) (.int 0) = some d := by simp [idxD, atI, ixN]
theorem sub_ok {T : Tb} {ρ : En} {i : Nat} {ix : IE} {d : D} {mt : Bool} {ds : List D} {x : Op} {k : Int} {j : Nat} (h1 : ρ[i]? = some (.o mt ds)) (h2 : evE T ρ ix = some (x, ρ)) (h3 : viewOp ρ x = some (.int k)) (h4 : ixN ds.length k = some j) : asgT T ρ (.sub i ix) (.val d) = some (ρ.set i (.o mt (ds.set j d))) := by
  simp only [asgT, keepOp, Option.bind_some, h1, h2, h3, h4, Option.map_some]
theorem calPn {n : Nat} {T : Tb} {ρ : En} {f : Str} {es : IEs} {ops : List Op} {g : List D → Option D} {ds ds' : List D} {r : D} (hs : T.fs f = some (.p n g)) (he : evEs T ρ es = some (ops, ρ)) (hn : ops.length = n) (hv : viewL ρ ops = some ds) (hk : keepL ρ ops = some (ds', ρ)) (hg : g ds = some r) : evE T ρ (.cal f es) = some (.val r, ρ) := by
  subst hn
  refine cal_ok he hs ?_
  simp only [callF, callP, hv, hg, hk, Option.bind_some, Option.map_some, beq_self_eq_true, if_true]
  by_cases hf : flat r = true <;> simp [hf]
theorem sum_v (ds : List Int) : biD "sum" [.list (ds.map .int)] = some (.val (.int ds.sum)) := by simp only [biD, intsD_map, Option.map_some]
theorem abs_sum (b : Nat) : ∀ l : List Int, (∀ x ∈ l, x.natAbs ≤ b) → l.sum.natAbs ≤ b * l.length
  | [], _ => by simp
  | x :: l, h => by
    have h1 := h x List.mem_cons_self
    have h2 := abs_sum b l fun y hy => h y (List.mem_cons_of_mem _ hy)
    rw [List.sum_cons, List.length_cons, Nat.mul_succ]
    omega
theorem sumP_bd {b : Nat} {ps : List (Int × Int)} (h : ∀ p ∈ ps, PtB b p) : PtB (b * ps.length) (sumP ps) := by
  constructor
  · have := abs_sum b (ps.map (·.1)) fun x hx => by
      obtain ⟨p, hp, rfl⟩ := List.mem_map.mp hx
      exact (h p hp).1
    rwa [List.length_map] at this
  · have := abs_sum b (ps.map (·.2)) fun x hx => by
      obtain ⟨p, hp, rfl⟩ := List.mem_map.mp hx
      exact (h p hp).2
    rwa [List.length_map] at this
theorem PtB.mono {a b : Nat} {p : Int × Int} (h : PtB a p) (hab : a ≤ b) : PtB b p := ⟨Nat.le_trans h.1 hab, Nat.le_trans h.2 hab⟩
theorem rp_sums {T : Tb} {ρ : En} {ps : List (Int × Int)} {i j : Nat} {nm : Str} (g : Int × Int → Int) (c : Int) (h0 : ρ[i]? = some (.o false (ps.map ptD))) (hu : ρ[j]? = some .u) (he : ∀ a, evE T (ρ.set j (.v (ptD a))) (.idx (.var j) (.cst (.int c))) = some (.val (.int (g a)), ρ.set j (.v (ptD a)))) (hl : ps.length ≤ 1000) :
    evE T ρ (.bi "sum" (.cons (.lcO (.idx (.var j) (.cst (.int c))) j nm i) .nil)) = some (.val (.int (ps.map g).sum), ρ) := by
  refine bi1 (lcO_v (enc := ptD) (out := fun p => .int (g p)) h0 (.inl hu) (fun a _ => he a) hl) rfl ?_
  rw [show (ps.map fun p => PyData.int (g p)) = (ps.map g).map .int by rw [List.map_map]; rfl]
  exact sum_v _
theorem rp_if (N : Nat) {T : Tb} {ps : List (Int × Int)} (h0 : 0 < ps.length) (hl : ps.length ≤ 60) (hb : ∀ p ∈ ps, PtB 2 p) (u a b c y z0 : Sl) (s : Nat) : ∃ (qs : List (Int × Int)) (z z2 : Sl), qs.length = ps.length ∧ (s = 0 → sumP qs = (0, 0)) ∧ (∀ p ∈ qs, PtB 150 p) ∧
    evS N T [u, a, b, c, .v (.int s), .o false (ps.map ptD), y, .u, z0, .u, .u, .u] rp_6 = some (.nx [u, a, b, c, .v (.int s), .o false (qs.map ptD), y, .u, z, z2, .u, .u]) := by
  by_cases hs : s = 0
  · subst hs
    obtain ⟨p0, rest, rfl⟩ : ∃ p0 rest, ps = p0 :: rest := by
      cases ps with
      | nil => simp at h0
      | cons p r => exact ⟨p, r, rfl⟩
    obtain ⟨S, hS⟩ : ∃ S, S = sumP (p0 :: rest) := ⟨_, rfl⟩
    have hSb := sumP_bd hb
    rw [← hS] at hSb
    have e1 := rp_sums (T := T) (ρ := [u, a, b, c, .v (.int 0), .o false ((p0 :: rest).map ptD), y, .u, z0, .u, .u, .u]) (ps := p0 :: rest) (i := 5) (j := 11) (nm := "_law_point") (·.1) 0 rfl rfl (fun a => rfl) (by omega)
    have e2 := rp_sums (T := T) (ρ := [u, a, b, c, .v (.int 0), .o false ((p0 :: rest).map ptD), y, .u, z0, .u, .u, .u]) (ps := p0 :: rest) (i := 5) (j := 11) (nm := "_law_point") (·.2) 1 rfl rfl (fun a => rfl) (by omega)
    have s1 : evS N T [u, a, b, c, .v (.int 0), .o false ((p0 :: rest).map ptD), y, .u, z0, .u, .u, .u] rp_6t1 = some (.nx [u, a, b, c, .v (.int 0), .o false ((p0 :: rest).map ptD), y, .u, .v (.int S.1), .v (.int S.2), .u, .u]) := by
      rw [hS]
      exact asgs_ok (ee_cons e1 (ee_cons e2 rfl)) rfl rfl
    have g : ∀ (j : Int) (w0 w1 : Int), idxD (ptD p0) (.int j) = some (.int w0) → ∀ (i : Nat), ([u, a, b, c, .v (.int 0), .o false ((p0 :: rest).map ptD), y, .u, .v (.int S.1), .v (.int S.2), .u, .u] : En)[i]? = some (.v (.int w1)) →
        evE T [u, a, b, c, .v (.int 0), .o false ((p0 :: rest).map ptD), y, .u, .v (.int S.1), .v (.int S.2), .u, .u] (.bin .Sub (.idx (.idx (.var 5) (.cst (.int 0))) (.cst (.int j))) (.var i)) = some (.val (.int (w0 - w1)), [u, a, b, c, .v (.int 0), .o false ((p0 :: rest).map ptD), y, .u, .v (.int S.1), .v (.int S.2), .u, .u]) := fun j w0 w1 h1 i h2 =>
      bin_ok (x := .val (.int w0)) (y := .slot i) (d := .int w0) (e := .int w1) (idx_ok (x := .val (ptD p0)) (y := .val (.int j)) (idx_ok (x := .slot 5) (y := .val (.int 0)) rfl rfl rfl rfl (idx0L _ _)) rfl rfl rfl h1) (by simp only [evE, h2]) rfl (by simp only [viewOp, h2]) rfl
    have s2 : evS N T [u, a, b, c, .v (.int 0), .o false ((p0 :: rest).map ptD), y, .u, .v (.int S.1), .v (.int S.2), .u, .u] rp_6t2 = some (.nx [u, a, b, c, .v (.int 0), .o false (((p0.1 - S.1, p0.2 - S.2) :: rest).map ptD), y, .u, .v (.int S.1), .v (.int S.2), .u, .u]) := by
      refine asg_ok (tupK2 (x := .val (.int (p0.1 - S.1))) (y := .val (.int (p0.2 - S.2))) (g 0 _ _ rfl 8 rfl) (g 1 _ _ rfl 9 rfl) rfl) ?_
      have := sub_ok (T := T) (ρ := [u, a, b, c, .v (.int 0), .o false ((p0 :: rest).map ptD), y, .u, .v (.int S.1), .v (.int S.2), .u, .u]) (i := 5) (ix := .cst (.int 0)) (d := ptD (p0.1 - S.1, p0.2 - S.2)) (mt := false) (ds := (p0 :: rest).map ptD) (x := .val (.int 0)) (k := 0) (j := 0) rfl rfl rfl (ixN_nn (Int.le_refl _) (by simp))
      exact this
    refine ⟨(p0.1 - S.1, p0.2 - S.2) :: rest, _, _, rfl, fun _ => ?_, fun p hp => ?_, ifs_t (cmpT_ok (x := .slot 4) (y := .val (.int 0)) rfl rfl rfl rfl (cmp_eq _ _)) (ss_nx s1 (ss_nx s2 rfl))⟩
    · rw [sumP_cons] at hS ⊢
      subst hS
      simp only [addP]
      rw [Prod.mk.injEq]
      omega
    · have h0 := hb p0 List.mem_cons_self
      rcases List.mem_cons.mp hp with rfl | hp
      · obtain ⟨h1, h2⟩ := h0
        obtain ⟨h3, h4⟩ := hSb
        exact ⟨by simp only; omega, by simp only; omega⟩
      · exact (hb p (List.mem_cons_of_mem _ hp)).mono (by decide)
  · refine ⟨ps, _, _, rfl, fun h => absurd h hs, fun p hp => (hb p hp).mono (by decide), ifs_f (cmpT_ok (x := .slot 4) (y := .val (.int 0)) rfl rfl rfl rfl (by rw [cmp_eq]; exact congrArg some (decide_eq_false (by omega)))) rfl⟩
theorem mul_nat (s t : Nat) (hs : s < 6) : mulOk (s : Int) (t : Int) = true := mulOk_l (by omega) (by omega)
theorem bi_mul {i j : Int} (h : mulOk i j = true) : binD .Mult (.int i) (.int j) = some (.val (.int (i * j))) := by simp only [binD, binI, h, if_true, Option.map_some]
theorem bi_app {xs ys : List D} (h : xs.length + ys.length ≤ 16777216) : binD .Add (.list xs) (.list ys) = some (.new (xs ++ ys)) := by simp only [binD, lenOk_le h, if_true]
theorem rp_t8 (N : Nat) {T : Tb} (hs6 : T.fs "_law_sixths" = some fs__law_sixths) (u k b m z z2 : Sl) (s t : Nat) (hs : s < 6) {qs F : List (Int × Int)} (hq : qs.length ≤ 60) (hF : F.length ≤ 3600) {s5 : Sl} (h5 : s5 = .o false (qs.map ptD) ∨ s5 = .v (.list (qs.map ptD))) :
    evSs N T [u, k, b, m, .v (.int s), s5, .v (.int t), .o false (F.map ptD), z, z2, .u, .u] rp_8b = some (.nx [u, k, b, m, .v (.int s), .v (.list (qs.map ptD)), .v (.int t), .o false ((F ++ qs.map (rot ((s * t) % 6))).map ptD), z, z2, .u, .u]) := by
  have it : evIt T [u, k, b, m, .v (.int s), s5, .v (.int t), .o false (F.map ptD), z, z2, .u, .u] (.ex (.var 5)) = some (qs.map ptD, [u, k, b, m, .v (.int s), .v (.list (qs.map ptD)), .v (.int t), .o false (F.map ptD), z, z2, .u, .u]) := by
    rcases h5 with rfl | rfl
    · exact it_ex (o := .slot 5) rfl rfl
    · exact it_ex (o := .slot 5) rfl rfl
  have lc := lcM (T := T) (ρ := [u, k, b, m, .v (.int s), s5, .v (.int t), .o false (F.map ptD), z, z2, .u, .u]) (own := [("_law_point", 11)]) (e := .cal "_law_sixths" (.cons (.var 11) (.cons (.bin .Mult (.var 4) (.var 6)) .nil))) (t := .nm 11) ptD (fun p => ptD (rot ((s * t) % 6) p)) it (fun a _ => ⟨[u, k, b, m, .v (.int s), .v (.list (qs.map ptD)), .v (.int t), .o false (F.map ptD), z, z2, .u, .v (ptD a)], .val (ptD (rot ((s * t) % 6) a)), rfl, by
    refine calPn hs6 (ops := [.slot 11, .val (.int ((s : Int) * t))]) (ee_cons rfl (ee_cons (bin_ok (x := .slot 4) (y := .slot 6) rfl rfl rfl rfl (bi_mul (mul_nat s t hs))) rfl)) rfl (ds := [ptD a, .int ((s : Int) * t)]) rfl rfl ?_
    rw [v_sixths]
    have : (((s : Int) * t) % 6).toNat = (s * t) % 6 := by
      have h : ((s : Int) * t) % 6 = (((s * t) % 6 : Nat) : Int) := by push_cast; rfl
      rw [h]; rfl
    rw [this], rfl, rfl⟩) (fun i hi => .inl (by
      have : i = 11 := by simpa using hi
      subst this; rfl)) (lenOk_le (by omega))
  have e : evE T [u, k, b, m, .v (.int s), s5, .v (.int t), .o false (F.map ptD), z, z2, .u, .u] (.bin .Add (.var 7) (.lc (.cal "_law_sixths" (.cons (.var 11) (.cons (.bin .Mult (.var 4) (.var 6)) .nil))) (.nm 11) [("_law_point", 11)] (.ex (.var 5)) .no)) = some (.new ((F ++ qs.map (rot ((s * t) % 6))).map ptD), [u, k, b, m, .v (.int s), .v (.list (qs.map ptD)), .v (.int t), .o false (F.map ptD), z, z2, .u, .u]) := by
    rw [List.map_append, List.map_map]
    exact bin_ok (x := .slot 7) rfl lc rfl rfl (bi_app (by simp; omega))
  exact ss_nx (asg_ok e rfl) rfl
theorem rp_l8 (N : Nat) {T : Tb} (hs6 : T.fs "_law_sixths" = some fs__law_sixths) (u k b z z2 y0 : Sl) (s m : Nat) (hs : s < 6) (hm : m ≤ 60) {qs : List (Int × Int)} (hq : qs.length ≤ 60) : ∃ y s5 : Sl,
    evS N T [u, k, b, .v (.int m), .v (.int s), .o false (qs.map ptD), y0, .o false [], z, z2, .u, .u] rp_8 = some (.nx [u, k, b, .v (.int m), .v (.int s), s5, y, .o false ((fnd s qs m).map ptD), z, z2, .u, .u]) := by
  obtain ⟨ρ', e, y, s5, h5, rfl⟩ := evFor_rng (f := fun x ρ1 => (bindT ρ1 (.nm 6) x).bind fun ρ2 => evSs N T ρ2 rp_8b) (n := m)
    (Q := fun t ρ => ∃ y s5 : Sl, (s5 = .o false (qs.map ptD) ∨ s5 = .v (.list (qs.map ptD))) ∧ ρ = [u, k, b, .v (.int m), .v (.int s), s5, y, .o false ((fnd s qs t).map ptD), z, z2, .u, .u])
    (ρ := [u, k, b, .v (.int m), .v (.int s), .o false (qs.map ptD), y0, .o false [], z, z2, .u, .u]) (fun t ht ρ ⟨y, s5, h5, hρ⟩ => by
      subst hρ
      refine ⟨_, ?_, .v (.int t), .v (.list (qs.map ptD)), .inr rfl, rfl⟩
      rw [bd_set _ 6 (by simp)]
      simp only [Option.bind_some, List.set_cons_succ, List.set_cons_zero]
      rw [fnd_succ]
      exact rp_t8 N hs6 u k b (.v (.int m)) z z2 s t hs hq (by
        rw [fnd_len]
        have : t * qs.length ≤ 60 * 60 := Nat.mul_le_mul (by omega) hq
        omega) h5) ⟨y0, _, .inl rfl, rfl⟩
  exact ⟨y, s5, for_ok (it_r1e (o := .slot 3) rfl rfl (ro_nat rfl (by omega))) e⟩
theorem t_pickR : (tabT tb__law_sixths kt0 gl0).fs "_law_pick" = some fs__law_pick := rfl
theorem t_drawR : (tabT tb__law_sixths kt0 gl0).fs "_law_draw" = some fs__law_draw := rfl
theorem t_sixR : (tabT tb__law_sixths kt0 gl0).fs "_law_sixths" = some fs__law_sixths := rfl
theorem v_repeated {l : List D} (w : Urn l) {k : Nat} (hk : 2 ≤ k) (hk2 : k ≤ 60) : ∃ (ps : List (Int × Int)) (l' : List D), f__law_repeated l [.int k] = some (.list (ps.map ptD), l') ∧ Urn l' ∧ Ps k 300 ps := by
  have h1 := t_pickR
  have h2 := t_drawR
  have h3 := t_sixR
  unfold f__law_repeated
  rw [rp__is]
  generalize (tabT tb__law_sixths kt0 gl0) = T at h1 h2 h3
  generalize 100000 = N
  obtain ⟨b, hb, e1⟩ := rp_e1 N T l k
  obtain ⟨m, l2, w2, m1, m2, m3, m4, e2⟩ := rp_e2 N h1 w hk hk2 b hb
  obtain ⟨s, l3, w3, s1, s2, e3⟩ := rp_e3 N h1 w2 hk hk2 b m4 m2
  obtain ⟨ps, l5, y, z, w5, q1, q2, e5⟩ := rp_loop N h2 w3 (.v (.bool b)) (.v (.int s)) m1 m2 hk2
  have hp : 0 < k / m := Nat.div_pos m2 m1
  have hp2 : k / m ≤ 60 := Nat.le_trans (Nat.div_le_self _ _) hk2
  obtain ⟨qs, z', z2, q3, q4, q5, e6⟩ := rp_if N (T := T) (ps := ps) (by omega) (by omega) q2 (.o true l5) (.v (.int k)) (.v (.bool b)) (.v (.int m)) y z s
  obtain ⟨y', s5, e8⟩ := rp_l8 N h3 (.o true l5) (.v (.int k)) (.v (.bool b)) z' z2 y s m s1 (by omega) (qs := qs) (by omega)
  refine ⟨fnd s qs m, l5, ?_, w5, ⟨?_, fnd_sum (by omega) s1 s2 q4, fnd_bd q5⟩⟩
  · exact runW_ok (ss_nx e1 (ss_nx e2 (ss_nx e3 (ss_nx (s := rp_4) rfl (ss_nx e5 (ss_nx e6 (ss_nx (s := rp_7) rfl (ss_nx e8 (ss_rt (ret_ok (o := .slot 7) rfl rfl))))))))))
  · rw [fnd_len, q3, q1]
    exact Nat.mul_div_cancel' (Nat.dvd_of_mod_eq_zero m3)
end Ev

set_option maxHeartbeats 1000000
namespace Ev
open PySem L2
def mirr (p : Int × Int) : Int × Int := (p.1 - p.2, 0 - p.2)
theorem mirr_add (p q : Int × Int) : mirr (addP p q) = addP (mirr p) (mirr q) := by
  simp only [mirr, addP]
  rw [Prod.mk.injEq]
  omega
theorem sumP_mirr : ∀ ps : List (Int × Int), sumP (ps.map mirr) = mirr (sumP ps)
  | [] => rfl
  | p :: ps => by rw [List.map_cons, sumP_cons, sumP_cons, mirr_add, sumP_mirr ps]
theorem sumP_add {α : Type} (f g : α → Int × Int) : ∀ l : List α, sumP (l.map fun a => addP (f a) (g a)) = addP (sumP (l.map f)) (sumP (l.map g))
  | [] => rfl
  | a :: l => by
    rw [List.map_cons, List.map_cons, List.map_cons, sumP_cons, sumP_cons, sumP_cons, sumP_add f g l]
    simp only [addP]
    rw [Prod.mk.injEq]
    omega
theorem sumP_rev (ps : List (Int × Int)) : sumP ps.reverse = sumP ps := by
  induction ps with
  | nil => rfl
  | cons p ps ih =>
    rw [List.reverse_cons, sumP_app, ih, sumP_cons, sumP_cons, sumP_nil]
    simp only [addP]
    rw [Prod.mk.injEq]
    omega
/-- what stands at a place told from the front or from the end -/
def gP (ps : List (Int × Int)) (i : Nat) : Int × Int := ps[i]?.getD (0, 0)
def backI (n a j : Nat) : Nat := if j ≤ a then a - j else n + a - j
theorem back_list (ps : List (Int × Int)) (a : Nat) (ha : a < ps.length) : (List.range ps.length).map (fun j => gP ps (backI ps.length a j)) = (ps.take (a + 1)).reverse ++ (ps.drop (a + 1)).reverse := by
  apply List.ext_getElem?
  intro j
  by_cases hj : j < ps.length
  · rw [List.getElem?_map, List.getElem?_range hj, Option.map_some]
    have hl : (ps.take (a + 1)).reverse.length = a + 1 := by rw [List.length_reverse, List.length_take]; omega
    by_cases h : j ≤ a
    · rw [List.getElem?_append_left (by omega), List.getElem?_reverse (by rw [List.length_take]; omega), List.length_take, List.getElem?_take]
      have : min (a + 1) ps.length - 1 - j = a - j := by omega
      rw [this, if_pos (by omega)]
      have hh : a - j < ps.length := by omega
      simp only [backI, if_pos h, gP]
      rw [List.getElem?_eq_getElem hh]
      rfl
    · rw [List.getElem?_append_right (by omega), hl, List.getElem?_reverse (by rw [List.length_drop]; omega), List.length_drop, List.getElem?_drop]
      have : a + 1 + (ps.length - (a + 1) - 1 - (j - (a + 1))) = ps.length + a - j := by omega
      rw [this]
      have hh : ps.length + a - j < ps.length := by omega
      simp only [backI, if_neg h, gP]
      rw [List.getElem?_eq_getElem hh]
      rfl
  · rw [List.getElem?_eq_none (by simp; omega), List.getElem?_eq_none (by simp; omega)]
theorem back_sum (ps : List (Int × Int)) (a : Nat) (ha : a < ps.length) : sumP ((List.range ps.length).map fun j => gP ps (backI ps.length a j)) = sumP ps := by
  rw [back_list ps a ha, sumP_app, sumP_rev, sumP_rev, ← sumP_app, List.take_append_drop]
theorem all_list (ps : List (Int × Int)) : (List.range ps.length).map (gP ps) = ps := by
  apply List.ext_getElem?
  intro j
  by_cases hj : j < ps.length
  · rw [List.getElem?_map, List.getElem?_range hj, Option.map_some, List.getElem?_eq_getElem hj]
    simp only [gP]
    rw [List.getElem?_eq_getElem hj]
    rfl
  · rw [List.getElem?_eq_none (by simp; omega), List.getElem?_eq_none (by omega)]
theorem gP_mem {ps : List (Int × Int)} {i : Nat} (h : i < ps.length) : gP ps i ∈ ps := by
  simp only [gP]
  rw [List.getElem?_eq_getElem h]
  exact List.getElem_mem h
theorem gP_get {ps : List (Int × Int)} {i : Nat} (h : i < ps.length) : (ps.map ptD)[i]? = some (ptD (gP ps i)) := by
  rw [List.getElem?_map]
  simp only [gP]
  rw [List.getElem?_eq_getElem h]
  rfl
def mirP (ps : List (Int × Int)) (a s : Nat) (j : Nat) : Int × Int := addP (gP ps j) (rot s (mirr (gP ps (backI ps.length a j))))
theorem mir_sum {ps : List (Int × Int)} {a s : Nat} (ha : a < ps.length) (h : sumP ps = (0, 0)) : sumP ((List.range ps.length).map (mirP ps a s)) = (0, 0) := by
  have e : (mirP ps a s) = fun j => addP (gP ps j) (rot s (mirr (gP ps (backI ps.length a j)))) := rfl
  rw [e, sumP_add, all_list, h]
  have : ((List.range ps.length).map fun j => rot s (mirr (gP ps (backI ps.length a j)))) = (((List.range ps.length).map fun j => gP ps (backI ps.length a j)).map mirr).map (rot s) := by
    rw [List.map_map, List.map_map]; rfl
  rw [this, sumP_rot, sumP_mirr, back_sum ps a ha, h]
  simp only [mirr, Int.sub_self]
  rw [rot_zero]
  rfl
def mi_1 : IS := .asgs [4, 5, 6] (.cons (.cal "_law_draw" (.cons (.var 0) (.cons (.bi "len" (.cons (.var 1) .nil)) .nil))) (.cons (.cal "_law_draw" (.cons (.var 0) (.cons (.cst (.int 6)) .nil))) (.cons (.bi "len" (.cons (.var 1) .nil)) .nil)))
def mi_2 : IS := .asg (.nm 2) (.lst .nil)
def mi_3b1 : IS := .asg (.tup (.cons (.nm 8) (.cons (.nm 9) .nil))) (.idx (.var 1) (.bin .Sub (.var 4) (.var 3)))
def mi_3b2 : IS := .asg (.nm 7) (.cal "_law_sixths" (.cons (.tup (.cons (.bin .Sub (.var 8) (.var 9)) (.cons (.bin .Sub (.cst (.int 0)) (.var 9)) .nil))) (.cons (.var 5) .nil)))
def mi_3b3 : IS := .app 2 (.tup (.cons (.bin .Add (.idx (.idx (.var 1) (.var 3)) (.cst (.int 0))) (.idx (.var 7) (.cst (.int 0)))) (.cons (.bin .Add (.idx (.idx (.var 1) (.var 3)) (.cst (.int 1))) (.idx (.var 7) (.cst (.int 1)))) .nil)))
def mi_3b : ISs := (.cons mi_3b1 (.cons mi_3b2 (.cons mi_3b3 .nil)))
def mi_3 : IS := .fors (.nm 3) (.r1 (.var 6)) mi_3b
def mi_4 : IS := .ret (.var 2)
def mi_ : ISs := (.cons mi_1 (.cons mi_2 (.cons mi_3 (.cons mi_4 .nil))))
theorem mi__is : i__law_mirrored = mi_ := rfl
def be_1 : IS := .asg (.nm 2) (.cal "_law_pick" (.cons (.var 0) (.cons (.lc (.var 4) (.nm 4) [("_law_each", 4)] (.r2 (.cst (.int 1)) (.bin .Add (.bin .FloorDiv (.var 1) (.cst (.int 6))) (.cst (.int 1)))) (.so (.cmp .Eq (.bin .Mod (.bi "int" (.cons (.var 1) .nil)) (.bin .Mult (.cst (.int 6)) (.var 4))) (.cst (.int 0))))) .nil)))
def be_2 : IS := .ret (.lc (.cal "_law_sixths" (.cons (.tup (.cons (.cst (.int 1)) (.cons (.cst (.int 0)) .nil))) (.cons (.bin .Sub (.cst (.int 0)) (.bin .FloorDiv (.bin .Mult (.bin .Mult (.cst (.int 6)) (.var 2)) (.var 3)) (.var 1))) .nil))) (.nm 3) [("_law_s", 3)] (.r1 (.var 1)) .no)
def be_ : ISs := (.cons be_1 (.cons be_2 .nil))
theorem be__is : i__law_belted = be_ := rfl
theorem ixN_back {n a j : Nat} (ha : a < n) (hj : j < n) : ixN n ((a : Int) - j) = some (backI n a j) := by
  unfold ixN backI
  by_cases h : j ≤ a
  · rw [if_pos (by omega), if_pos (by omega), if_pos h]
    congr 1; omega
  · rw [if_neg (by omega), if_pos (by omega), if_neg h]
    congr 1; omega
theorem ix_list {ds : List D} {i : Int} {j : Nat} {d : D} (h : ixN ds.length i = some j) (h2 : ds[j]? = some d) : idxD (.list ds) (.int i) = some d := by simp only [idxD, atI, h, Option.bind_some, h2]
theorem mi_turn (N : Nat) {T : Tb} (h6 : T.fs "_law_sixths" = some fs__law_sixths) (u : Sl) {ps F : List (Int × Int)} {a s j : Nat} (hs : s < 6) (ha : a < ps.length) (hj : j < ps.length) (hF : F.length ≤ 1000) (y7 y8 y9 : Sl) : ∃ y7' y8' y9' : Sl,
    evSs N T [u, .v (.list (ps.map ptD)), .o false (F.map ptD), .v (.int j), .v (.int a), .v (.int s), .v (.int ps.length), y7, y8, y9] mi_3b = some (.nx [u, .v (.list (ps.map ptD)), .o false ((F ++ [mirP ps a s j]).map ptD), .v (.int j), .v (.int a), .v (.int s), .v (.int ps.length), y7', y8', y9']) := by
  have hb : backI ps.length a j < ps.length := by unfold backI; split <;> omega
  obtain ⟨q, hq⟩ : ∃ q, q = gP ps (backI ps.length a j) := ⟨_, rfl⟩
  obtain ⟨p, hp⟩ : ∃ p, p = gP ps j := ⟨_, rfl⟩
  have g1 : (ps.map ptD)[backI ps.length a j]? = some (ptD q) := by rw [hq]; exact gP_get hb
  have g2 : (ps.map ptD)[j]? = some (ptD p) := by rw [hp]; exact gP_get hj
  have x1 : idxD (.list (ps.map ptD)) (.int ((a : Int) - j)) = some (ptD q) := ix_list (by rw [List.length_map]; exact ixN_back ha hj) g1
  have x2 : idxD (.list (ps.map ptD)) (.int (j : Int)) = some (ptD p) := ix_list (by rw [List.length_map]; exact ixN_nn (by omega) (by omega)) g2
  obtain ⟨r, hr⟩ : ∃ r, r = rot s (mirr q) := ⟨_, rfl⟩
  have hm : mirP ps a s j = (p.1 + r.1, p.2 + r.2) := by rw [hr, hp, hq]; rfl
  have s1 : evS N T [u, .v (.list (ps.map ptD)), .o false (F.map ptD), .v (.int j), .v (.int a), .v (.int s), .v (.int ps.length), y7, y8, y9] mi_3b1 = some (.nx [u, .v (.list (ps.map ptD)), .o false (F.map ptD), .v (.int j), .v (.int a), .v (.int s), .v (.int ps.length), y7, .v (.int q.1), .v (.int q.2)]) :=
    asg_ok (o := .val (ptD q)) (idx_ok (x := .slot 1) (y := .val (.int ((a : Int) - j))) rfl (bin_ok (x := .slot 4) (y := .slot 3) rfl rfl rfl rfl rfl) rfl rfl x1) rfl
  have s2 : evS N T [u, .v (.list (ps.map ptD)), .o false (F.map ptD), .v (.int j), .v (.int a), .v (.int s), .v (.int ps.length), y7, .v (.int q.1), .v (.int q.2)] mi_3b2 = some (.nx [u, .v (.list (ps.map ptD)), .o false (F.map ptD), .v (.int j), .v (.int a), .v (.int s), .v (.int ps.length), .v (ptD r), .v (.int q.1), .v (.int q.2)]) := by
    refine asg_ok (o := .val (ptD r)) (calPn h6 (ops := [.val (ptD (mirr q)), .slot 5]) (ee_cons (tupK2 (x := .val (.int (q.1 - q.2))) (y := .val (.int (0 - q.2))) (bin_ok (x := .slot 8) (y := .slot 9) rfl rfl rfl rfl rfl) (bin_ok (x := .val (.int 0)) (y := .slot 9) rfl rfl rfl rfl rfl) rfl) rfl) rfl (ds := [ptD (mirr q), .int s]) rfl rfl ?_) rfl
    rw [v_sixths, hr]
    have : ((s : Int) % 6).toNat = s := by omega
    rw [this]
  have c : ∀ (i : Int) (v w : Int), idxD (ptD p) (.int i) = some (.int v) → idxD (ptD r) (.int i) = some (.int w) → evE T [u, .v (.list (ps.map ptD)), .o false (F.map ptD), .v (.int j), .v (.int a), .v (.int s), .v (.int ps.length), .v (ptD r), .v (.int q.1), .v (.int q.2)] (.bin .Add (.idx (.idx (.var 1) (.var 3)) (.cst (.int i))) (.idx (.var 7) (.cst (.int i)))) = some (.val (.int (v + w)), [u, .v (.list (ps.map ptD)), .o false (F.map ptD), .v (.int j), .v (.int a), .v (.int s), .v (.int ps.length), .v (ptD r), .v (.int q.1), .v (.int q.2)]) := fun i v w h1 h2 =>
    bin_ok (x := .val (.int v)) (y := .val (.int w)) (idx_ok (x := .val (ptD p)) (y := .val (.int i)) (idx_ok (x := .slot 1) (y := .slot 3) rfl rfl rfl rfl x2) rfl rfl rfl h1) (idx_ok (x := .slot 7) (y := .val (.int i)) rfl rfl rfl rfl h2) rfl rfl rfl
  have s3 : evS N T [u, .v (.list (ps.map ptD)), .o false (F.map ptD), .v (.int j), .v (.int a), .v (.int s), .v (.int ps.length), .v (ptD r), .v (.int q.1), .v (.int q.2)] mi_3b3 = some (.nx [u, .v (.list (ps.map ptD)), .o false ((F ++ [mirP ps a s j]).map ptD), .v (.int j), .v (.int a), .v (.int s), .v (.int ps.length), .v (ptD r), .v (.int q.1), .v (.int q.2)]) := by
    have := app_ok (n := N) (T := T) (i := 2) (mt := false) (mt0 := false) (ds := F.map ptD) (ds0 := F.map ptD) (ρ := [u, .v (.list (ps.map ptD)), .o false (F.map ptD), .v (.int j), .v (.int a), .v (.int s), .v (.int ps.length), .v (ptD r), .v (.int q.1), .v (.int q.2)]) (o := .val (ptD (p.1 + r.1, p.2 + r.2))) (d := ptD (p.1 + r.1, p.2 + r.2)) rfl (tupK2 (c 0 _ _ rfl rfl) (c 1 _ _ rfl rfl) rfl) rfl rfl (by rw [List.length_map]; exact hF)
    rw [hm, List.map_append]
    exact this
  exact ⟨_, _, _, ss_nx s1 (ss_nx s2 (ss_nx s3 rfl))⟩
theorem t_drawM : (tabT tb__law_belted kt0 gl0).fs "_law_draw" = some fs__law_draw := rfl
theorem t_sixM : (tabT tb__law_belted kt0 gl0).fs "_law_sixths" = some fs__law_sixths := rfl
theorem v_mirrored {l : List D} (w : Urn l) {k : Nat} (hk : 2 ≤ k) (hk2 : k ≤ 60) {ps : List (Int × Int)} (hp : Ps k 300 ps) : ∃ (qs : List (Int × Int)) (l' : List D), f__law_mirrored l [.list (ps.map ptD)] = some (.list (qs.map ptD), l') ∧ Urn l' ∧ Ps k 2000 qs := by
  have h1 := t_drawM
  have h2 := t_sixM
  unfold f__law_mirrored
  rw [mi__is]
  generalize (tabT tb__law_belted kt0 gl0) = T at h1 h2
  generalize 100000 = N
  have hl := hp.len
  obtain ⟨a', l1, e1, w1, a0, a1⟩ := v_draw w (k := (ps.length : Int)) (by omega) (by omega)
  obtain ⟨s', l2, e2, w2, s0, s1⟩ := v_draw w1 (k := 6) (by decide) (by decide)
  obtain ⟨a, rfl⟩ : ∃ a : Nat, a' = a := ⟨a'.toNat, by omega⟩
  obtain ⟨s, rfl⟩ : ∃ s : Nat, s' = s := ⟨s'.toNat, by omega⟩
  have hln : ((ps.map ptD).length : Int) = ps.length := by rw [List.length_map]
  have q1 : evS N T [.o true l, .v (.list (ps.map ptD)), .u, .u, .u, .u, .u, .u, .u, .u] mi_1 = some (.nx [.o true l2, .v (.list (ps.map ptD)), .u, .u, .v (.int a), .v (.int s), .v (.int ps.length), .u, .u, .u]) := by
    have f1 : evE T [.o true l, .v (.list (ps.map ptD)), .u, .u, .u, .u, .u, .u, .u, .u] (.cal "_law_draw" (.cons (.var 0) (.cons (.bi "len" (.cons (.var 1) .nil)) .nil))) = some (.val (.int a), [.o true l1, .v (.list (ps.map ptD)), .u, .u, .u, .u, .u, .u, .u, .u]) :=
      calW h1 (r := [.val (.int (ps.map ptD).length)]) (ds := [.int (ps.map ptD).length]) rfl rfl rfl (by rw [hln]; exact e1)
    have f2 : evE T [.o true l1, .v (.list (ps.map ptD)), .u, .u, .u, .u, .u, .u, .u, .u] (.cal "_law_draw" (.cons (.var 0) (.cons (.cst (.int 6)) .nil))) = some (.val (.int s), [.o true l2, .v (.list (ps.map ptD)), .u, .u, .u, .u, .u, .u, .u, .u]) :=
      calW h1 (r := [.val (.int 6)]) rfl rfl rfl e2
    rw [← hln]
    exact asgs_ok (ee_cons f1 (ee_cons f2 (ee_cons (o := .val (.int (ps.map ptD).length)) rfl rfl))) rfl rfl
  obtain ⟨ρ', e, y3, y7, y8, y9, rfl⟩ := evFor_rng (f := fun x ρ1 => (bindT ρ1 (.nm 3) x).bind fun ρ2 => evSs N T ρ2 mi_3b) (n := ps.length)
    (Q := fun t ρ => ∃ y3 y7 y8 y9 : Sl, ρ = [.o true l2, .v (.list (ps.map ptD)), .o false (((List.range t).map (mirP ps a s)).map ptD), y3, .v (.int a), .v (.int s), .v (.int ps.length), y7, y8, y9])
    (ρ := [.o true l2, .v (.list (ps.map ptD)), .o false [], .u, .v (.int a), .v (.int s), .v (.int ps.length), .u, .u, .u]) (fun t ht ρ ⟨y3, y7, y8, y9, hρ⟩ => by
      subst hρ
      obtain ⟨z7, z8, z9, e⟩ := mi_turn N h2 (.o true l2) (ps := ps) (F := (List.range t).map (mirP ps a s)) (a := a) (s := s) (j := t) (by omega) (by omega) ht (by simp; omega) y7 y8 y9
      refine ⟨_, ?_, .v (.int t), z7, z8, z9, rfl⟩
      rw [bd_set _ 3 (by simp)]
      simp only [Option.bind_some, List.set_cons_succ, List.set_cons_zero]
      rw [List.range_succ, List.map_append]
      exact e) ⟨_, _, _, _, rfl⟩
  refine ⟨(List.range ps.length).map (mirP ps a s), l2, ?_, w2, ⟨by simp [hl], mir_sum (by omega) hp.sum, fun p hp' => ?_⟩⟩
  · exact runW_ok (ss_nx q1 (ss_nx (s := mi_2) rfl (ss_nx (for_ok (it_r1e (o := .slot 6) rfl rfl (ro_nat rfl (by omega))) e) (ss_rt (ret_ok (o := .slot 2) rfl rfl)))))
  · obtain ⟨j, hj, rfl⟩ := List.mem_map.mp hp'
    have hj := List.mem_range.mp hj
    have hb : backI ps.length a j < ps.length := by unfold backI; split <;> omega
    obtain ⟨b1, b2⟩ := hp.bd _ (gP_mem hj)
    obtain ⟨c1, c2⟩ := hp.bd _ (gP_mem hb)
    have hm : PtB 600 (mirr (gP ps (backI ps.length a j))) := ⟨by simp only [mirr]; omega, by simp only [mirr]; omega⟩
    obtain ⟨d1, d2⟩ := rot_bd (r := s) (by omega) hm
    exact ⟨by simp only [mirP, addP]; omega, by simp only [mirP, addP]; omega⟩
end Ev

set_option maxHeartbeats 1000000
namespace Ev
open PySem L2
def belR (k pr j : Nat) : Nat := ((0 - (6 * (pr : Int) * j) / k) % 6).toNat
def belP (k pr j : Nat) : Int × Int := rot (belR k pr j) (1, 0)
theorem bel_B : ((List.range 61).all fun k => (List.range 11).all fun pr => pr == 0 || k == 0 || k % (6 * pr) != 0 || sumP ((List.range k).map (belP k pr)) == (0, 0)) = true := by decide +kernel
theorem bel_sum {k pr : Nat} (hk0 : k ≠ 0) (hk : k ≤ 60) (h1 : 1 ≤ pr) (h : k % (6 * pr) = 0) : sumP ((List.range k).map (belP k pr)) = (0, 0) := by
  have hp : pr ≤ 10 := by
    have := Nat.le_of_dvd (by omega) (Nat.dvd_of_mod_eq_zero h)
    omega
  have := List.all_eq_true.mp (List.all_eq_true.mp bel_B k (List.mem_range.mpr (by omega))) pr (List.mem_range.mpr (by omega))
  simpa [show pr ≠ 0 by omega, hk0, h] using this
theorem it_r2e {T : Tb} {ρ ρ1 ρ2 : En} {a b : IE} {x y : Op} {i j : Int} (h1 : evE T ρ a = some (x, ρ1)) (h2 : evE T ρ1 b = some (y, ρ2)) (h3 : viewOp ρ2 x = some (.int i)) (h4 : viewOp ρ2 y = some (.int j)) (r1 : rngOk i = true) (r2 : rngOk j = true) : evIt T ρ (.r2 a b) = some (rngD i (j - i).toNat, ρ2) := by
  simp only [evIt, h1, h2, Option.bind_some, h3, h4, r1, r2, Bool.and_self, if_true]
theorem be_e1 (N : Nat) {T : Tb} (hp : T.fs "_law_pick" = some fs__law_pick) {l : List D} (w : Urn l) {k : Nat} (hk : 2 ≤ k) (hk2 : k ≤ 60) (h6 : k % 6 = 0) : ∃ (pr : Nat) (l' : List D), Urn l' ∧ 1 ≤ pr ∧ k % (6 * pr) = 0 ∧
    evS N T [.o true l, .v (.int k), .u, .u, .u] be_1 = some (.nx [.o true l', .v (.int k), .v (.int pr), .u, .u]) := by
  have e1 := lcF (T := T) (ρ := [.o true l, .v (.int k), .u, .u, .u]) (ρ1 := [.o true l, .v (.int k), .u, .u, .u]) (it := .r2 (.cst (.int 1)) (.bin .Add (.bin .FloorDiv (.var 1) (.cst (.int 6))) (.cst (.int 1)))) (c := .cmp .Eq (.bin .Mod (.bi "int" (.cons (.var 1) .nil)) (.bin .Mult (.cst (.int 6)) (.var 4))) (.cst (.int 0))) (i := 4) (nm := "_law_each") (lo := 1) (n := ((k : Int) / 6 + 1 - 1).toNat) (fun x : Int => decide ((k : Int) % (6 * x) = 0)) (by
      have r1 : rngOk 1 = true := by decide
      have r2 : rngOk ((k : Int) / 6 + 1) = true := ro_nat (k := k / 6 + 1) (by have := (div_nat k 6).1; omega) (by omega)
      exact it_r2e (x := .val (.int 1)) (y := .val (.int ((k : Int) / 6 + 1))) rfl (bin_ok (x := .val (.int ((k : Int) / 6))) (y := .val (.int 1)) (bin_ok (x := .slot 1) (y := .val (.int 6)) rfl rfl rfl rfl (bi_div (dv_ok (m := 6) (by omega) (by omega)))) rfl rfl rfl rfl) rfl rfl r1 r2) rfl (fun x h1 h2 => by
      have : 0 < 6 * x := by omega
      have m : mulOk 6 x = true := mulOk_l (by omega) (by omega)
      simp [evT, evE, evEs, viewL, viewOp, biD, ofC, binD, binI, this, m, cmp_eq]) (by omega)
  have ne : (((List.range ((k : Int) / 6 + 1 - 1).toNat).map fun t => 1 + ((t : Nat) : Int)).filter fun x : Int => decide ((k : Int) % (6 * x) = 0)) ≠ [] :=
    List.ne_nil_of_mem (a := (1 : Int)) (mem_fil.mpr ⟨⟨by omega, by omega⟩, by rw [decide_eq_true_eq]; omega⟩)
  obtain ⟨x, l', e2, w', hx⟩ := v_pickI w ne (fil_len (by omega))
  obtain ⟨⟨h1, h2⟩, h3⟩ := mem_fil.mp hx
  have h3 : (k : Int) % (6 * x) = 0 := of_decide_eq_true h3
  obtain ⟨m, rfl⟩ : ∃ m : Nat, x = m := ⟨x.toNat, by omega⟩
  have h3' : k % (6 * m) = 0 := by
    have h4 : (k : Int) % (6 * (m : Int)) = ((k % (6 * m) : Nat) : Int) := by push_cast; rfl
    rw [h4] at h3
    exact Int.ofNat.inj h3
  exact ⟨m, l', w', by omega, h3', asg_ok (calW hp (ee_cons e1 rfl) rfl rfl e2) rfl⟩
theorem be_pt {T : Tb} (h6 : T.fs "_law_sixths" = some fs__law_sixths) (u : Sl) {k pr j : Nat} (hk : 1 ≤ k) (hk2 : k ≤ 60) (hp : pr ≤ 60) (hj : j ≤ 60) (e : Sl) : evE T [u, .v (.int k), .v (.int pr), .v (.int j), e] (.cal "_law_sixths" (.cons (.tup (.cons (.cst (.int 1)) (.cons (.cst (.int 0)) .nil))) (.cons (.bin .Sub (.cst (.int 0)) (.bin .FloorDiv (.bin .Mult (.bin .Mult (.cst (.int 6)) (.var 2)) (.var 3)) (.var 1))) .nil))) = some (.val (ptD (belP k pr j)), [u, .v (.int k), .v (.int pr), .v (.int j), e]) := by
  have m1 : mulOk 6 (pr : Int) = true := mulOk_l (by omega) (by omega)
  have m2 : mulOk (6 * (pr : Int)) j = true := mulOk_r (by omega) (by omega)
  refine calPn h6 (ops := [.val (ptD (1, 0)), .val (.int (0 - (6 * (pr : Int) * j) / k))]) (ee_cons (tupK2 (x := .val (.int 1)) (y := .val (.int 0)) rfl rfl rfl) (ee_cons (bin_ok (x := .val (.int 0)) (y := .val (.int ((6 * (pr : Int) * j) / k))) rfl (bin_ok (x := .val (.int (6 * (pr : Int) * j))) (y := .slot 1) (bin_ok (x := .val (.int (6 * (pr : Int)))) (y := .slot 3) (bin_ok (x := .val (.int 6)) (y := .slot 2) rfl rfl rfl rfl (bi_mul m1)) rfl rfl rfl (bi_mul m2)) rfl rfl rfl (bi_div (dv_ok hk (by omega)))) rfl rfl rfl) rfl)) rfl (ds := [ptD (1, 0), .int (0 - (6 * (pr : Int) * j) / k)]) rfl rfl ?_
  rw [v_sixths]
  rfl
theorem t_pickB : (tabT tb__law_spread kt0 gl0).fs "_law_pick" = some fs__law_pick := rfl
theorem t_sixB : (tabT tb__law_spread kt0 gl0).fs "_law_sixths" = some fs__law_sixths := rfl
theorem v_belted {l : List D} (w : Urn l) {k : Nat} (hk : 2 ≤ k) (hk2 : k ≤ 60) (h6 : k % 6 = 0) : ∃ (qs : List (Int × Int)) (l' : List D), f__law_belted l [.int k] = some (.list (qs.map ptD), l') ∧ Urn l' ∧ Ps k 2000 qs := by
  have h1 := t_pickB
  have h2 := t_sixB
  unfold f__law_belted
  rw [be__is]
  generalize (tabT tb__law_spread kt0 gl0) = T at h1 h2
  generalize 100000 = N
  obtain ⟨pr, l1, w1, p1, p2, e1⟩ := be_e1 N h1 w hk hk2 h6
  have hp : pr ≤ 60 := by
    have := Nat.le_of_dvd (by omega) (Nat.dvd_of_mod_eq_zero p2)
    omega
  have lc := lcM (T := T) (ρ := [.o true l1, .v (.int k), .v (.int pr), .u, .u]) (ρ1 := [.o true l1, .v (.int k), .v (.int pr), .u, .u]) (own := [("_law_s", 3)]) (it := .r1 (.var 1)) (e := .cal "_law_sixths" (.cons (.tup (.cons (.cst (.int 1)) (.cons (.cst (.int 0)) .nil))) (.cons (.bin .Sub (.cst (.int 0)) (.bin .FloorDiv (.bin .Mult (.bin .Mult (.cst (.int 6)) (.var 2)) (.var 3)) (.var 1))) .nil))) (t := .nm 3) (fun j : Nat => PyData.int (j : Int)) (fun j => ptD (belP k pr j)) (l := List.range k) (by
    rw [← rngD_map]
    exact it_r1e (o := .slot 1) rfl rfl (ro_nat rfl (by omega))) (fun j hj => ⟨_, _, rfl, be_pt h2 (.o true l1) (by omega) hk2 hp (by have := List.mem_range.mp hj; omega) .u, rfl, rfl⟩) (fun i hi => .inl (by
      have : i = 3 := by simpa using hi
      subst this; rfl)) (lenOk_le (by simp; omega))
  refine ⟨(List.range k).map (belP k pr), l1, ?_, w1, ⟨by simp, bel_sum (by omega) hk2 p1 p2, fun p hp' => ?_⟩⟩
  · exact runW_ok (ss_nx e1 (ss_rt (ret_ok lc (by rw [List.map_map]; rfl))))
  · obtain ⟨j, _, rfl⟩ := List.mem_map.mp hp'
    have : PtB 1 (1, 0) := ⟨by decide, by decide⟩
    have hr : belR k pr j < 6 := by
      unfold belR
      have := Int.emod_lt_of_pos (0 - (6 * (pr : Int) * j) / k) (show (0 : Int) < 6 by decide)
      have := Int.emod_nonneg (0 - (6 * (pr : Int) * j) / k) (show (6 : Int) ≠ 0 by decide)
      omega
    exact (rot_bd hr this).mono (by decide)
end Ev

set_option maxHeartbeats 1000000
namespace Ev
open PySem L2
theorem lcW3 {T : Tb} {ρ ρ0 ρ1 ρ2 ρ3 : En} {it : IT} {e : IE} {t : Tg} {own : List (Str × Nat)} {d0 d1 d2 : D} (hit : evIt T ρ it = some ([.int 0, .int 1, .int 2], ρ0)) (h0 : (bindT (wipeE ρ0 (own.map (·.2))) t (.int 0)).bind (Bod T .no e) = some (some d0, ρ1)) (h1 : (bindT (wipeE ρ1 (own.map (·.2))) t (.int 1)).bind (Bod T .no e) = some (some d1, ρ2)) (h2 : (bindT (wipeE ρ2 (own.map (·.2))) t (.int 2)).bind (Bod T .no e) = some (some d2, ρ3)) :
    evE T ρ (.lc e t own it .no) = some (.new [d0, d1, d2], backE ρ0 ρ3 (own.map (·.2))) := by
  delta Bod at h0 h1 h2
  simp only [evE, hit, Option.bind_some, evComp, h0, h1, h2, List.nil_append, List.cons_append, List.length_cons, List.length_nil]
  rw [show lenOk (0 + 1 + 1 + 1) = true from lenOk3]
  rfl
theorem bod_no {T : Tb} {ρ ρ1 ρ2 : En} {e : IE} {o : Op} {d : D} (h : evE T ρ e = some (o, ρ1)) (hk : keepOp ρ1 o = some (d, ρ2)) : Bod T .no e ρ = some (some d, ρ2) := body_no h hk
theorem calW2 {n : Nat} {T : Tb} {f : List D → List D → Option (D × List D)} {l0 l l' : List D} {ρ : En} {x : Str} {es : IEs} {r : List Op} {ds : List D} {d : D} (hs : T.fs x = some (.w n f)) (he : evEs T (.o true l0 :: ρ) es = some (r, .o true l :: ρ)) (hn : r.length + 1 = n) (hk : keepL (.o true l :: ρ) r = some (ds, .o true l :: ρ)) (h : f l ds = some (d, l')) :
    evE T (.o true l0 :: ρ) (.cal x (.cons (.var 0) es)) = some (.val d, .o true l' :: ρ) :=
  cal_ok (ops := .slot 0 :: r) (ρ1 := .o true l :: ρ) (by simp only [evEs, evE, List.getElem?_cons_zero, Option.bind_some, he, Option.map_some]) hs (callW_v hn hk h)
/-! ### rows turned -/
def gI (A : List Int) (i : Nat) : Int := A[i]?.getD 0
theorem gI_get {A : List Int} {i : Nat} (h : i < A.length) : (A.map PyData.int)[i]? = some (.int (gI A i)) := by
  rw [List.getElem?_map]
  simp only [gI]
  rw [List.getElem?_eq_getElem h]
  rfl
theorem gI_mem {A : List Int} {i : Nat} (h : i < A.length) : gI A i ∈ A := by
  simp only [gI]
  rw [List.getElem?_eq_getElem h]
  exact List.getElem_mem h
theorem turn_list (A : List Int) (t : Nat) (ht : t < A.length) : (List.range A.length).map (fun s => gI A (backI A.length s t)) = A.drop (A.length - t) ++ A.take (A.length - t) := by
  apply List.ext_getElem?
  intro j
  by_cases hj : j < A.length
  · rw [List.getElem?_map, List.getElem?_range hj, Option.map_some]
    have hl : (A.drop (A.length - t)).length = t := by rw [List.length_drop]; omega
    by_cases h : j < t
    · rw [List.getElem?_append_left (by omega), List.getElem?_drop]
      have hh : A.length - t + j < A.length := by omega
      simp only [backI, if_neg (show ¬ t ≤ j by omega), gI]
      rw [show A.length + j - t = A.length - t + j by omega, List.getElem?_eq_getElem hh]
      rfl
    · rw [List.getElem?_append_right (by omega), hl, List.getElem?_take, if_pos (by omega)]
      have hh : j - t < A.length := by omega
      simp only [backI, if_pos (show t ≤ j by omega), gI]
      rw [List.getElem?_eq_getElem hh]
      rfl
  · rw [List.getElem?_eq_none (by simp; omega), List.getElem?_eq_none (by simp; omega)]
theorem turn_sum (A : List Int) (t : Nat) (ht : t < A.length) : ((List.range A.length).map fun s => gI A (backI A.length s t)).sum = A.sum := by
  rw [turn_list A t ht, List.sum_append, Int.add_comm, ← List.sum_append, List.take_append_drop]
theorem mul_sum (c : Int) : ∀ l : List Int, (l.map fun x => c * x).sum = c * l.sum
  | [] => by simp
  | x :: l => by rw [List.map_cons, List.sum_cons, List.sum_cons, mul_sum c l, Int.mul_add]
def trnI (g : Int) (A : List Int) (t : Nat) : List Int := (List.range A.length).map fun s => g * gI A (backI A.length s t)
theorem trn_ph {k n t : Nat} {g : Int} {A : List Int} (h : Ph k n A) (ht : t < k) (hg : g = 1 ∨ g = -1) : Ph k n (trnI g A t) := by
  refine ⟨by simp [trnI, h.len], ?_, fun x hx => ?_⟩
  · have : trnI g A t = ((List.range A.length).map fun s => gI A (backI A.length s t)).map fun x => g * x := by simp only [trnI, List.map_map]; rfl
    rw [this, mul_sum, turn_sum A t (by rw [h.len]; exact ht), h.sum, Int.mul_zero]
  · obtain ⟨s, hs, rfl⟩ := List.mem_map.mp hx
    have hs := List.mem_range.mp hs
    have hb : backI A.length s t < A.length := by
      have := h.len
      unfold backI; split <;> omega
    have := h.bd _ (gI_mem hb)
    unfold Bd at *
    rcases hg with rfl | rfl <;> omega
def th_1 : IS := .asg (.nm 2) (.cal "_law_draw" (.cons (.var 0) (.cons (.cst (.int 12)) .nil)))
def th_2t1 : IS := .asg (.nm 3) (.lc (.cal "_law_wired" (.cons (.var 0) (.cons (.var 1) (.cons (.cst (.int 0)) (.cons (.cst (.int 3)) .nil))))) (.nm 10) [("_law_phase", 10)] (.r1 (.cst (.int 3))) .no)
def th_2t2 : IS := .ret (.bi "tuple" (.cons (.lc (.bi "tuple" (.cons (.var 6) .nil)) (.nm 6) [("_law_row", 6)] (.ex (.var 3)) .no) .nil))
def th_2t : ISs := (.cons th_2t1 (.cons th_2t2 .nil))
def th_2 : IS := .ifs (.cmp .Lt (.var 2) (.cst (.int 3))) th_2t .nil
def th_3t1 : IS := .asgs [6, 8, 9] (.cons (.cal "_law_wired" (.cons (.var 0) (.cons (.var 1) (.cons (.cst (.int 1)) (.cons (.cst (.int 3)) .nil))))) (.cons (.cal "_law_draw" (.cons (.var 0) (.cons (.var 1) .nil))) (.cons (.cal "_law_pick" (.cons (.var 0) (.cons (.lst (.cons (.cst (.int 1)) (.cons (.neg (.cst (.int 1))) .nil))) .nil))) .nil)))
def th_3t2 : IS := .asg (.nm 4) (.lc (.bin .Mult (.var 9) (.idx (.var 6) (.bin .Sub (.var 11) (.var 8)))) (.nm 11) [("_law_s", 11)] (.r1 (.var 1)) .no)
def th_3t3 : IS := .ret (.tup (.cons (.bi "tuple" (.cons (.var 6) .nil)) (.cons (.bi "tuple" (.cons (.var 4) .nil)) (.cons (.bi "tuple" (.cons (.lc (.bin .Mult (.var 9) (.idx (.var 4) (.bin .Sub (.var 11) (.var 8)))) (.nm 11) [("_law_s", 11)] (.r1 (.var 1)) .no) .nil)) .nil))))
def th_3t : ISs := (.cons th_3t1 (.cons th_3t2 (.cons th_3t3 .nil)))
def th_3 : IS := .ifs (.cmp .Lt (.var 2) (.cst (.int 5))) th_3t .nil
def th_4t1 : IS := .asg (.nm 5) (.cal "_law_repeated" (.cons (.var 0) (.cons (.var 1) .nil)))
def th_4t2 : IS := .ret (.cal "_law_spread" (.cons (.var 0) (.cons (.ite (.cmp .Lt (.var 2) (.cst (.int 7))) (.var 5) (.cal "_law_mirrored" (.cons (.var 0) (.cons (.var 5) .nil)))) .nil)))
def th_4t : ISs := (.cons th_4t1 (.cons th_4t2 .nil))
def th_4 : IS := .ifs (.cmp .Lt (.var 2) (.cst (.int 9))) th_4t .nil
def th_5t1 : IS := .ret (.cal "_law_spread" (.cons (.var 0) (.cons (.cal "_law_belted" (.cons (.var 0) (.cons (.var 1) .nil))) .nil)))
def th_5t : ISs := (.cons th_5t1 .nil)
def th_5 : IS := .ifs (.and (.cmp .Eq (.var 2) (.cst (.int 9))) (.one (.cmp .Eq (.bin .Mod (.bi "int" (.cons (.var 1) .nil)) (.cst (.int 6))) (.cst (.int 0))))) th_5t .nil
def th_6 : IS := .asgs [6, 7] (.cons (.bi "tuple" (.cons (.cal "_law_wired" (.cons (.var 0) (.cons (.var 1) (.cons (.cst (.int 1)) (.cons (.cst (.int 2)) .nil))))) .nil)) (.cons (.bi "tuple" (.cons (.bin .Mult (.lst (.cons (.cst (.int 0)) .nil)) (.var 1)) .nil)) .nil))
def th_7 : IS := .ret (.ite (.cmp .Eq (.var 2) (.cst (.int 11))) (.tup (.cons (.var 6) (.cons (.var 6) (.cons (.var 6) .nil)))) (.tup (.cons (.var 7) (.cons (.var 6) (.cons (.var 7) .nil)))))
def th_ : ISs := (.cons th_1 (.cons th_2 (.cons th_3 (.cons th_4 (.cons th_5 (.cons th_6 (.cons th_7 .nil)))))))
theorem th__is : i__law_three = th_ := rfl
theorem t_drawH : (tabT tb__law_mirrored kt0 gl0).fs "_law_draw" = some fs__law_draw := rfl
theorem t_pickH : (tabT tb__law_mirrored kt0 gl0).fs "_law_pick" = some fs__law_pick := rfl
theorem t_wiredH : (tabT tb__law_mirrored kt0 gl0).fs "_law_wired" = some fs__law_wired := rfl
theorem t_repH : (tabT tb__law_mirrored kt0 gl0).fs "_law_repeated" = some fs__law_repeated := rfl
theorem t_spreadH : (tabT tb__law_mirrored kt0 gl0).fs "_law_spread" = some fs__law_spread := rfl
theorem t_mirH : (tabT tb__law_mirrored kt0 gl0).fs "_law_mirrored" = some fs__law_mirrored := rfl
theorem t_belH : (tabT tb__law_mirrored kt0 gl0).fs "_law_belted" = some fs__law_belted := rfl
def Three (k : Nat) (l : List D) (r : Option (D × List D)) : Prop := ∃ (A B C : List Int) (l' : List D), r = some (wD A B C, l') ∧ Urn l' ∧ Ph k 56 A ∧ Ph k 56 B ∧ Ph k 56 C
theorem r3 : rngOk 3 = true := by decide
theorem th_a (N : Nat) {T : Tb} (hw : T.fs "_law_wired" = some fs__law_wired) {l : List D} (w : Urn l) {k : Nat} (hk : 2 ≤ k) (hk2 : k ≤ 60) (way : Sl) : ∃ (A B C : List Int) (l' : List D) (r : En), Urn l' ∧ Ph k 54 A ∧ Ph k 54 B ∧ Ph k 54 C ∧
    evSs N T [.o true l, .v (.int k), way, .u, .u, .u, .u, .u, .u, .u, .u, .u] th_2t = some (.rt (wD A B C) (.o true l' :: r)) := by
  obtain ⟨A, l1, e1, w1, a1, a2, a3⟩ := v_wired w hk hk2 (lo := 0) (hi := 3) (by decide) (by decide) (by decide)
  obtain ⟨B, l2, e2, w2, b1, b2, b3⟩ := v_wired w1 hk hk2 (lo := 0) (hi := 3) (by decide) (by decide) (by decide)
  obtain ⟨C, l3, e3, w3, c1, c2, c3⟩ := v_wired w2 hk hk2 (lo := 0) (hi := 3) (by decide) (by decide) (by decide)
  have st : ∀ (l l' : List D) (R : List Int) (x s10 : Sl) (t : D), f__law_wired l [.int k, .int 0, .int 3] = some (.list (R.map .int), l') → (bindT (wipeE [.o true l, .v (.int k), way, .u, .u, .u, .u, .u, .u, .u, s10, .u] [10]) (.nm 10) t).bind (Bod T .no (.cal "_law_wired" (.cons (.var 0) (.cons (.var 1) (.cons (.cst (.int 0)) (.cons (.cst (.int 3)) .nil)))))) = some (some (.list (R.map .int)), [.o true l', .v (.int k), way, .u, .u, .u, .u, .u, .u, .u, .v t, .u]) := fun l l' R x s10 t h => by
    simp only [wipeE]
    rw [bd_set _ 10 (by simp)]
    simp only [Option.bind_some, List.set_cons_succ, List.set_cons_zero]
    exact bod_no (calW hw (r := [.slot 1, .val (.int 0), .val (.int 3)]) rfl rfl rfl h) rfl
  have q1 := lcW3 (T := T) (own := [("_law_phase", 10)]) (ρ := [.o true l, .v (.int k), way, .u, .u, .u, .u, .u, .u, .u, .u, .u]) (it := .r1 (.cst (.int 3))) (t := .nm 10) (it_r1e (o := .val (.int 3)) rfl rfl r3) (st _ _ A .u .u _ e1) (st _ _ B .u _ _ e2) (st _ _ C .u _ _ e3)
  have s1 : evS N T [.o true l, .v (.int k), way, .u, .u, .u, .u, .u, .u, .u, .u, .u] th_2t1 = some (.nx [.o true l3, .v (.int k), way, .o false ([A, B, C].map fun R => .list (R.map .int)), .u, .u, .u, .u, .u, .u, .u, .u]) := asg_ok q1 rfl
  have q2 := lcM (T := T) (own := [("_law_row", 6)]) (ρ := [.o true l3, .v (.int k), way, .o false ([A, B, C].map fun R => .list (R.map .int)), .u, .u, .u, .u, .u, .u, .u, .u]) (ρ1 := [.o true l3, .v (.int k), way, .v (.list ([A, B, C].map fun R => .list (R.map .int))), .u, .u, .u, .u, .u, .u, .u, .u]) (it := .ex (.var 3)) (e := .bi "tuple" (.cons (.var 6) .nil)) (t := .nm 6) (fun R : List Int => PyData.list (R.map .int)) tupI (l := [A, B, C]) (it_ex (o := .slot 3) rfl rfl) (fun R _ => ⟨[.o true l3, .v (.int k), way, .v (.list ([A, B, C].map fun R => .list (R.map .int))), .u, .u, .v (.list (R.map .int)), .u, .u, .u, .u, .u], .val (tupI R), rfl, bi_tuple (o := .slot 6) rfl rfl, rfl, rfl⟩) (fun i hi => .inl (by
      have : i = 6 := by simpa using hi
      subst this; rfl)) lenOk3
  exact ⟨A, B, C, l3, _, w3, ⟨a1, a2, a3⟩, ⟨b1, b2, b3⟩, ⟨c1, c2, c3⟩, ss_nx s1 (ss_rt (ret_ok (bi_tuple q2 rfl) rfl))⟩
theorem th_b (N : Nat) {T : Tb} (hw : T.fs "_law_wired" = some fs__law_wired) (hd : T.fs "_law_draw" = some fs__law_draw) (hp : T.fs "_law_pick" = some fs__law_pick) {l : List D} (w : Urn l) {k : Nat} (hk : 2 ≤ k) (hk2 : k ≤ 60) (way : Sl) : ∃ (A B C : List Int) (l' : List D) (r : En), Urn l' ∧ Ph k 54 A ∧ Ph k 54 B ∧ Ph k 54 C ∧
    evSs N T [.o true l, .v (.int k), way, .u, .u, .u, .u, .u, .u, .u, .u, .u] th_3t = some (.rt (wD A B C) (.o true l' :: r)) := by
  obtain ⟨A, l1, e1, w1, a1, a2, a3⟩ := v_wired w hk hk2 (lo := 1) (hi := 3) (by decide) (by decide) (by decide)
  obtain ⟨t', l2, e2, w2, t0, t1⟩ := v_draw w1 (k := (k : Int)) (by omega) (by omega)
  obtain ⟨t, rfl⟩ : ∃ t : Nat, t' = t := ⟨t'.toNat, by omega⟩
  obtain ⟨g, l3, e3, w3, hg⟩ := v_pickI w2 (L := [1, -1]) (by simp) (by decide)
  have hg : g = 1 ∨ g = -1 := by simpa using hg
  have pA : Ph k 54 A := ⟨a1, a2, a3⟩
  have pB := trn_ph (t := t) (g := g) pA (by omega) hg
  have pC := trn_ph (t := t) (g := g) pB (by omega) hg
  have s1 : evS N T [.o true l, .v (.int k), way, .u, .u, .u, .u, .u, .u, .u, .u, .u] th_3t1 = some (.nx [.o true l3, .v (.int k), way, .u, .u, .u, .v (.list (A.map .int)), .u, .v (.int t), .v (.int g), .u, .u]) :=
    asgs_ok (ee_cons (calW hw (r := [.slot 1, .val (.int 1), .val (.int 3)]) rfl rfl rfl e1) (ee_cons (calW hd (r := [.slot 1]) rfl rfl rfl e2) (ee_cons (calW hp (r := [.new [.int 1, .int (-1)]]) rfl rfl rfl e3) rfl))) rfl rfl
  have hm : ∀ x : Int, mulOk g x = true := fun x => mulOk_l (by omega) (by omega)
  have lc : ∀ (B : List Int) (x4 : Sl) (i : Nat) (z : Sl), B.length = k → ([.o true l3, .v (.int k), way, .u, x4, .u, .v (.list (A.map .int)), .u, .v (.int t), .v (.int g), .u, .u] : En)[i]? = some z → (z = .v (.list (B.map .int)) ∨ z = .o false (B.map .int)) → i < 10 → i ≠ 11 →
      evE T [.o true l3, .v (.int k), way, .u, x4, .u, .v (.list (A.map .int)), .u, .v (.int t), .v (.int g), .u, .u] (.lc (.bin .Mult (.var 9) (.idx (.var i) (.bin .Sub (.var 11) (.var 8)))) (.nm 11) [("_law_s", 11)] (.r1 (.var 1)) .no) = some (.new ((trnI g B t).map .int), [.o true l3, .v (.int k), way, .u, x4, .u, .v (.list (A.map .int)), .u, .v (.int t), .v (.int g), .u, .u]) := fun B x4 i z hB hz hz2 hi hi2 => by
    have := lcM (T := T) (own := [("_law_s", 11)]) (ρ := [.o true l3, .v (.int k), way, .u, x4, .u, .v (.list (A.map .int)), .u, .v (.int t), .v (.int g), .u, .u]) (ρ1 := [.o true l3, .v (.int k), way, .u, x4, .u, .v (.list (A.map .int)), .u, .v (.int t), .v (.int g), .u, .u]) (it := .r1 (.var 1)) (e := .bin .Mult (.var 9) (.idx (.var i) (.bin .Sub (.var 11) (.var 8)))) (t := .nm 11) (fun j : Nat => PyData.int (j : Int)) (fun s => .int (g * gI B (backI B.length s t))) (l := List.range k) (by
      rw [← rngD_map]
      exact it_r1e (o := .slot 1) rfl rfl (ro_nat rfl (by omega))) (fun s hs => ⟨[.o true l3, .v (.int k), way, .u, x4, .u, .v (.list (A.map .int)), .u, .v (.int t), .v (.int g), .u, .v (.int s)], .val (.int (g * gI B (backI B.length s t))), rfl, by
        have hs := List.mem_range.mp hs
        have hb : backI B.length s t < B.length := by unfold backI; split <;> omega
        have hz' : ([.o true l3, .v (.int k), way, .u, x4, .u, .v (.list (A.map .int)), .u, .v (.int t), .v (.int g), .u, .v (.int s)] : En)[i]? = some z := by
          have : ([.o true l3, .v (.int k), way, .u, x4, .u, .v (.list (A.map .int)), .u, .v (.int t), .v (.int g), .u, .v (.int s)] : En) = ([.o true l3, .v (.int k), way, .u, x4, .u, .v (.list (A.map .int)), .u, .v (.int t), .v (.int g), .u, .u] : En).set 11 (.v (.int s)) := rfl
          rw [this, List.getElem?_set_ne (Ne.symm hi2)]
          exact hz
        have hv : viewOp ([.o true l3, .v (.int k), way, .u, x4, .u, .v (.list (A.map .int)), .u, .v (.int t), .v (.int g), .u, .v (.int s)] : En) (.slot i) = some (.list (B.map .int)) := by
          simp only [viewOp, hz']
          rcases hz2 with rfl | rfl <;> rfl
        have he : evE T ([.o true l3, .v (.int k), way, .u, x4, .u, .v (.list (A.map .int)), .u, .v (.int t), .v (.int g), .u, .v (.int s)] : En) (.var i) = some (.slot i, [.o true l3, .v (.int k), way, .u, x4, .u, .v (.list (A.map .int)), .u, .v (.int t), .v (.int g), .u, .v (.int s)]) := by
          simp only [evE, hz']
          rcases hz2 with rfl | rfl <;> rfl
        exact bin_ok (x := .slot 9) (y := .val (.int (gI B (backI B.length s t)))) rfl (idx_ok (x := .slot i) (y := .val (.int ((s : Int) - t))) he (bin_ok (x := .slot 11) (y := .slot 8) rfl rfl rfl rfl rfl) hv rfl (ix_list (by rw [List.length_map]; exact ixN_back (by omega) (by omega)) (gI_get hb))) rfl rfl (bi_mul (hm _)), rfl, rfl⟩) (fun i hi => .inl (by
        have : i = 11 := by simpa using hi
        subst this; rfl)) (lenOk_le (by simp; omega))
    rw [trnI, List.map_map, hB]
    rw [hB] at this
    exact this
  have s2 : evS N T [.o true l3, .v (.int k), way, .u, .u, .u, .v (.list (A.map .int)), .u, .v (.int t), .v (.int g), .u, .u] th_3t2 = some (.nx [.o true l3, .v (.int k), way, .u, .o false ((trnI g A t).map .int), .u, .v (.list (A.map .int)), .u, .v (.int t), .v (.int g), .u, .u]) :=
    asg_ok (lc A .u 6 _ a1 rfl (.inl rfl) (by decide) (by decide)) rfl
  refine ⟨A, trnI g A t, trnI g (trnI g A t) t, l3, _, w3, pA, pB, pC, ss_nx s1 (ss_nx s2 (ss_rt (ret_ok (o := .val (wD A (trnI g A t) (trnI g (trnI g A t) t))) (tup3 (x := .val (tupI A)) (y := .val (tupI (trnI g A t))) (z := .val (tupI (trnI g (trnI g A t) t))) (bi_tuple (o := .slot 6) rfl rfl) (bi_tuple (o := .slot 4) rfl rfl) (bi_tuple (lc (trnI g A t) _ 4 _ pB.len rfl (.inr rfl) (by decide) (by decide)) rfl) rfl) rfl)))⟩
end Ev

set_option maxHeartbeats 1000000
namespace Ev
open PySem L2
theorem cmp_lt (i j : Int) : cmpD .Lt (.int i) (.int j) = some (decide (i < j)) := by
  simp [cmpD, cmpI]
theorem zer_ph (k n : Nat) : Ph k n (List.replicate k 0) := ⟨by simp, by simp, fun x hx => by
  have := List.eq_of_mem_replicate hx
  subst this
  exact Nat.pos_of_ne_zero (by simp)⟩
theorem th_c (N : Nat) {T : Tb} (hr : T.fs "_law_repeated" = some fs__law_repeated) (hs : T.fs "_law_spread" = some fs__law_spread) (hm : T.fs "_law_mirrored" = some fs__law_mirrored) {l : List D} (w : Urn l) {k : Nat} (hk : 2 ≤ k) (hk2 : k ≤ 60) (way : Int) : ∃ (A B C : List Int) (l' : List D) (r : En), Urn l' ∧ Ph k 55 A ∧ Ph k 55 B ∧ Ph k 55 C ∧
    evSs N T [.o true l, .v (.int k), .v (.int way), .u, .u, .u, .u, .u, .u, .u, .u, .u] th_4t = some (.rt (wD A B C) (.o true l' :: r)) := by
  obtain ⟨ps, l1, e1, w1, hp⟩ := v_repeated w hk hk2
  have s1 : evS N T [.o true l, .v (.int k), .v (.int way), .u, .u, .u, .u, .u, .u, .u, .u, .u] th_4t1 = some (.nx [.o true l1, .v (.int k), .v (.int way), .u, .u, .v (.list (ps.map ptD)), .u, .u, .u, .u, .u, .u]) := asg_ok (calW hr (r := [.slot 1]) rfl rfl rfl e1) rfl
  by_cases h : way < 7
  · obtain ⟨A, B, C, l2, e2, w2, pA, pB, pC⟩ := v_spread w1 hk hk2 (by decide) hp
    have ei : evE T [.o true l1, .v (.int k), .v (.int way), .u, .u, .v (.list (ps.map ptD)), .u, .u, .u, .u, .u, .u] (.ite (.cmp .Lt (.var 2) (.cst (.int 7))) (.var 5) (.cal "_law_mirrored" (.cons (.var 0) (.cons (.var 5) .nil)))) = some (.slot 5, [.o true l1, .v (.int k), .v (.int way), .u, .u, .v (.list (ps.map ptD)), .u, .u, .u, .u, .u, .u]) := by
      have hc := cmpT_ok (T := T) (ρ := [.o true l1, .v (.int k), .v (.int way), .u, .u, .v (.list (ps.map ptD)), .u, .u, .u, .u, .u, .u]) (a := .var 2) (b := .cst (.int 7)) (x := .slot 2) (y := .val (.int 7)) rfl rfl rfl rfl (cmp_lt way 7)
      rw [decide_eq_true h] at hc
      rw [evE, hc]
      rfl
    exact ⟨A, B, C, l2, _, w2, pA, pB, pC, ss_nx s1 (ss_rt (ret_ok (calW hs (ee_cons ei rfl) rfl rfl e2) rfl))⟩
  · obtain ⟨qs, l2, e2, w2, hq⟩ := v_mirrored w1 hk hk2 hp
    obtain ⟨A, B, C, l3, e3, w3, pA, pB, pC⟩ := v_spread w2 hk hk2 (by decide) hq
    have ei : evE T [.o true l1, .v (.int k), .v (.int way), .u, .u, .v (.list (ps.map ptD)), .u, .u, .u, .u, .u, .u] (.ite (.cmp .Lt (.var 2) (.cst (.int 7))) (.var 5) (.cal "_law_mirrored" (.cons (.var 0) (.cons (.var 5) .nil)))) = some (.val (.list (qs.map ptD)), [.o true l2, .v (.int k), .v (.int way), .u, .u, .v (.list (ps.map ptD)), .u, .u, .u, .u, .u, .u]) := by
      have hc := cmpT_ok (T := T) (ρ := [.o true l1, .v (.int k), .v (.int way), .u, .u, .v (.list (ps.map ptD)), .u, .u, .u, .u, .u, .u]) (a := .var 2) (b := .cst (.int 7)) (x := .slot 2) (y := .val (.int 7)) rfl rfl rfl rfl (cmp_lt way 7)
      rw [decide_eq_false h] at hc
      rw [evE, hc]
      exact calW hm (r := [.slot 5]) rfl rfl rfl e2
    exact ⟨A, B, C, l3, _, w3, pA, pB, pC, ss_nx s1 (ss_rt (ret_ok (calW2 hs (ee_cons ei rfl) rfl rfl e3) rfl))⟩
theorem v_three {l : List D} (w : Urn l) {k : Nat} (hk : 2 ≤ k) (hk2 : k ≤ 60) : ∃ (A B C : List Int) (l' : List D), f__law_three l [.int k] = some (wD A B C, l') ∧ Urn l' ∧ Ph k 56 A ∧ Ph k 56 B ∧ Ph k 56 C := by
  have hd := t_drawH
  have hp := t_pickH
  have hw := t_wiredH
  have hr := t_repH
  have hs := t_spreadH
  have hm := t_mirH
  have hb := t_belH
  unfold f__law_three
  rw [th__is]
  generalize (tabT tb__law_mirrored kt0 gl0) = T at hd hp hw hr hs hm hb
  generalize 100000 = N
  obtain ⟨way, l1, e1, w1, y0, y1⟩ := v_draw w (k := 12) (by decide) (by decide)
  have s1 : evS N T [.o true l, .v (.int k), .u, .u, .u, .u, .u, .u, .u, .u, .u, .u] th_1 = some (.nx [.o true l1, .v (.int k), .v (.int way), .u, .u, .u, .u, .u, .u, .u, .u, .u]) := asg_ok (calW hd (r := [.val (.int 12)]) rfl rfl rfl e1) rfl
  have lt : ∀ j : Int, evT T [.o true l1, .v (.int k), .v (.int way), .u, .u, .u, .u, .u, .u, .u, .u, .u] (.cmp .Lt (.var 2) (.cst (.int j))) = some (decide (way < j), [.o true l1, .v (.int k), .v (.int way), .u, .u, .u, .u, .u, .u, .u, .u, .u]) := fun j => cmpT_ok (x := .slot 2) (y := .val (.int j)) rfl rfl rfl rfl (cmp_lt _ _)
  have eq : ∀ (ρ : En) (j : Int), ρ[2]? = some (.v (.int way)) → evT T ρ (.cmp .Eq (.var 2) (.cst (.int j))) = some (decide (way = j), ρ) := fun ρ j h => cmpT_ok (x := .slot 2) (y := .val (.int j)) (by simp only [evE, h]) rfl (by simp only [viewOp, h]) rfl (cmp_eq _ _)
  by_cases h3 : way < 3
  · obtain ⟨A, B, C, l2, r, w2, pA, pB, pC, e⟩ := th_a N hw w1 hk hk2 (.v (.int way))
    have := lt 3
    rw [decide_eq_true h3] at this
    exact ⟨A, B, C, l2, runW_ok (ss_nx s1 (ss_rt (s := th_2) (ifs_t this e))), w2, pA.mono (by decide), pB.mono (by decide), pC.mono (by decide)⟩
  have s2 : evS N T [.o true l1, .v (.int k), .v (.int way), .u, .u, .u, .u, .u, .u, .u, .u, .u] th_2 = some (.nx [.o true l1, .v (.int k), .v (.int way), .u, .u, .u, .u, .u, .u, .u, .u, .u]) := by
    have := lt 3
    rw [decide_eq_false h3] at this
    exact if_no this
  by_cases h5 : way < 5
  · obtain ⟨A, B, C, l2, r, w2, pA, pB, pC, e⟩ := th_b N hw hd hp w1 hk hk2 (.v (.int way))
    have := lt 5
    rw [decide_eq_true h5] at this
    exact ⟨A, B, C, l2, runW_ok (ss_nx s1 (ss_nx s2 (ss_rt (s := th_3) (ifs_t this e)))), w2, pA.mono (by decide), pB.mono (by decide), pC.mono (by decide)⟩
  have s3 : evS N T [.o true l1, .v (.int k), .v (.int way), .u, .u, .u, .u, .u, .u, .u, .u, .u] th_3 = some (.nx [.o true l1, .v (.int k), .v (.int way), .u, .u, .u, .u, .u, .u, .u, .u, .u]) := by
    have := lt 5
    rw [decide_eq_false h5] at this
    exact if_no this
  by_cases h9 : way < 9
  · obtain ⟨A, B, C, l2, r, w2, pA, pB, pC, e⟩ := th_c N hr hs hm w1 hk hk2 way
    have := lt 9
    rw [decide_eq_true h9] at this
    exact ⟨A, B, C, l2, runW_ok (ss_nx s1 (ss_nx s2 (ss_nx s3 (ss_rt (s := th_4) (ifs_t this e))))), w2, pA.mono (by decide), pB.mono (by decide), pC.mono (by decide)⟩
  have s4 : evS N T [.o true l1, .v (.int k), .v (.int way), .u, .u, .u, .u, .u, .u, .u, .u, .u] th_4 = some (.nx [.o true l1, .v (.int k), .v (.int way), .u, .u, .u, .u, .u, .u, .u, .u, .u]) := by
    have := lt 9
    rw [decide_eq_false h9] at this
    exact if_no this
  by_cases hc : way = 9 ∧ k % 6 = 0
  · obtain ⟨hc1, hc2⟩ := hc
    obtain ⟨qs, l2, e2, w2, hq⟩ := v_belted w1 hk hk2 hc2
    obtain ⟨A, B, C, l3, e3, w3, pA, pB, pC⟩ := v_spread w2 hk hk2 (by decide) hq
    have t5 : evT T [.o true l1, .v (.int k), .v (.int way), .u, .u, .u, .u, .u, .u, .u, .u, .u] (.and (.cmp .Eq (.var 2) (.cst (.int 9))) (.one (.cmp .Eq (.bin .Mod (.bi "int" (.cons (.var 1) .nil)) (.cst (.int 6))) (.cst (.int 0))))) = some (true, [.o true l1, .v (.int k), .v (.int way), .u, .u, .u, .u, .u, .u, .u, .u, .u]) := by
      have a1 := eq [.o true l1, .v (.int k), .v (.int way), .u, .u, .u, .u, .u, .u, .u, .u, .u] 9 rfl
      rw [decide_eq_true hc1] at a1
      have a2 : evT T [.o true l1, .v (.int k), .v (.int way), .u, .u, .u, .u, .u, .u, .u, .u, .u] (.cmp .Eq (.bin .Mod (.bi "int" (.cons (.var 1) .nil)) (.cst (.int 6))) (.cst (.int 0))) = some (true, [.o true l1, .v (.int k), .v (.int way), .u, .u, .u, .u, .u, .u, .u, .u, .u]) :=
        cmpT_ok (x := .val (.int ((k : Int) % 6))) (y := .val (.int 0)) (bin_ok (x := .val (.int k)) (y := .val (.int 6)) (bi1 (x := .slot 1) rfl rfl rfl) rfl rfl rfl rfl) rfl rfl rfl (by rw [cmp_eq]; exact congrArg some (decide_eq_true (by omega)))
      simp only [evT] at a1 a2 ⊢
      rw [a1]
      exact a2
    exact ⟨A, B, C, l3, runW_ok (ss_nx s1 (ss_nx s2 (ss_nx s3 (ss_nx s4 (ss_rt (s := th_5) (ifs_t t5 (ss_rt (ret_ok (calW2 hs (ee_cons (calW hb (r := [.slot 1]) rfl rfl rfl e2) rfl) rfl rfl e3) rfl)))))))), w3, pA.mono (by decide), pB.mono (by decide), pC.mono (by decide)⟩
  have s5 : evS N T [.o true l1, .v (.int k), .v (.int way), .u, .u, .u, .u, .u, .u, .u, .u, .u] th_5 = some (.nx [.o true l1, .v (.int k), .v (.int way), .u, .u, .u, .u, .u, .u, .u, .u, .u]) := by
    have a1 := eq [.o true l1, .v (.int k), .v (.int way), .u, .u, .u, .u, .u, .u, .u, .u, .u] 9 rfl
    refine if_no ?_
    by_cases h9 : way = 9
    · rw [decide_eq_true h9] at a1
      have a2 : evT T [.o true l1, .v (.int k), .v (.int way), .u, .u, .u, .u, .u, .u, .u, .u, .u] (.cmp .Eq (.bin .Mod (.bi "int" (.cons (.var 1) .nil)) (.cst (.int 6))) (.cst (.int 0))) = some (false, [.o true l1, .v (.int k), .v (.int way), .u, .u, .u, .u, .u, .u, .u, .u, .u]) :=
        cmpT_ok (x := .val (.int ((k : Int) % 6))) (y := .val (.int 0)) (bin_ok (x := .val (.int k)) (y := .val (.int 6)) (bi1 (x := .slot 1) rfl rfl rfl) rfl rfl rfl rfl) rfl rfl rfl (by rw [cmp_eq]; exact congrArg some (decide_eq_false (by omega)))
      simp only [evT] at a1 a2 ⊢
      rw [a1]
      exact a2
    · rw [decide_eq_false h9] at a1
      simp only [evT] at a1 ⊢
      rw [a1]
  obtain ⟨A, l2, e2, w2, a1, a2, a3⟩ := v_wired w1 hk hk2 (lo := 1) (hi := 2) (by decide) (by decide) (by decide)
  have pA : Ph k 56 A := ⟨a1, a2, fun x hx => (a3 x hx).mono (by decide)⟩
  have zI : (List.replicate k (PyData.int 0)) = (List.replicate k (0 : Int)).map .int := by rw [List.map_replicate]
  have s6 : evS N T [.o true l1, .v (.int k), .v (.int way), .u, .u, .u, .u, .u, .u, .u, .u, .u] th_6 = some (.nx [.o true l2, .v (.int k), .v (.int way), .u, .u, .u, .v (tupI A), .v (tupI (List.replicate k 0)), .u, .u, .u, .u]) := by
    refine asgs_ok (ee_cons (o := .val (tupI A)) (bi_tuple (calW hw (r := [.slot 1, .val (.int 1), .val (.int 2)]) rfl rfl rfl e2) rfl) (ee_cons (o := .val (tupI (List.replicate k 0))) (bi_tuple (xs := (List.replicate k (0 : Int)).map .int) (bin_ok (x := .new [.int 0]) (y := .slot 1) (ev_z1 _ _) rfl rfl rfl (rep_b4 hk2)) ?_) rfl)) rfl rfl
    rw [← zI]; rfl
  by_cases h11 : way = 11
  · have t7 := eq [.o true l2, .v (.int k), .v (.int way), .u, .u, .u, .v (tupI A), .v (tupI (List.replicate k 0)), .u, .u, .u, .u] 11 rfl
    rw [decide_eq_true h11] at t7
    have e7 : evE T [.o true l2, .v (.int k), .v (.int way), .u, .u, .u, .v (tupI A), .v (tupI (List.replicate k 0)), .u, .u, .u, .u] (.ite (.cmp .Eq (.var 2) (.cst (.int 11))) (.tup (.cons (.var 6) (.cons (.var 6) (.cons (.var 6) .nil)))) (.tup (.cons (.var 7) (.cons (.var 6) (.cons (.var 7) .nil))))) = some (.val (wD A A A), [.o true l2, .v (.int k), .v (.int way), .u, .u, .u, .v (tupI A), .v (tupI (List.replicate k 0)), .u, .u, .u, .u]) := by
      rw [evE, t7]
      exact tup3 (x := .slot 6) (y := .slot 6) (z := .slot 6) rfl rfl rfl rfl
    exact ⟨A, A, A, l2, runW_ok (ss_nx s1 (ss_nx s2 (ss_nx s3 (ss_nx s4 (ss_nx s5 (ss_nx s6 (ss_rt (s := th_7) (ret_ok e7 rfl)))))))), w2, pA, pA, pA⟩
  · have t7 := eq [.o true l2, .v (.int k), .v (.int way), .u, .u, .u, .v (tupI A), .v (tupI (List.replicate k 0)), .u, .u, .u, .u] 11 rfl
    rw [decide_eq_false h11] at t7
    have e7 : evE T [.o true l2, .v (.int k), .v (.int way), .u, .u, .u, .v (tupI A), .v (tupI (List.replicate k 0)), .u, .u, .u, .u] (.ite (.cmp .Eq (.var 2) (.cst (.int 11))) (.tup (.cons (.var 6) (.cons (.var 6) (.cons (.var 6) .nil)))) (.tup (.cons (.var 7) (.cons (.var 6) (.cons (.var 7) .nil))))) = some (.val (wD (List.replicate k 0) A (List.replicate k 0)), [.o true l2, .v (.int k), .v (.int way), .u, .u, .u, .v (tupI A), .v (tupI (List.replicate k 0)), .u, .u, .u, .u]) := by
      rw [evE, t7]
      exact tup3 (x := .slot 7) (y := .slot 6) (z := .slot 7) rfl rfl rfl rfl
    exact ⟨_, A, _, l2, runW_ok (ss_nx s1 (ss_nx s2 (ss_nx s3 (ss_nx s4 (ss_nx s5 (ss_nx s6 (ss_rt (s := th_7) (ret_ok e7 rfl)))))))), w2, zer_ph k 56, pA, zer_ph k 56⟩
end Ev

set_option maxHeartbeats 1000000
namespace Ev
open PySem L2
theorem k_int_int : kitB "int" "int" = some true := by decide +kernel
theorem k_int_bool : kitB "int" "bool" = some false := by decide +kernel
theorem k_tup_tup : kitB "tuple" "tuple" = some true := by decide +kernel
theorem v_is_whole1 (i : Int) : f_is_whole [.int i] = some (.bool true) := by
  simp [f_is_whole, runP, i_is_whole, entP, evSs, evS, evE, viewOp, tyD, k_int_int, k_int_bool, keepOp]
theorem t_is_whole : (tabT tb_is_whole kt0 gl0).fs "is_whole" = some fs_is_whole := rfl
theorem v_are_wholes (l : List Int) : f_are_wholes [tupI l] = some (.bool true) := by
  have g : evE (tabT tb_is_whole kt0 gl0) [.v (tupI l), .u] (.gn "all" (.cal "is_whole" (.cons (.var 1) .nil)) (.nm 1) [("part", 1)] (.ex (.var 0)) .no) = some (.val (.bool true), [.v (tupI l), .u]) := by
    have := gnAll (T := (tabT tb_is_whole kt0 gl0)) (own := [("part", 1)]) (ρ := [.v (tupI l), .u]) (ρ1 := [.v (tupI l), .u]) (it := .ex (.var 0)) (e := .cal "is_whole" (.cons (.var 1) .nil)) (t := .nm 1) PyData.int (fun _ => true) (l := l) (by simp [evIt, evE, keepOp, tupI]) (fun i _ => ⟨[.v (tupI l), .v (.int i)], .val (.bool true), rfl, calPn t_is_whole (ops := [.slot 1]) rfl rfl (ds := [.int i]) rfl rfl (v_is_whole1 i), rfl, rfl⟩) (fun i hi => .inl (by
      have : i = 1 := by simpa using hi
      subst this; rfl))
    rw [this]
    simp
  unfold f_are_wholes i_are_wholes
  refine runP_ok (r := [.v (tupI l), .u]) (ss_rt (ret_ok (o := .val (.bool true)) (ρ1 := [.v (tupI l), .u]) ?_ rfl))
  rw [show entP 2 [tupI l] = [.v (tupI l), .u] from rfl, and_t (isi_ok (x := .slot 0) (ρ1 := [.v (tupI l), .u]) rfl rfl k_tup_tup) rfl, one_e]
  exact g
theorem t_are_wholes : (tabT tb_norm_of kt0 gl0).fs "are_wholes" = some fs_are_wholes := rfl
theorem g_least : (tabT tb_norm_of kt0 gl0).gl "LEAST_SLOTS" = some (.int 2) := rfl
theorem g_most : (tabT tb_norm_of kt0 gl0).gl "MOST_SLOTS" = some (.int 60) := rfl
theorem tupI_len (l : List Int) : biD "len" [tupI l] = some (.val (.int (l.length : Nat))) := by simp [tupI, biD]
theorem v_is_row (l : List Int) (h1 : 2 ≤ l.length) (h2 : l.length ≤ 60) : f_is_row [tupI l] = some (.bool true) := by
  have h3 : (2 : Int) ≤ l.length := by omega
  have h4 : (l.length : Int) ≤ 60 := by omega
  simp [f_is_row, runP, i_is_row, entP, evSs, evS, evE, evEs, viewL, viewOp, t_are_wholes, fs_are_wholes, callF, callP, flat, keepOp, v_are_wholes, g_least, g_most, tupI_len, cmpD, cmpI, h3, h4]
theorem t_is_row : (tabT tb_is_row kt0 gl0).fs "is_row" = some fs_is_row := rfl
theorem tupI_sum (l : List Int) : biD "sum" [tupI l] = some (.val (.int l.sum)) := by simp only [tupI, biD, intsD_map, Option.map_some]
theorem v_is_phase (l : List Int) (h1 : 2 ≤ l.length) (h2 : l.length ≤ 60) (h3 : l.sum = 0) : f_is_phase [tupI l] = some (.bool true) := by
  simp [f_is_phase, runP, i_is_phase, entP, evSs, evS, evE, evEs, viewL, viewOp, t_is_row, fs_is_row, callF, callP, flat, keepOp, v_is_row l h1 h2, tupI_sum, h3, ofC, cmp_eq]
theorem t_is_phase : (tabT tb_is_phase kt0 gl0).fs "is_phase" = some fs_is_phase := rfl
theorem runP_nx {n N : Nat} {T : Tb} {b : ISs} {ds : List D} {r : En} (h : evSs n T (entP N ds) b = some (.nx r)) : runP n T N b ds = some .none := by
  simp [runP, h]
theorem exp_ok {n : Nat} {T : Tb} {ρ ρ1 : En} {e : IE} {o : Op} (h : evE T ρ e = some (o, ρ1)) : evS n T ρ (.exp e) = some (.nx ρ1) := by simp only [evS, h, Option.map_some]
structure W3 (k n : Nat) (A B C : List Int) : Prop where
  lo : 2 ≤ k
  hi : k ≤ 60
  a : Ph k n A
  b : Ph k n B
  c : Ph k n C
def wp_1b1t1 : IS := .ret (.var 2)
def wp_1b1t : ISs := (.cons wp_1b1t1 .nil)
def wp_1b1 : IS := .ifs (.or (.cmp .Eq (.var 2) (.var 1)) (.or (.not (.cal "is_phase" (.cons (.var 3) .nil))) (.one (.cmp .NotEq (.bi "len" (.cons (.var 3) .nil)) (.bi "len" (.cons (.idx (.var 0) (.cst (.int 0))) .nil)))))) wp_1b1t .nil
def wp_1b : ISs := (.cons wp_1b1 .nil)
def wp_1 : IS := .fors (.tup (.cons (.nm 2) (.cons (.nm 3) .nil))) (.en (.var 0)) wp_1b
def wp_2 : IS := .ret (.cst .none)
def wp_ : ISs := (.cons wp_1 (.cons wp_2 .nil))
theorem wp__is : i_wrong_phase = wp_ := rfl
def cw_1t1 : IS := .nev
def cw_1t : ISs := (.cons cw_1t1 .nil)
def cw_1 : IS := .ifs (.or (.not (.isi (.var 0) "tuple")) (.one (.cmp .Eq (.bi "len" (.cons (.var 0) .nil)) (.cst (.int 0))))) cw_1t .nil
def cw_2 : IS := .asg (.nm 1) (.cal "wrong_phase" (.cons (.var 0) (.cons (.glb "MOST_PHASES") .nil)))
def cw_3t1 : IS := .nev
def cw_3t : ISs := (.cons cw_3t1 .nil)
def cw_3 : IS := .ifs (.cmp .IsNot (.var 1) (.cst .none)) cw_3t .nil
def cw_ : ISs := (.cons cw_1 (.cons cw_2 (.cons cw_3 .nil)))
theorem cw__is : i_check_winding = cw_ := rfl
def ct_1t1 : IS := .nev
def ct_1t : ISs := (.cons ct_1t1 .nil)
def ct_1 : IS := .ifs (.cmp .NotEq (.bi "len" (.cons (.var 0) .nil)) (.cst (.int 3))) ct_1t .nil
def ct_ : ISs := (.cons ct_1 .nil)
theorem ct__is : i_check_three = ct_ := rfl
def cp_1 : IS := .exp (.cal "check_winding" (.cons (.var 0) .nil))
def cp_2 : IS := .exp (.cal "check_three" (.cons (.var 0) .nil))
def cp_ : ISs := (.cons cp_1 (.cons cp_2 .nil))
theorem cp__is : i_check_three_phases = cp_ := rfl
def sp_1 : IS := .exp (.cal "check_three_phases" (.cons (.var 0) .nil))
def sp_2 : IS := .ret (.gn "tuple" (.tup (.cons (.bin .Sub (.var 1) (.var 2)) (.cons (.bin .Sub (.var 3) (.var 2)) .nil))) (.tup (.cons (.nm 1) (.cons (.nm 2) (.cons (.nm 3) .nil)))) [("first", 1), ("second", 2), ("third", 3)] (.zps (.var 0)) .no)
def sp_ : ISs := (.cons sp_1 (.cons sp_2 .nil))
theorem sp__is : i_slot_points = sp_ := rfl
def co_1 : IS := .asg (.nm 1) (.lst (.cons (.tup (.cons (.cst (.int 0)) (.cons (.cst (.int 0)) .nil))) .nil))
def co_2b1 : IS := .app 1 (.tup (.cons (.bin .Add (.idx (.idx (.var 1) (.neg (.cst (.int 1)))) (.cst (.int 0))) (.var 2)) (.cons (.bin .Add (.idx (.idx (.var 1) (.neg (.cst (.int 1)))) (.cst (.int 1))) (.var 3)) .nil)))
def co_2b : ISs := (.cons co_2b1 .nil)
def co_2 : IS := .fors (.tup (.cons (.nm 2) (.cons (.nm 3) .nil))) (.ex (.slc (.cal "slot_points" (.cons (.var 0) .nil)) .no (.so (.neg (.cst (.int 1)))))) co_2b
def co_3 : IS := .ret (.bi "tuple" (.cons (.var 1) .nil))
def co_ : ISs := (.cons co_1 (.cons co_2 (.cons co_3 .nil)))
theorem co__is : i_corners = co_ := rfl
def po_1 : IS := .asg (.nm 1) (.cal "corners" (.cons (.var 0) .nil))
def po_2 : IS := .asg (.nm 2) (.bi "len" (.cons (.var 1) .nil))
def po_3 : IS := .asg (.nm 3) (.tup (.cons (.gn "sum" (.var 4) (.tup (.cons (.nm 4) (.cons (.nm 6) .nil))) [("first", 4), ("_", 6)] (.ex (.var 1)) .no) (.cons (.gn "sum" (.var 5) (.tup (.cons (.nm 6) (.cons (.nm 5) .nil))) [("_", 6), ("second", 5)] (.ex (.var 1)) .no) .nil)))
def po_4 : IS := .ret (.gn "tuple" (.tup (.cons (.bin .Sub (.bin .Mult (.var 2) (.var 4)) (.idx (.var 3) (.cst (.int 0)))) (.cons (.bin .Sub (.bin .Mult (.var 2) (.var 5)) (.idx (.var 3) (.cst (.int 1)))) .nil))) (.tup (.cons (.nm 4) (.cons (.nm 5) .nil))) [("first", 4), ("second", 5)] (.ex (.var 1)) .no)
def po_ : ISs := (.cons po_1 (.cons po_2 (.cons po_3 (.cons po_4 .nil))))
theorem po__is : i_polygon = po_ := rfl
theorem calPt {n : Nat} {T : Tb} {ρ : En} {f : Str} {es : IEs} {ops : List Op} {g : List D → Option D} {ds : List D} {b : Bool} (hs : T.fs f = some (.p n g)) (he : evEs T ρ es = some (ops, ρ)) (hn : ops.length = n) (hv : viewL ρ ops = some ds) (hg : g ds = some (.bool b)) : evT T ρ (.cal f es) = some (b, ρ) := by
  subst hn
  have h : callF (.p ops.length g) ops ρ = some (.val (.bool b), ρ) := by
    simp only [callF, callP, hv, hg, Option.bind_some, beq_self_eq_true, if_true, flat]
  simp only [evT, he, hs, h, Option.bind_some, Option.map_some, viewOp, trD]
theorem wp_turn (N : Nat) {T : Tb} (hp : T.fs "is_phase" = some fs_is_phase) {k n : Nat} {A B C P : List Int} (w : W3 k n A B C) (hP : Ph k n P) (i : Int) (hi : i < 6) : evS N T [.v (wD A B C), .v (.int 6), .v (.int i), .v (tupI P)] wp_1b1 = some (.nx [.v (wD A B C), .v (.int 6), .v (.int i), .v (tupI P)]) := by
  refine if_no ?_
  have h1 : evT T [.v (wD A B C), .v (.int 6), .v (.int i), .v (tupI P)] (.cmp .Eq (.var 2) (.var 1)) = some (false, [.v (wD A B C), .v (.int 6), .v (.int i), .v (tupI P)]) := cmpT_ok (x := .slot 2) (y := .slot 1) rfl rfl rfl rfl (by rw [cmp_eq]; exact congrArg some (decide_eq_false (by omega)))
  have h2 : evT T [.v (wD A B C), .v (.int 6), .v (.int i), .v (tupI P)] (.cal "is_phase" (.cons (.var 3) .nil)) = some (true, [.v (wD A B C), .v (.int 6), .v (.int i), .v (tupI P)]) := calPt hp (ops := [.slot 3]) rfl rfl (ds := [tupI P]) rfl (v_is_phase P (by rw [hP.len]; exact w.lo) (by rw [hP.len]; exact w.hi) hP.sum)
  have h3 : evT T [.v (wD A B C), .v (.int 6), .v (.int i), .v (tupI P)] (.cmp .NotEq (.bi "len" (.cons (.var 3) .nil)) (.bi "len" (.cons (.idx (.var 0) (.cst (.int 0))) .nil))) = some (false, [.v (wD A B C), .v (.int 6), .v (.int i), .v (tupI P)]) := by
    refine cmpT_ok (x := .val (.int (P.length : Nat))) (y := .val (.int (A.length : Nat))) (bi1 (x := .slot 3) rfl rfl (tupI_len P)) (bi1 (x := .val (tupI A)) (idx_ok (x := .slot 0) (y := .val (.int 0)) rfl rfl rfl rfl rfl) rfl (tupI_len A)) rfl rfl ?_
    rw [cmp_ne, hP.len, w.a.len]
    simp
  have h4 := or_no h2 h3
  simp only [evT] at h1 h4 ⊢
  rw [h1]
  exact h4
theorem v_wrong {k n : Nat} {A B C : List Int} (w : W3 k n A B C) : f_wrong_phase [wD A B C, .int 6] = some .none := by
  have hp := t_is_phase
  unfold f_wrong_phase
  rw [wp__is]
  generalize (tabT tb_is_phase kt0 gl0) = T at hp
  generalize 100000 = N
  have st : ∀ (P : List Int) (i : Int) (x y : Sl), Ph k n P → i < 6 → ((bindT [.v (wD A B C), .v (.int 6), x, y] (.tup (.cons (.nm 2) (.cons (.nm 3) .nil))) (.tuple [.int i, tupI P])).bind fun ρ2 => evSs N T ρ2 wp_1b) = some (.nx [.v (wD A B C), .v (.int 6), .v (.int i), .v (tupI P)]) := fun P i x y hP hi => by
    rw [show bindT [.v (wD A B C), .v (.int 6), x, y] (.tup (.cons (.nm 2) (.cons (.nm 3) .nil))) (.tuple [.int i, tupI P]) = some [.v (wD A B C), .v (.int 6), .v (.int i), .v (tupI P)] from rfl]
    simp only [Option.bind_some]
    exact ss_nx (wp_turn N hp w hP i hi) rfl
  have lp : evS N T [.v (wD A B C), .v (.int 6), .u, .u] wp_1 = some (.nx [.v (wD A B C), .v (.int 6), .v (.int 2), .v (tupI C)]) := by
    refine for_ok (xs := [.tuple [.int 0, tupI A], .tuple [.int 1, tupI B], .tuple [.int 2, tupI C]]) (ρ1 := [.v (wD A B C), .v (.int 6), .u, .u]) rfl ?_
    simp only [evFor, st A 0 _ _ w.a (by decide), st B 1 _ _ w.b (by decide), st C 2 _ _ w.c (by decide)]
  exact runP_ok (r := [.v (wD A B C), .v (.int 6), .v (.int 2), .v (tupI C)]) (ss_nx lp (ss_rt (ret_ok (o := .val .none) rfl rfl)))
theorem t_wrong : (tabT tb_wrong_phase kt0 gl0).fs "wrong_phase" = some fs_wrong_phase := rfl
theorem g_mp : (tabT tb_wrong_phase kt0 gl0).gl "MOST_PHASES" = some (.int 6) := rfl
theorem wD_len (A B C : List Int) : biD "len" [wD A B C] = some (.val (.int 3)) := rfl
theorem v_checkw {k n : Nat} {A B C : List Int} (w : W3 k n A B C) : f_check_winding [wD A B C] = some .none := by
  have hp := t_wrong
  have hg := g_mp
  unfold f_check_winding
  rw [cw__is]
  generalize (tabT tb_wrong_phase kt0 gl0) = T at hp hg
  generalize 100000 = N
  have s1 : evS N T [.v (wD A B C), .u] cw_1 = some (.nx [.v (wD A B C), .u]) :=
    if_no (or_no (isiT (isi_ok (x := .slot 0) (ρ1 := [.v (wD A B C), .u]) rfl rfl k_tup_tup)) (cmpT_ok (x := .val (.int 3)) (y := .val (.int 0)) (bi1 (x := .slot 0) rfl rfl (wD_len A B C)) rfl rfl rfl (cmp_eq _ _)))
  have eg : evE T [.v (wD A B C), .u] (.glb "MOST_PHASES") = some (.val (.int 6), [.v (wD A B C), .u]) := by simp only [evE, hg, Option.map_some]
  have s2 : evS N T [.v (wD A B C), .u] cw_2 = some (.nx [.v (wD A B C), .v .none]) := asg_ok (calPn hp (ops := [.slot 0, .val (.int 6)]) (ee_cons rfl (ee_cons eg rfl)) rfl (ds := [wD A B C, .int 6]) rfl rfl (v_wrong w)) rfl
  have s3 : evS N T [.v (wD A B C), .v .none] cw_3 = some (.nx [.v (wD A B C), .v .none]) := if_no (cmpT_ok (x := .slot 1) (y := .val .none) rfl rfl rfl rfl rfl)
  exact runP_nx (ss_nx s1 (ss_nx s2 (ss_nx s3 rfl)))
theorem v_check3 (A B C : List Int) : f_check_three [wD A B C] = some .none := by
  unfold f_check_three
  rw [ct__is]
  generalize (tabT tb_check_winding kt0 gl0) = T
  generalize 100000 = N
  have s1 : evS N T [.v (wD A B C)] ct_1 = some (.nx [.v (wD A B C)]) := if_no (cmpT_ok (x := .val (.int 3)) (y := .val (.int 3)) (bi1 (x := .slot 0) rfl rfl (wD_len A B C)) rfl rfl rfl (cmp_ne _ _))
  exact runP_nx (ss_nx s1 rfl)
theorem t_cw : (tabT tb_check_three kt0 gl0).fs "check_winding" = some fs_check_winding := rfl
theorem t_ct : (tabT tb_check_three kt0 gl0).fs "check_three" = some fs_check_three := rfl
theorem v_check3p {k n : Nat} {A B C : List Int} (w : W3 k n A B C) : f_check_three_phases [wD A B C] = some .none := by
  have h1 := t_cw
  have h2 := t_ct
  unfold f_check_three_phases
  rw [cp__is]
  generalize (tabT tb_check_three kt0 gl0) = T at h1 h2
  generalize 100000 = N
  exact runP_nx (ss_nx (s := cp_1) (exp_ok (calPn h1 (ops := [.slot 0]) rfl rfl (ds := [wD A B C]) rfl rfl (v_checkw w))) (ss_nx (s := cp_2) (exp_ok (calPn h2 (ops := [.slot 0]) rfl rfl (ds := [wD A B C]) rfl rfl (v_check3 A B C))) rfl))
end Ev

set_option maxHeartbeats 1000000
namespace Ev
open PySem L2
/-! ### points of the slots -/
def trD3 (q : Int × Int × Int) : D := .tuple [.int q.1, .int q.2.1, .int q.2.2]
def ptOf (q : Int × Int × Int) : Int × Int := (q.1 - q.2.1, q.2.2 - q.2.1)
def ptsW (A B C : List Int) : List (Int × Int) := (A.zip (B.zip C)).map ptOf
theorem zipD3_map : ∀ (A B C : List Int), zipD3 (A.map .int) (B.map .int) (C.map .int) = (A.zip (B.zip C)).map trD3
  | [], _, _ => by simp [zipD3]
  | _ :: _, [], _ => by simp [zipD3]
  | _ :: _, _ :: _, [] => by simp [zipD3]
  | a :: A, b :: B, c :: C => by
    have := zipD3_map A B C
    simp only [zipD3] at this
    simp [zipD3, this, trD3]
theorem pts_facts : ∀ (A B C : List Int) (k : Nat), A.length = k → B.length = k → C.length = k → (ptsW A B C).length = k ∧ sumP (ptsW A B C) = (A.sum - B.sum, C.sum - B.sum)
  | [], [], [], k, h, _, _ => by
    subst h
    simp [ptsW, sumP]
  | a :: A, b :: B, c :: C, k, h1, h2, h3 => by
    obtain ⟨e1, e2⟩ := pts_facts A B C (k - 1) (by simp at h1; omega) (by simp at h2; omega) (by simp at h3; omega)
    simp only [ptsW, List.zip_cons_cons, List.map_cons, List.length_cons, sumP_cons] at e1 e2 ⊢
    refine ⟨by simp at h1; omega, ?_⟩
    rw [e2]
    simp only [ptOf, addP, List.sum_cons]
    rw [Prod.mk.injEq]
    omega
  | [], b :: B, _, k, h1, h2, _ => by simp at h1 h2; omega
  | a :: A, [], _, k, h1, h2, _ => by simp at h1 h2; omega
  | [], [], c :: C, k, h1, _, h3 => by simp at h1 h3; omega
  | a :: A, b :: B, [], k, h1, _, h3 => by simp at h1 h3; omega
def BdP (n : Nat) (p : Int × Int) : Prop := Bd n p.1 ∧ Bd n p.2
theorem pts_bd {k n : Nat} {A B C : List Int} (w : W3 k n A B C) : ∀ p ∈ ptsW A B C, BdP (n + 1) p := by
  intro p hp
  obtain ⟨q, hq, rfl⟩ := List.mem_map.mp hp
  obtain ⟨m1, m2⟩ := List.of_mem_zip hq
  obtain ⟨m3, m4⟩ := List.of_mem_zip m2
  exact ⟨(w.a.bd _ m1).sub (w.b.bd _ m3), (w.c.bd _ m4).sub (w.b.bd _ m3)⟩
theorem bd3 (ρ : En) (i j l : Nat) (hi : i < ρ.length) (hj : j < ρ.length) (hl : l < ρ.length) (d e f : D) : bindT ρ (.tup (.cons (.nm i) (.cons (.nm j) (.cons (.nm l) .nil)))) (.tuple [d, e, f]) = some (((ρ.set i (.v d)).set j (.v e)).set l (.v f)) := by
  simp only [bindT, bindTs, setE, decide_eq_true hi, if_true, Option.bind_some, List.length_set, decide_eq_true hj, decide_eq_true hl]
theorem bd2 (ρ : En) (i j : Nat) (hi : i < ρ.length) (hj : j < ρ.length) (d e : D) : bindT ρ (.tup (.cons (.nm i) (.cons (.nm j) .nil))) (.tuple [d, e]) = some ((ρ.set i (.v d)).set j (.v e)) := by
  simp only [bindT, bindTs, setE, decide_eq_true hi, if_true, Option.bind_some, List.length_set, decide_eq_true hj]
theorem t_c3p : (tabT tb_check_three_phases kt0 gl0).fs "check_three_phases" = some fs_check_three_phases := rfl
theorem zps_it (T : Tb) (A B C : List Int) (ρ : En) (h : ρ[0]? = some (.v (wD A B C))) : evIt T ρ (.zps (.var 0)) = some ((A.zip (B.zip C)).map trD3, ρ) := by
  rw [← zipD3_map]
  simp only [evIt, evE, h, Option.bind_some, keepOp, wD, tupI]
theorem v_slot {k n : Nat} {A B C : List Int} (w : W3 k n A B C) : f_slot_points [wD A B C] = some (.tuple ((ptsW A B C).map ptD)) := by
  have h1 := t_c3p
  unfold f_slot_points
  rw [sp__is]
  generalize (tabT tb_check_three_phases kt0 gl0) = T at h1
  generalize 100000 = N
  have hl : (A.zip (B.zip C)).length ≤ 60 := by
    have := w.a.len
    have := w.hi
    simp [List.length_zip]; omega
  have g := gnT (T := T) (own := [("first", 1), ("second", 2), ("third", 3)]) (ρ := [.v (wD A B C), .u, .u, .u]) (ρ1 := [.v (wD A B C), .u, .u, .u]) (it := .zps (.var 0)) (f := "tuple") (e := .tup (.cons (.bin .Sub (.var 1) (.var 2)) (.cons (.bin .Sub (.var 3) (.var 2)) .nil))) (t := .tup (.cons (.nm 1) (.cons (.nm 2) (.cons (.nm 3) .nil)))) (d := .tuple ((ptsW A B C).map ptD)) trD3 (fun q => ptD (ptOf q)) (l := A.zip (B.zip C)) (zps_it T A B C _ rfl)
    (fun q _ => ⟨[.v (wD A B C), .v (.int q.1), .v (.int q.2.1), .v (.int q.2.2)], .val (ptD (ptOf q)), bd3 _ 1 2 3 (by simp [wipeE]) (by simp [wipeE]) (by simp [wipeE]) _ _ _, tupK2 (x := .val (.int (q.1 - q.2.1))) (y := .val (.int (q.2.2 - q.2.1))) (bin_ok (x := .slot 1) (y := .slot 2) rfl rfl rfl rfl rfl) (bin_ok (x := .slot 3) (y := .slot 2) rfl rfl rfl rfl rfl) rfl, rfl, rfl⟩)
    (fun q _ => rfl) (fun i hi => .inl (by
      simp only [List.map_cons, List.map_nil, List.mem_cons, List.not_mem_nil, or_false] at hi
      rcases hi with rfl | rfl | rfl <;> rfl)) (by
      simp only [gnD, lenOk_le (show ((A.zip (B.zip C)).map fun q => ptD (ptOf q)).length ≤ 16777216 by rw [List.length_map]; omega), if_true]
      rw [ptsW, List.map_map]; rfl)
  exact runP_ok (r := [.v (wD A B C), .u, .u, .u]) (ss_nx (s := sp_1) (exp_ok (calPn h1 (ops := [.slot 0]) rfl rfl (ds := [wD A B C]) rfl rfl (v_check3p w))) (ss_rt (ret_ok g rfl)))
/-! ### corners -/
def incl (s : Int × Int) : List (Int × Int) → List (Int × Int)
  | [] => [s]
  | p :: ps => s :: incl (addP s p) ps
def excl (s : Int × Int) : List (Int × Int) → List (Int × Int)
  | [] => []
  | p :: ps => s :: excl (addP s p) ps
theorem incl_excl : ∀ (ps : List (Int × Int)) (s : Int × Int), ps ≠ [] → incl s (ps.take (ps.length - 1)) = excl s ps
  | [], _, h => absurd rfl h
  | [p], s, _ => rfl
  | p :: q :: ps, s, _ => by
    have := incl_excl (q :: ps) (addP s p) (by simp)
    rw [show (p :: q :: ps).length - 1 = ((q :: ps).length - 1) + 1 by simp, List.take_succ_cons, incl, this, excl]
    rfl
theorem excl_len : ∀ (ps : List (Int × Int)) (s : Int × Int), (excl s ps).length = ps.length
  | [], _ => rfl
  | p :: ps, s => by rw [excl, List.length_cons, excl_len ps, List.length_cons]
theorem cut_lastD (l : List D) : cutD l none (some (-1)) = l.take (l.length - 1) := by
  have e1 : HT.sIx l.length 0 none = 0 := rfl
  have e2 : HT.sIx l.length l.length (some (-1)) = l.length - 1 := by
    show (if (-1 : Int) < 0 then ((-1 : Int) + (l.length : Nat)).toNat else min (-1 : Int).toNat l.length) = l.length - 1
    rw [if_pos (by decide)]; omega
  unfold cutD
  rw [e1, e2]
  simp
theorem idx_last (acc : List (Int × Int)) (s : Int × Int) : idxD (.list ((acc ++ [s]).map ptD)) (.int (-1)) = some (ptD s) := by
  refine ix_list (j := acc.length) ?_ (by simp)
  unfold ixN; rw [if_neg (by decide)]; simp; omega
theorem co_turn (N : Nat) (T : Tb) (W : D) (acc : List (Int × Int)) (s p : Int × Int) (h : acc.length < 900) : evSs N T [.v W, .o false ((acc ++ [s]).map ptD), .v (.int p.1), .v (.int p.2)] co_2b = some (.nx [.v W, .o false ((acc ++ [s] ++ [addP s p]).map ptD), .v (.int p.1), .v (.int p.2)]) := by
  have c : ∀ (i : Int) (v w : Int) (j : Nat), idxD (ptD s) (.int i) = some (.int v) → ([.v W, .o false ((acc ++ [s]).map ptD), .v (.int p.1), .v (.int p.2)] : En)[j]? = some (.v (.int w)) → evE T [.v W, .o false ((acc ++ [s]).map ptD), .v (.int p.1), .v (.int p.2)] (.bin .Add (.idx (.idx (.var 1) (.neg (.cst (.int 1)))) (.cst (.int i))) (.var j)) = some (.val (.int (v + w)), [.v W, .o false ((acc ++ [s]).map ptD), .v (.int p.1), .v (.int p.2)]) := fun i v w j h1 h2 =>
    bin_ok (x := .val (.int v)) (y := .slot j) (d := .int v) (e := .int w) (idx_ok (x := .val (ptD s)) (y := .val (.int i)) (idx_ok (x := .slot 1) (y := .val (.int (-1))) rfl rfl rfl rfl (idx_last acc s)) rfl rfl rfl h1) (by simp only [evE, h2]) rfl (by simp only [viewOp, h2]) rfl
  have := app_ok (n := N) (T := T) (i := 1) (mt := false) (mt0 := false) (ds := (acc ++ [s]).map ptD) (ds0 := (acc ++ [s]).map ptD) (ρ := [.v W, .o false ((acc ++ [s]).map ptD), .v (.int p.1), .v (.int p.2)]) (o := .val (ptD (addP s p))) (d := ptD (addP s p)) rfl (tupK2 (c 0 _ _ 2 rfl rfl) (c 1 _ _ 3 rfl rfl) rfl) rfl rfl (by simp; omega)
  rw [List.map_append (l₁ := acc ++ [s])]
  exact ss_nx this rfl
theorem co_loop (N : Nat) (T : Tb) (W : D) : ∀ (xs acc : List (Int × Int)) (s : Int × Int) (x y : Sl), acc.length + xs.length < 900 → ∃ x' y', evFor (fun x ρ1 => (bindT ρ1 (.tup (.cons (.nm 2) (.cons (.nm 3) .nil))) x).bind fun ρ2 => evSs N T ρ2 co_2b) (xs.map ptD) [.v W, .o false ((acc ++ [s]).map ptD), x, y] = some (.nx [.v W, .o false ((acc ++ incl s xs).map ptD), x', y'])
  | [], acc, s, x, y, _ => ⟨x, y, rfl⟩
  | p :: xs, acc, s, x, y, h => by
    rw [List.length_cons] at h
    obtain ⟨x', y', e⟩ := co_loop N T W xs (acc ++ [s]) (addP s p) (.v (.int p.1)) (.v (.int p.2)) (by simp; omega)
    refine ⟨x', y', ?_⟩
    rw [List.map_cons]
    simp only [evFor]
    rw [show ptD p = .tuple [.int p.1, .int p.2] from rfl, bd2 _ 2 3 (by simp) (by simp)]
    simp only [Option.bind_some, List.set_cons_succ, List.set_cons_zero]
    rw [co_turn N T W acc s p (by omega)]
    dsimp only
    rw [e, incl, List.append_assoc]
    rfl
def corW (A B C : List Int) : List (Int × Int) := excl (0, 0) (ptsW A B C)
theorem t_spC : (tabT tb_slot_points kt0 gl0).fs "slot_points" = some fs_slot_points := rfl
theorem v_corners {k n : Nat} {A B C : List Int} (w : W3 k n A B C) : f_corners [wD A B C] = some (.tuple ((corW A B C).map ptD)) := by
  have h1 := t_spC
  unfold f_corners
  rw [co__is]
  generalize (tabT tb_slot_points kt0 gl0) = T at h1
  generalize 100000 = N
  obtain ⟨q1, q2⟩ := pts_facts A B C k w.a.len w.b.len w.c.len
  have lo := w.lo
  have hi := w.hi
  have ne : ptsW A B C ≠ [] := by
    intro e
    rw [e] at q1
    simp at q1
    omega
  have s1 : evS N T [.v (wD A B C), .u, .u, .u] co_1 = some (.nx [.v (wD A B C), .o false [ptD (0, 0)], .u, .u]) := by
    refine asg_ok (ρ1 := [.v (wD A B C), .u, .u, .u]) (o := .new [ptD (0, 0)]) ?_ rfl
    have t0 : evE T [.v (wD A B C), .u, .u, .u] (.tup (.cons (.cst (.int 0)) (.cons (.cst (.int 0)) .nil))) = some (.val (ptD (0, 0)), [.v (wD A B C), .u, .u, .u]) := tupK2 (x := .val (.int 0)) (y := .val (.int 0)) rfl rfl rfl
    rw [evE, ee_cons t0 rfl]
    simp only [Option.bind_some, keepL, keepOp, Option.map_some, List.length_cons, List.length_nil]
    rw [show lenOk (0 + 1) = true from lenOk1]
    rfl
  obtain ⟨x', y', e⟩ := co_loop N T (wD A B C) ((ptsW A B C).take ((ptsW A B C).length - 1)) [] (0, 0) .u .u (by simp; omega)
  rw [List.nil_append, List.nil_append, incl_excl _ _ ne] at e
  have it : evIt T [.v (wD A B C), .o false [ptD (0, 0)], .u, .u] (.ex (.slc (.cal "slot_points" (.cons (.var 0) .nil)) .no (.so (.neg (.cst (.int 1)))))) = some (((ptsW A B C).take ((ptsW A B C).length - 1)).map ptD, [.v (wD A B C), .o false [ptD (0, 0)], .u, .u]) := by
    have c := calPn h1 (ρ := [.v (wD A B C), .o false [ptD (0, 0)], .u, .u]) (es := .cons (.var 0) .nil) (ops := [.slot 0]) rfl rfl (ds := [wD A B C]) rfl rfl (v_slot w)
    simp only [evIt, evE, evC] at c ⊢
    rw [c]
    simp only [Option.bind_some, ofC, Option.map_some, viewOp, slcD, keepOp, cut_lastD, List.length_map, List.map_take]
  exact runP_ok (r := [.v (wD A B C), .o false ((corW A B C).map ptD), x', y']) (ss_nx s1 (ss_nx (s := co_2) (for_ok it e) (ss_rt (ret_ok (bi_tuple (o := .slot 1) rfl rfl) rfl))))
/-! ### the polygon -/
def polOf (M : List (Int × Int)) : List (Int × Int) := M.map fun p => ((M.length : Int) * p.1 - (sumP M).1, (M.length : Int) * p.2 - (sumP M).2)
def polW (A B C : List Int) : List (Int × Int) := polOf (corW A B C)
theorem t_coP : (tabT tb_corners kt0 gl0).fs "corners" = some fs_corners := rfl
theorem v_polygon {k n : Nat} {A B C : List Int} (w : W3 k n A B C) : f_polygon [wD A B C] = some (.tuple ((polW A B C).map ptD)) := by
  have h1 := t_coP
  unfold f_polygon
  rw [po__is]
  generalize (tabT tb_corners kt0 gl0) = T at h1
  generalize 100000 = N
  obtain ⟨q1, q2⟩ := pts_facts A B C k w.a.len w.b.len w.c.len
  have hi := w.hi
  have hl : (corW A B C).length = k := by rw [corW, excl_len, q1]
  unfold polW polOf
  rw [hl]
  have e1 : f_corners [wD A B C] = some (.tuple ((corW A B C).map ptD)) := v_corners w
  generalize corW A B C = M at hl e1
  have hml : ((M.map ptD).length : Int) = k := by rw [List.length_map, hl]
  have s1 : evS N T [.v (wD A B C), .u, .u, .u, .u, .u, .u] po_1 = some (.nx [.v (wD A B C), .v (.tuple (M.map ptD)), .u, .u, .u, .u, .u]) := asg_ok (calPn h1 (ops := [.slot 0]) rfl rfl (ds := [wD A B C]) rfl rfl e1) rfl
  have s2 : evS N T [.v (wD A B C), .v (.tuple (M.map ptD)), .u, .u, .u, .u, .u] po_2 = some (.nx [.v (wD A B C), .v (.tuple (M.map ptD)), .v (.int k), .u, .u, .u, .u]) := by
    rw [← hml]
    exact asg_ok (bi1 (x := .slot 1) (r := .val (.int (M.map ptD).length)) rfl rfl rfl) rfl
  have it : ∀ x3 : Sl, evIt T [.v (wD A B C), .v (.tuple (M.map ptD)), .v (.int k), x3, .u, .u, .u] (.ex (.var 1)) = some (M.map ptD, [.v (wD A B C), .v (.tuple (M.map ptD)), .v (.int k), x3, .u, .u, .u]) := fun x3 => rfl
  have gs : ∀ (g : Int × Int → Int), gnD "sum" (M.map fun p => PyData.int (g p)) = some (.int (M.map g).sum) := fun g => by
    rw [show (M.map fun p => PyData.int (g p)) = (M.map g).map .int by rw [List.map_map]; rfl]
    simp only [gnD, intsD_map, Option.map_some]
  have g1 := gnT (T := T) (own := [("first", 4), ("_", 6)]) (ρ := [.v (wD A B C), .v (.tuple (M.map ptD)), .v (.int k), .u, .u, .u, .u]) (ρ1 := [.v (wD A B C), .v (.tuple (M.map ptD)), .v (.int k), .u, .u, .u, .u]) (it := .ex (.var 1)) (f := "sum") (e := .var 4) (t := .tup (.cons (.nm 4) (.cons (.nm 6) .nil))) (d := .int (sumP M).1) ptD (fun p => .int p.1) (l := M) (it .u)
    (fun q _ => ⟨[.v (wD A B C), .v (.tuple (M.map ptD)), .v (.int k), .u, .v (.int q.1), .u, .v (.int q.2)], .slot 4, bd2 _ 4 6 (by simp [wipeE]) (by simp [wipeE]) _ _, rfl, rfl, rfl⟩)
    (fun q _ => rfl) (fun i hi => .inl (by
      simp only [List.map_cons, List.map_nil, List.mem_cons, List.not_mem_nil, or_false] at hi
      rcases hi with rfl | rfl <;> rfl)) (gs (·.1))
  have g2 := gnT (T := T) (own := [("_", 6), ("second", 5)]) (ρ := [.v (wD A B C), .v (.tuple (M.map ptD)), .v (.int k), .u, .u, .u, .u]) (ρ1 := [.v (wD A B C), .v (.tuple (M.map ptD)), .v (.int k), .u, .u, .u, .u]) (it := .ex (.var 1)) (f := "sum") (e := .var 5) (t := .tup (.cons (.nm 6) (.cons (.nm 5) .nil))) (d := .int (sumP M).2) ptD (fun p => .int p.2) (l := M) (it .u)
    (fun q _ => ⟨[.v (wD A B C), .v (.tuple (M.map ptD)), .v (.int k), .u, .u, .v (.int q.2), .v (.int q.1)], .slot 5, bd2 _ 6 5 (by simp [wipeE]) (by simp [wipeE]) _ _, rfl, rfl, rfl⟩)
    (fun q _ => rfl) (fun i hi => .inl (by
      simp only [List.map_cons, List.map_nil, List.mem_cons, List.not_mem_nil, or_false] at hi
      rcases hi with rfl | rfl <;> rfl)) (gs (·.2))
  generalize sumP M = S at g1 g2 ⊢
  have s3 : evS N T [.v (wD A B C), .v (.tuple (M.map ptD)), .v (.int k), .u, .u, .u, .u] po_3 = some (.nx [.v (wD A B C), .v (.tuple (M.map ptD)), .v (.int k), .v (ptD S), .u, .u, .u]) := asg_ok (tupK2 g1 g2 rfl) rfl
  have hm : ∀ x : Int, mulOk (k : Int) x = true := fun x => mulOk_l (by omega) (by omega)
  have g4 := gnT (T := T) (own := [("first", 4), ("second", 5)]) (ρ := [.v (wD A B C), .v (.tuple (M.map ptD)), .v (.int k), .v (ptD S), .u, .u, .u]) (ρ1 := [.v (wD A B C), .v (.tuple (M.map ptD)), .v (.int k), .v (ptD S), .u, .u, .u]) (it := .ex (.var 1)) (f := "tuple") (e := .tup (.cons (.bin .Sub (.bin .Mult (.var 2) (.var 4)) (.idx (.var 3) (.cst (.int 0)))) (.cons (.bin .Sub (.bin .Mult (.var 2) (.var 5)) (.idx (.var 3) (.cst (.int 1)))) .nil))) (t := .tup (.cons (.nm 4) (.cons (.nm 5) .nil))) (d := .tuple ((M.map fun p => ((k : Int) * p.1 - S.1, (k : Int) * p.2 - S.2)).map ptD)) ptD (fun p => ptD ((k : Int) * p.1 - S.1, (k : Int) * p.2 - S.2)) (l := M) (it _)
    (fun q _ => ⟨[.v (wD A B C), .v (.tuple (M.map ptD)), .v (.int k), .v (ptD S), .v (.int q.1), .v (.int q.2), .u], .val (ptD ((k : Int) * q.1 - S.1, (k : Int) * q.2 - S.2)), bd2 _ 4 5 (by simp [wipeE]) (by simp [wipeE]) _ _, tupK2 (x := .val (.int ((k : Int) * q.1 - S.1))) (y := .val (.int ((k : Int) * q.2 - S.2))) (bin_ok (x := .val (.int ((k : Int) * q.1))) (y := .val (.int S.1)) (bin_ok (x := .slot 2) (y := .slot 4) rfl rfl rfl rfl (bi_mul (hm _))) (idx_ok (x := .slot 3) (y := .val (.int 0)) rfl rfl rfl rfl rfl) rfl rfl rfl) (bin_ok (x := .val (.int ((k : Int) * q.2))) (y := .val (.int S.2)) (bin_ok (x := .slot 2) (y := .slot 5) rfl rfl rfl rfl (bi_mul (hm _))) (idx_ok (x := .slot 3) (y := .val (.int 1)) rfl rfl rfl rfl rfl) rfl rfl rfl) rfl, rfl, rfl⟩)
    (fun q _ => rfl) (fun i hi => .inl (by
      simp only [List.map_cons, List.map_nil, List.mem_cons, List.not_mem_nil, or_false] at hi
      rcases hi with rfl | rfl <;> rfl)) (by
      simp only [gnD, lenOk_le (show (M.map fun p => ptD ((k : Int) * p.1 - S.1, (k : Int) * p.2 - S.2)).length ≤ 16777216 by rw [List.length_map]; omega), if_true]
      rw [List.map_map]; rfl)
  exact runP_ok (ss_nx s1 (ss_nx s2 (ss_nx s3 (ss_rt (s := po_4) (ret_ok g4 rfl)))))
/-! ### equal rows, equal points -/
theorem eqv_ints : ∀ (A B : List Int), PyData.eqvAll (A.map .int) (B.map .int) = decide (A = B)
  | [], [] => by simp [PyData.eqvAll]
  | [], b :: B => by simp [PyData.eqvAll]
  | a :: A, [] => by simp [PyData.eqvAll]
  | a :: A, b :: B => by
    simp only [List.map_cons, PyData.eqvAll, PyData.eqv, eqv_ints A B, List.cons.injEq, Bool.decide_and]
    rfl
theorem canl_ints : ∀ A : List Int, PyData.canLayAll0 (A.map .int) = true
  | [] => rfl
  | a :: A => by simp [PyData.canLayAll0, PyData.canLay0, canl_ints A]
theorem dep_ints : ∀ A : List Int, PyData.depthAll (A.map .int) = 0
  | [] => rfl
  | a :: A => by simp [PyData.depthAll, PyData.depth, dep_ints A]
theorem shaped_tupI (A : List Int) : SeqAt.shaped (tupI A) = true := by
  have h1 : (tupI A).canLay0 = true := by
    show PyData.canLayAll0 _ = true
    exact canl_ints A
  have h2 : (tupI A).depth = 1 := by
    show PyData.depthAll _ + 1 = 1
    rw [dep_ints]
  simp [SeqAt.shaped, h1, h2]
theorem eq_tupI (A B : List Int) : cmpD .Eq (tupI A) (tupI B) = some (decide (A = B)) := by
  unfold cmpD
  simp only [shaped_tupI, Bool.and_self, if_true]
  rw [show PyData.eqv (tupI A) (tupI B) = PyData.eqvAll (A.map .int) (B.map .int) from rfl, eqv_ints]
theorem ne_tupI (A B : List Int) : cmpD .NotEq (tupI A) (tupI B) = some (!decide (A = B)) := by
  unfold cmpD
  simp only [shaped_tupI, Bool.and_self, if_true]
  rw [show PyData.eqv (tupI A) (tupI B) = PyData.eqvAll (A.map .int) (B.map .int) from rfl, eqv_ints]
theorem pt_tup (p : Int × Int) : ptD p = tupI [p.1, p.2] := rfl
theorem pt_inj (p q : Int × Int) : ([p.1, p.2] = [q.1, q.2]) ↔ p = q := by
  obtain ⟨a, b⟩ := p
  obtain ⟨c, d⟩ := q
  simp
theorem eq_pt (p q : Int × Int) : cmpD .Eq (ptD p) (ptD q) = some (decide (p = q)) := by
  rw [pt_tup, pt_tup, eq_tupI]
  simp only [pt_inj]
theorem ne_pt (p q : Int × Int) : cmpD .NotEq (ptD p) (ptD q) = some (!decide (p = q)) := by
  rw [pt_tup, pt_tup, ne_tupI]
  simp only [pt_inj]
end Ev

set_option maxHeartbeats 1000000
namespace Ev
open PySem L2
/-! ### points that may be shown -/
theorem tm_pt {n : Nat} {p : Int × Int} (hn : n ≤ 1600) (h : BdP n p) : (ptD p).showable = true ∧ (ptD p).hasDict = false ∧ (ptD p).leavesShort 501 = true ∧ (ptD p).depth = 1 ∧ (ptD p).weight ≤ 2 * (n + 1) := by
  have ha : ∀ x ∈ [p.1, p.2], Bd n x := fun x hx => by
    rcases List.mem_cons.mp hx with rfl | hx
    · exact h.1
    · rw [List.mem_singleton.mp hx]; exact h.2
  obtain ⟨b1, b2, b3, b4, b5⟩ := tame_all hn ha
  rw [pt_tup]
  refine ⟨b1, b2, b3, ?_, b5⟩
  show PyData.depthAll _ + 1 = 1
  rw [b4]
theorem tm_pts {n : Nat} (hn : n ≤ 1600) : ∀ {V : List (Int × Int)}, (∀ p ∈ V, BdP n p) → PyData.showableAll (V.map ptD) = true ∧ PyData.hasDictAll (V.map ptD) = false ∧ PyData.leavesShortAll 501 (V.map ptD) = true ∧ PyData.depthAll (V.map ptD) ≤ 1 ∧ PyData.weightAll (V.map ptD) ≤ V.length * (2 * (n + 1) + 1)
  | [], _ => by simp [PyData.showableAll, PyData.hasDictAll, PyData.leavesShortAll, PyData.depthAll, PyData.weightAll]
  | p :: V, h => by
    obtain ⟨a1, a2, a3, a4, a5⟩ := tm_pt hn (h p List.mem_cons_self)
    obtain ⟨b1, b2, b3, b4, b5⟩ := tm_pts hn (V := V) fun x hx => h x (List.mem_cons_of_mem _ hx)
    refine ⟨?_, ?_, ?_, ?_, ?_⟩
    · simp only [List.map_cons, PyData.showableAll, a1, b1, Bool.and_self]
    · simp only [List.map_cons, PyData.hasDictAll, a2, b2, Bool.or_self]
    · simp only [List.map_cons, PyData.leavesShortAll, a3, b3, Bool.and_self]
    · simp only [List.map_cons, PyData.depthAll, a4]; omega
    · simp only [List.map_cons, PyData.weightAll, List.length_cons]
      rw [Nat.add_mul V.length 1, Nat.one_mul]
      omega
theorem rep_pts {n m : Nat} (hn : n ≤ 1600) {V : List (Int × Int)} (h : ∀ p ∈ V, BdP n p) (hw : V.length * (2 * (n + 1) + 1) ≤ m) (hm : m ≤ 9900) : reprOk (.list [.tuple (V.map ptD), .tuple (V.map ptD)]) = true := by
  obtain ⟨b1, b2, b3, b4, b5⟩ := tm_pts hn h
  refine reprOk_of ?_ ?_ ?_ ?_ ?_
  · show PyData.showableAll [_, _] = true
    simp only [PyData.showableAll, PyData.showable, b1, Bool.and_self]
  · show PyData.hasDictAll [_, _] = false
    simp only [PyData.hasDictAll, PyData.hasDict, b2, Bool.or_self]
  · show PyData.leavesShortAll 501 [_, _] = true
    simp only [PyData.leavesShortAll, PyData.leavesShort, b3, Bool.and_self]
  · show PyData.depthAll [_, _] + 1 ≤ 20
    simp only [PyData.depthAll, PyData.depth]; omega
  · show PyData.weightAll [_, _] ≤ 20000
    simp only [PyData.weightAll, PyData.weight]; omega
theorem so_pts (V : List (Int × Int)) : TxO (PyData.tuple (V.map ptD)).shown := by
  refine so_tuple (ts := PyData.shownAll (V.map ptD)) ?_
  induction V with
  | nil => intro t ht; simp [PyData.shownAll] at ht
  | cons p V ih =>
    intro t ht
    simp only [List.map_cons, PyData.shownAll, List.mem_cons] at ht
    rcases ht with rfl | ht
    · rw [pt_tup]; exact so_tup _
    · exact ih t ht
theorem ne_rep2 {T : Tb} {ρ : En} {a b a' b' : IE} {x y x' y' : Op} {d e : D} (h1 : evE T ρ a = some (x, ρ)) (h2 : evE T ρ b = some (y, ρ)) (hk : keepL ρ [x, y] = some ([d, e], ρ)) (h1' : evE T ρ a' = some (x', ρ)) (h2' : evE T ρ b' = some (y', ρ)) (hk' : keepL ρ [x', y'] = some ([d, e], ρ)) (hr : reprOk (.list [d, e]) = true) (td : TxO d.shown) (te : TxO e.shown) :
    evT T ρ (.cmp .NotEq (.bi "repr" (.cons (.lst (.cons a (.cons b .nil))) .nil)) (.bi "repr" (.cons (.lst (.cons a' (.cons b' .nil))) .nil))) = some (false, ρ) :=
  cmpT_ok (rep_ok h1 h2 hk hr) (rep_ok h1' h2' hk' hr) rfl rfl (ne_same (so_L2 td te))
theorem eq_rep2 {T : Tb} {ρ : En} {a b a' b' : IE} {x y x' y' : Op} {d e : D} (h1 : evE T ρ a = some (x, ρ)) (h2 : evE T ρ b = some (y, ρ)) (hk : keepL ρ [x, y] = some ([d, e], ρ)) (h1' : evE T ρ a' = some (x', ρ)) (h2' : evE T ρ b' = some (y', ρ)) (hk' : keepL ρ [x', y'] = some ([d, e], ρ)) (hr : reprOk (.list [d, e]) = true) (td : TxO d.shown) (te : TxO e.shown) :
    evE T ρ (.cmp .Eq (.bi "repr" (.cons (.lst (.cons a (.cons b .nil))) .nil)) (.bi "repr" (.cons (.lst (.cons a' (.cons b' .nil))) .nil))) = some (.val (.bool true), ρ) :=
  cmpE_ok (rep_ok h1 h2 hk hr) (rep_ok h1' h2' hk' hr) rfl rfl (eq_same (so_L2 td te))
theorem rep_bool (b : Bool) : reprOk (.list [.bool b, .bool b]) = true := by cases b <;> decide +kernel
theorem so_bool (b : Bool) : TxO (PyData.bool b).shown := by cases b <;> exact so_of _
/-! ### the sums of corners and of the polygon -/
theorem excl_bd {b : Nat} : ∀ {V : List (Int × Int)} {s : Int × Int} {c : Nat}, (∀ p ∈ V, PtB b p) → PtB c s → ∀ q ∈ excl s V, PtB (c + b * V.length) q
  | [], s, c, _, _, q, hq => by cases hq
  | p :: V, s, c, h, hs, q, hq => by
    have hp := h p List.mem_cons_self
    rcases List.mem_cons.mp hq with rfl | hq
    · exact hs.mono (by omega)
    · have h2 : PtB (c + b) (addP s p) := by
        obtain ⟨a1, a2⟩ := hs
        obtain ⟨c1, c2⟩ := hp
        exact ⟨by simp only [addP]; omega, by simp only [addP]; omega⟩
      refine (excl_bd (V := V) (fun x hx => h x (List.mem_cons_of_mem _ hx)) h2 q hq).mono ?_
      rw [List.length_cons, Nat.mul_succ]; omega
theorem pt_of_bd {n : Nat} {p : Int × Int} (h : BdP n p) : PtB (2 ^ n) p := ⟨Nat.le_of_lt h.1, Nat.le_of_lt h.2⟩
theorem bd_of_pt {b n : Nat} {p : Int × Int} (h : PtB b p) (hb : b < 2 ^ n) : BdP n p := ⟨Nat.lt_of_le_of_lt h.1 hb, Nat.lt_of_le_of_lt h.2 hb⟩
theorem pol_len (M : List (Int × Int)) : (polOf M).length = M.length := by simp [polOf]
theorem sub_sum (k c : Int) (g : Int × Int → Int) : ∀ M : List (Int × Int), (M.map fun p => k * g p - c).sum = k * (M.map g).sum - (M.length : Int) * c
  | [] => by simp
  | p :: M => by
    simp only [List.map_cons, List.sum_cons, sub_sum k c g M, List.length_cons]
    push_cast
    rw [Int.mul_add, Int.add_mul]
    omega
theorem pol_sum (M : List (Int × Int)) : sumP (polOf M) = (0, 0) := by
  simp only [sumP, polOf, List.map_map]
  rw [Prod.mk.injEq]
  constructor
  · rw [show ((fun x => x.1) ∘ fun p : Int × Int => ((M.length : Int) * p.1 - (M.map (·.1)).sum, (M.length : Int) * p.2 - (M.map (·.2)).sum)) = fun p => (M.length : Int) * (fun q : Int × Int => q.1) p - (M.map (·.1)).sum from rfl, sub_sum]
    exact Int.sub_self _
  · rw [show ((fun x => x.2) ∘ fun p : Int × Int => ((M.length : Int) * p.1 - (M.map (·.1)).sum, (M.length : Int) * p.2 - (M.map (·.2)).sum)) = fun p => (M.length : Int) * (fun q : Int × Int => q.2) p - (M.map (·.2)).sum from rfl, sub_sum]
    exact Int.sub_self _
theorem pol_bd {M : List (Int × Int)} {b : Nat} (h : ∀ p ∈ M, PtB b p) : ∀ p ∈ polOf M, PtB (2 * (b * M.length)) p := by
  intro p hp
  obtain ⟨q, hq, rfl⟩ := List.mem_map.mp hp
  obtain ⟨s1, s2⟩ := sumP_bd h
  obtain ⟨q1, q2⟩ := h q hq
  have m1 : ((M.length : Int) * q.1).natAbs ≤ b * M.length := by
    rw [Int.natAbs_mul, Int.natAbs_natCast, Nat.mul_comm]
    exact Nat.mul_le_mul_right _ q1
  have m2 : ((M.length : Int) * q.2).natAbs ≤ b * M.length := by
    rw [Int.natAbs_mul, Int.natAbs_natCast, Nat.mul_comm]
    exact Nat.mul_le_mul_right _ q2
  exact ⟨by simp only; omega, by simp only; omega⟩
theorem gP_cons0 (p : Int × Int) (V : List (Int × Int)) : gP (p :: V) 0 = p := rfl
theorem gP_consS (p : Int × Int) (V : List (Int × Int)) (j : Nat) : gP (p :: V) (j + 1) = gP V j := by simp [gP]
theorem excl_step : ∀ (V : List (Int × Int)) (s : Int × Int) (j : Nat), j + 1 < V.length → gP (excl s V) (j + 1) = addP (gP (excl s V) j) (gP V j)
  | [], _, _, h => by simp at h
  | [_], _, _, h => by simp at h
  | p :: q :: V, s, 0, _ => rfl
  | p :: q :: V, s, j + 1, h => by
    have := excl_step (q :: V) (addP s p) j (by simp at h ⊢; omega)
    rw [excl, gP_consS, gP_consS, gP_consS]
    exact this
theorem excl_end : ∀ (V : List (Int × Int)) (s : Int × Int), V ≠ [] → addP (gP (excl s V) (V.length - 1)) (gP V (V.length - 1)) = addP s (sumP V)
  | [], _, h => absurd rfl h
  | [p], s, _ => by simp [excl, gP, sumP, addP]
  | p :: q :: V, s, _ => by
    have := excl_end (q :: V) (addP s p) (by simp)
    rw [show (p :: q :: V).length - 1 = ((q :: V).length - 1) + 1 by simp, excl, gP_consS, gP_consS, this, sumP_cons p]
    simp only [addP]
    rw [Prod.mk.injEq]
    omega
def nxtI (k s : Nat) : Nat := if s + 1 = k then 0 else s + 1
theorem ixN_nxt {k s : Nat} (h : s < k) : ixN k ((s : Int) + 1 - k) = some (nxtI k s) := by
  unfold ixN nxtI
  by_cases e : s + 1 = k
  · rw [if_pos (by omega), if_pos (by omega), if_pos e]
    congr 1; omega
  · rw [if_neg (by omega), if_pos (by omega), if_neg e]
    congr 1; omega
theorem gP_map (f : Int × Int → Int × Int) {M : List (Int × Int)} {j : Nat} (h : j < M.length) : gP (M.map f) j = f (gP M j) := by
  simp only [gP, List.getElem?_map]
  rw [List.getElem?_eq_getElem h]
  rfl
theorem pol_step {V : List (Int × Int)} (hs : sumP V = (0, 0)) {s : Nat} (h : s < V.length) : ((gP (polOf (excl (0, 0) V)) (nxtI V.length s)).1 - (gP (polOf (excl (0, 0) V)) s).1, (gP (polOf (excl (0, 0) V)) (nxtI V.length s)).2 - (gP (polOf (excl (0, 0) V)) s).2) = ((V.length : Int) * (gP V s).1, (V.length : Int) * (gP V s).2) := by
  have hl := excl_len V (0, 0)
  have hn : nxtI V.length s < V.length := by unfold nxtI; split <;> omega
  have key : addP (gP (excl (0, 0) V) s) (gP V s) = gP (excl (0, 0) V) (nxtI V.length s) := by
    unfold nxtI
    by_cases e : s + 1 = V.length
    · rw [if_pos e]
      have ne : V ≠ [] := by
        intro z; rw [z] at h; simp at h
      have h2 := excl_end V (0, 0) ne
      rw [show V.length - 1 = s by omega, hs] at h2
      rw [h2]
      cases V with
      | nil => exact absurd rfl ne
      | cons p V => rfl
    · rw [if_neg e]
      exact (excl_step V (0, 0) s (by omega)).symm
  unfold polOf
  rw [gP_map _ (by omega), gP_map _ (by omega), ← key, hl]
  simp only [addP]
  rw [Prod.mk.injEq, Int.mul_add, Int.mul_add]
  omega
theorem flat_iff : ∀ (A B C : List Int) (k : Nat), A.length = k → B.length = k → C.length = k → ((ptsW A B C).all fun p => decide (p = (0, 0))) = (decide (A = B) && decide (B = C))
  | [], [], [], _, _, _, _ => by simp [ptsW]
  | a :: A, b :: B, c :: C, k, h1, h2, h3 => by
    have ih := flat_iff A B C (k - 1) (by simp at h1; omega) (by simp at h2; omega) (by simp at h3; omega)
    simp only [ptsW, List.zip_cons_cons, List.map_cons, List.all_cons] at ih ⊢
    rw [ih]
    have e1 : decide (ptOf (a, b, c) = (0, 0)) = (decide (a = b) && decide (b = c)) := by
      rw [← Bool.decide_and]
      refine decide_eq_decide.mpr ?_
      simp only [ptOf, Prod.mk.injEq]
      omega
    rw [e1]
    simp only [List.cons.injEq, Bool.decide_and]
    cases decide (a = b) <;> cases decide (b = c) <;> cases decide (A = B) <;> cases decide (B = C) <;> rfl
  | [], b :: B, _, k, h1, h2, _ => by simp at h1 h2; omega
  | a :: A, [], _, k, h1, h2, _ => by simp at h1 h2; omega
  | [], [], c :: C, k, h1, _, h3 => by simp at h1 h3; omega
  | a :: A, b :: B, [], k, h1, _, h3 => by simp at h1 h3; omega
theorem var_v {T : Tb} {ρ : En} {i : Nat} {d : D} (h : ρ[i]? = some (.v d)) : evE T ρ (.var i) = some (.slot i, ρ) := by simp only [evE, h]
theorem vw_v {ρ : En} {i : Nat} {d : D} (h : ρ[i]? = some (.v d)) : viewOp ρ (.slot i) = some d := by simp only [viewOp, h]
theorem idx_vc {T : Tb} {ρ : En} {i : Nat} {d r : D} {c : Int} (h : ρ[i]? = some (.v d)) (h2 : idxD d (.int c) = some r) : evE T ρ (.idx (.var i) (.cst (.int c))) = some (.val r, ρ) := idx_ok (x := .slot i) (y := .val (.int c)) (var_v h) rfl (vw_v h) rfl h2
theorem idx_vv {T : Tb} {ρ : En} {i j : Nat} {d e r : D} (h : ρ[i]? = some (.v d)) (h1 : ρ[j]? = some (.v e)) (h2 : idxD d e = some r) : evE T ρ (.idx (.var i) (.var j)) = some (.val r, ρ) := idx_ok (x := .slot i) (y := .slot j) (var_v h) (var_v h1) (vw_v h) (vw_v h1) h2
theorem la_sum {T : Tb} {ρ ρ1 : En} {M : List (Int × Int)} {i j : Nat} {nm : Str} (g : Int × Int → Int) (c : Int) (hit : evIt T ρ (.ex (.var i)) = some (M.map ptD, ρ1)) (hv : ρ1[j]? = some .u ∨ ∃ d, ρ1[j]? = some (.v d)) (hg : ∀ p, idxD (ptD p) (.int c) = some (.int (g p))) (hl : M.length ≤ 1000) :
    evE T ρ (.bi "sum" (.cons (.lc (.idx (.var j) (.cst (.int c))) (.nm j) [(nm, j)] (.ex (.var i)) .no) .nil)) = some (.val (.int (M.map g).sum), ρ1) := by
  have hj : j < ρ1.length := by
    rcases hv with h | ⟨d, h⟩ <;> exact (List.getElem?_eq_some_iff.mp h).1
  have lc := lcM (T := T) (own := [(nm, j)]) (ρ := ρ) (ρ1 := ρ1) (it := .ex (.var i)) (e := .idx (.var j) (.cst (.int c))) (t := .nm j) ptD (fun p => .int (g p)) (l := M) hit (fun p _ => ⟨ρ1.set j (.v (ptD p)), .val (.int (g p)), by
      simp only [List.map_cons, List.map_nil, wipeE]
      rw [bd_set _ j (by rw [List.length_set]; exact hj), List.set_set], by
      have hs : (ρ1.set j (.v (ptD p)))[j]? = some (.v (ptD p)) := List.getElem?_set_self hj
      exact idx_vc hs (hg p), rfl, by
      simp only [List.map_cons, List.map_nil, wipeE, List.set_set]⟩) (fun x hx => by
    have : x = j := by simpa using hx
    rw [this]; exact hv) (lenOk_le (by omega))
  refine bi1 lc rfl ?_
  rw [show (M.map fun p => PyData.int (g p)) = (M.map g).map .int by rw [List.map_map]; rfl]
  exact sum_v _
theorem or_ff {T : Tb} {ρ ρ1 ρ2 : En} {a b : IE} (ha : evT T ρ a = some (false, ρ1)) (hb : evT T ρ1 b = some (false, ρ2)) : evT T ρ (.or a (.one b)) = some (false, ρ2) := by
  simp [evT, ha, hb]
end Ev

set_option maxHeartbeats 1000000
namespace Ev
open PySem L2
def ip_1 : IS := .ret (.and (.cal "are_wholes" (.cons (.var 0) .nil)) (.one (.cmp .Eq (.bi "len" (.cons (.var 0) .nil)) (.cst (.int 2)))))
def ip_ : ISs := (.cons ip_1 .nil)
theorem ip__is : i_is_point = ip_ := rfl
def cpt_1t1 : IS := .nev
def cpt_1t : ISs := (.cons cpt_1t1 .nil)
def cpt_1 : IS := .ifs (.not (.cal "is_point" (.cons (.var 0) .nil))) cpt_1t .nil
def cpt_ : ISs := (.cons cpt_1 .nil)
theorem cpt__is : i_check_point = cpt_ := rfl
def no_1 : IS := .exp (.cal "check_point" (.cons (.var 0) .nil))
def no_2 : IS := .asg (.tup (.cons (.nm 1) (.cons (.nm 2) .nil))) (.var 0)
def no_3 : IS := .ret (.bin .Add (.bin .Sub (.bin .Mult (.var 1) (.var 1)) (.bin .Mult (.var 1) (.var 2))) (.bin .Mult (.var 2) (.var 2)))
def no_ : ISs := (.cons no_1 (.cons no_2 (.cons no_3 .nil)))
theorem no__is : i_norm_of = no_ := rfl
def ns_1 : IS := .ret (.lc (.cal "norm_of" (.cons (.var 1) .nil)) (.nm 1) [("point", 1)] (.ex (.cal "polygon" (.cons (.var 0) .nil))) .no)
def ns_ : ISs := (.cons ns_1 .nil)
theorem ns__is : i__norms = ns_ := rfl
def lt_1 : IS := .asg (.nm 2) (.cal "gcd" (.cons (.var 0) (.cons (.var 1) .nil)))
def lt_2 : IS := .ret (.tup (.cons (.bin .FloorDiv (.var 0) (.var 2)) (.cons (.bin .FloorDiv (.var 1) (.var 2)) .nil)))
def lt_ : ISs := (.cons lt_1 (.cons lt_2 .nil))
theorem lt__is : i_lowest_terms = lt_ := rfl
def ms_1 : IS := .asg (.nm 1) (.cal "_norms" (.cons (.var 0) .nil))
def ms_2 : IS := .ret (.cal "lowest_terms" (.cons (.bi "sum" (.cons (.var 1) .nil)) (.cons (.bin .Pow (.bi "len" (.cons (.var 1) .nil)) (.cst (.int 3))) .nil)))
def ms_ : ISs := (.cons ms_1 (.cons ms_2 .nil))
theorem ms__is : i_mean_square = ms_ := rfl
def nrm (p : Int × Int) : Int := p.1 * p.1 - p.1 * p.2 + p.2 * p.2
def tms (p q : Int × Int) : Int × Int := (p.1 * q.1 - p.2 * q.2, p.1 * q.2 + p.2 * q.1 - p.2 * q.2)
theorem nrm_bd {n : Nat} {p : Int × Int} (h : BdP n p) : Bd (2 * n + 2) (nrm p) := by
  have e : n + n = 2 * n := by omega
  have h1 := h.1.mul h.1
  have h2 := h.1.mul h.2
  have h3 := h.2.mul h.2
  rw [e] at h1 h2 h3
  exact (h1.sub h2).add (h3.mono (by omega))
theorem tms_bd {n : Nat} {p q : Int × Int} (h : BdP n p) (k : BdP n q) : BdP (2 * n + 2) (tms p q) := by
  have e : n + n = 2 * n := by omega
  have h1 := h.1.mul k.1
  have h2 := h.2.mul k.2
  have h3 := h.1.mul k.2
  have h4 := h.2.mul k.1
  rw [e] at h1 h2 h3 h4
  exact ⟨(h1.sub h2).mono (by omega), (h3.add h4).sub (h2.mono (by omega))⟩
theorem mulP {n : Nat} {x y : Int} (h : Bd n x) (k : Bd n y) (hn : n ≤ 1000) : binD .Mult (.int x) (.int y) = some (.val (.int (x * y))) := bi_mul (h.mulOk k (by omega))
theorem t_awP : (tabT tb_are_wholes kt0 gl0).fs "are_wholes" = some fs_are_wholes := rfl
theorem v_is_point (p : Int × Int) : f_is_point [ptD p] = some (.bool true) := by
  have h1 := t_awP
  unfold f_is_point
  rw [ip__is]
  generalize (tabT tb_are_wholes kt0 gl0) = T at h1
  generalize 100000 = N
  have e : evE T [.v (ptD p)] (.and (.cal "are_wholes" (.cons (.var 0) .nil)) (.one (.cmp .Eq (.bi "len" (.cons (.var 0) .nil)) (.cst (.int 2))))) = some (.val (.bool true), [.v (ptD p)]) := by
    rw [and_t (calPn h1 (ops := [.slot 0]) rfl rfl (ds := [ptD p]) rfl rfl (v_are_wholes [p.1, p.2])) rfl, one_e]
    exact cmpE_ok (x := .val (.int 2)) (y := .val (.int 2)) (bi1 (x := .slot 0) rfl rfl rfl) rfl rfl rfl (cmp_eq _ _)
  exact runP_ok (ss_rt (s := ip_1) (ret_ok e rfl))
theorem t_ipC : (tabT tb_is_point kt0 gl0).fs "is_point" = some fs_is_point := rfl
theorem v_check_point (p : Int × Int) : f_check_point [ptD p] = some .none := by
  have h1 := t_ipC
  unfold f_check_point
  rw [cpt__is]
  generalize (tabT tb_is_point kt0 gl0) = T at h1
  generalize 100000 = N
  have e : evT T [.v (ptD p)] (.not (.cal "is_point" (.cons (.var 0) .nil))) = some (false, [.v (ptD p)]) := by
    have := calPt h1 (ρ := [.v (ptD p)]) (es := .cons (.var 0) .nil) (ops := [.slot 0]) rfl rfl (ds := [ptD p]) rfl (v_is_point p)
    simp only [evT] at this ⊢
    rw [this]
    rfl
  exact runP_nx (ss_nx (s := cpt_1) (if_no e) rfl)
theorem t_cpN : (tabT tb_check_point kt0 gl0).fs "check_point" = some fs_check_point := rfl
theorem v_norm {n : Nat} {p : Int × Int} (h : BdP n p) (hn : n ≤ 1000) : f_norm_of [ptD p] = some (.int (nrm p)) := by
  have h1 := t_cpN
  unfold f_norm_of
  rw [no__is]
  generalize (tabT tb_check_point kt0 gl0) = T at h1
  generalize 100000 = N
  have e3 : evE T [.v (ptD p), .v (.int p.1), .v (.int p.2)] (.bin .Add (.bin .Sub (.bin .Mult (.var 1) (.var 1)) (.bin .Mult (.var 1) (.var 2))) (.bin .Mult (.var 2) (.var 2))) = some (.val (.int (nrm p)), [.v (ptD p), .v (.int p.1), .v (.int p.2)]) :=
    bin_ok (x := .val (.int (p.1 * p.1 - p.1 * p.2))) (y := .val (.int (p.2 * p.2))) (bin_ok (x := .val (.int (p.1 * p.1))) (y := .val (.int (p.1 * p.2))) (bin_ok (x := .slot 1) (y := .slot 1) rfl rfl rfl rfl (mulP h.1 h.1 hn)) (bin_ok (x := .slot 1) (y := .slot 2) rfl rfl rfl rfl (mulP h.1 h.2 hn)) rfl rfl rfl) (bin_ok (x := .slot 2) (y := .slot 2) rfl rfl rfl rfl (mulP h.2 h.2 hn)) rfl rfl rfl
  exact runP_ok (ss_nx (s := no_1) (exp_ok (calPn h1 (ops := [.slot 0]) rfl rfl (ds := [ptD p]) rfl rfl (v_check_point p))) (ss_nx (s := no_2) (ρ1 := [.v (ptD p), .v (.int p.1), .v (.int p.2)]) (asg_ok (o := .slot 0) rfl rfl) (ss_rt (ret_ok e3 rfl))))
theorem t_nN : (tabT tb_polygon kt0 gl0).fs "norm_of" = some fs_norm_of := rfl
theorem t_pN : (tabT tb_polygon kt0 gl0).fs "polygon" = some fs_polygon := rfl
theorem v_norms {k n m : Nat} {A B C : List Int} (w : W3 k n A B C) (hb : ∀ p ∈ polW A B C, BdP m p) (hm : m ≤ 1000) (hl : (polW A B C).length ≤ 60) : f__norms [wD A B C] = some (.list (((polW A B C).map nrm).map .int)) := by
  have h1 := t_nN
  have h2 := t_pN
  unfold f__norms
  rw [ns__is]
  generalize (tabT tb_polygon kt0 gl0) = T at h1 h2
  generalize 100000 = N
  have c := v_polygon w
  generalize polW A B C = P at *
  have lc := lcM (T := T) (own := [("point", 1)]) (ρ := [.v (wD A B C), .u]) (ρ1 := [.v (wD A B C), .u]) (it := .ex (.cal "polygon" (.cons (.var 0) .nil))) (e := .cal "norm_of" (.cons (.var 1) .nil)) (t := .nm 1) ptD (fun p => .int (nrm p)) (l := P) (by
    have c := calPn h2 (ρ := [.v (wD A B C), .u]) (es := .cons (.var 0) .nil) (ops := [.slot 0]) rfl rfl (ds := [wD A B C]) rfl rfl c
    simp only [evIt, c, Option.bind_some, keepOp]) (fun p hp => ⟨[.v (wD A B C), .v (ptD p)], .val (.int (nrm p)), rfl, calPn h1 (ops := [.slot 1]) rfl rfl (ds := [ptD p]) rfl rfl (v_norm (hb p hp) hm), rfl, rfl⟩) (fun i hi => .inl (by
      have : i = 1 := by simpa using hi
      subst this; rfl)) (lenOk_le (by omega))
  rw [List.map_map]
  exact runP_ok (ss_rt (s := ns_1) (ret_ok lc rfl))
/-! ### fractions in lowest terms -/
def gcI (a b : Int) : Int := ((Nat.gcd a.natAbs b.natAbs : Nat) : Int)
def redP (a b : Int) : Int × Int := (a / gcI a b, b / gcI a b)
theorem gc_dv {a b : Int} (h1 : 0 < b) (h2 : b ≤ 1000000) : divOk (gcI a b) = true := by
  have hp : 0 < Nat.gcd a.natAbs b.natAbs := Nat.gcd_pos_of_pos_right _ (by omega)
  have hl : Nat.gcd a.natAbs b.natAbs ≤ b.natAbs := Nat.gcd_le_right _ (by omega)
  unfold gcI divOk
  rw [decide_eq_true_eq, Int.natAbs_natCast]
  refine ⟨by omega, ?_⟩
  have h20 : (Nat.gcd a.natAbs b.natAbs).log2 < 20 := (Nat.log2_lt (by omega)).mpr (by
    have : (2 : Nat) ^ 20 = 1048576 := by decide
    omega)
  omega
theorem t_gL : (tabT tb__norms kt0 gl0).fs "gcd" = some (.p 2 gcdF) := rfl
theorem v_low {a b : Int} (h1 : 0 < b) (h2 : b ≤ 1000000) : f_lowest_terms [.int a, .int b] = some (ptD (redP a b)) := by
  have hg := t_gL
  unfold f_lowest_terms
  rw [lt__is]
  generalize (tabT tb__norms kt0 gl0) = T at hg
  generalize 100000 = N
  have s1 : evS N T [.v (.int a), .v (.int b), .u] lt_1 = some (.nx [.v (.int a), .v (.int b), .v (.int (gcI a b))]) := asg_ok (calPn hg (ops := [.slot 0, .slot 1]) rfl rfl (ds := [.int a, .int b]) rfl rfl rfl) rfl
  have e2 : evE T [.v (.int a), .v (.int b), .v (.int (gcI a b))] (.tup (.cons (.bin .FloorDiv (.var 0) (.var 2)) (.cons (.bin .FloorDiv (.var 1) (.var 2)) .nil))) = some (.val (ptD (redP a b)), [.v (.int a), .v (.int b), .v (.int (gcI a b))]) :=
    tupK2 (bin_ok (x := .slot 0) (y := .slot 2) rfl rfl rfl rfl (bi_div (gc_dv h1 h2))) (bin_ok (x := .slot 1) (y := .slot 2) rfl rfl rfl rfl (bi_div (gc_dv h1 h2))) rfl
  exact runP_ok (ss_nx s1 (ss_rt (s := lt_2) (ret_ok e2 rfl)))
def mxI (l : List Int) : Int := l.max?.getD 0
theorem max_v {l : List Int} (h : l ≠ []) : biD "max" [.list (l.map .int)] = some (.val (.int (mxI l))) := by
  cases l with
  | nil => exact absurd rfl h
  | cons a l => simp only [biD, intsD_map, Option.bind_some, mxI, List.max?_cons', Option.map_some, Option.getD_some]
theorem pow_c {k : Nat} (hk : k ≤ 60) (j : Int) (hj : j = 2 ∨ j = 3) : binD .Pow (.int (k : Int)) (.int j) = some (.val (.int ((k : Int) ^ j.toNat))) := by
  have : powOk (k : Int) j = true := by
    have : ∀ k : Nat, k < 61 → powOk (k : Int) 2 = true ∧ powOk (k : Int) 3 = true := by decide +kernel
    rcases hj with rfl | rfl
    · exact (this k (by omega)).1
    · exact (this k (by omega)).2
  simp only [binD, binI, this, if_true, Option.map_some]
theorem t_ltM : (tabT tb_lowest_terms kt0 gl0).fs "lowest_terms" = some fs_lowest_terms := rfl
theorem t_nsM : (tabT tb_lowest_terms kt0 gl0).fs "_norms" = some fs__norms := rfl
theorem pow_bd {k : Nat} (h0 : 1 ≤ k) (hk : k ≤ 60) : (0 < (k : Int) ^ 3 ∧ (k : Int) ^ 3 ≤ 1000000) ∧ (0 < (k : Int) ^ 2 ∧ (k : Int) ^ 2 ≤ 1000000) := by
  have : ∀ k : Nat, k < 61 → 1 ≤ k → (0 < (k : Int) ^ 3 ∧ (k : Int) ^ 3 ≤ 1000000) ∧ (0 < (k : Int) ^ 2 ∧ (k : Int) ^ 2 ≤ 1000000) := by decide +kernel
  exact this k (by omega) h0
theorem v_mean {k n m : Nat} {A B C : List Int} (w : W3 k n A B C) (hb : ∀ p ∈ polW A B C, BdP m p) (hm : m ≤ 1000) (hl : (polW A B C).length = k) : f_mean_square [wD A B C] = some (ptD (redP ((polW A B C).map nrm).sum ((k : Int) ^ 3))) := by
  have h1 := t_ltM
  have h2 := t_nsM
  unfold f_mean_square
  rw [ms__is]
  generalize (tabT tb_lowest_terms kt0 gl0) = T at h1 h2
  generalize 100000 = N
  have lo := w.lo
  have hi := w.hi
  have c := v_norms w hb hm (by omega)
  generalize polW A B C = P at *
  have hln : ((P.map nrm).map PyData.int).length = k := by simp [hl]
  have s1 : evS N T [.v (wD A B C), .u] ms_1 = some (.nx [.v (wD A B C), .v (.list ((P.map nrm).map .int))]) := asg_ok (calPn h2 (ops := [.slot 0]) rfl rfl (ds := [wD A B C]) rfl rfl c) rfl
  have hp := pow_bd (k := k) (by omega) hi
  have e2 : evE T [.v (wD A B C), .v (.list ((P.map nrm).map .int))] (.cal "lowest_terms" (.cons (.bi "sum" (.cons (.var 1) .nil)) (.cons (.bin .Pow (.bi "len" (.cons (.var 1) .nil)) (.cst (.int 3))) .nil))) = some (.val (ptD (redP (P.map nrm).sum ((k : Int) ^ 3))), [.v (wD A B C), .v (.list ((P.map nrm).map .int))]) := by
    refine calPn h1 (ops := [.val (.int (P.map nrm).sum), .val (.int ((k : Int) ^ 3))]) (ee_cons (bi1 (x := .slot 1) rfl rfl (sum_v _)) (ee_cons (bin_ok (x := .val (.int (k : Int))) (y := .val (.int 3)) (bi1 (x := .slot 1) rfl rfl ?_) rfl rfl rfl (pow_c hi 3 (.inr rfl))) rfl)) rfl (ds := [.int (P.map nrm).sum, .int ((k : Int) ^ 3)]) rfl rfl (v_low hp.1.1 hp.1.2)
    rw [← hln]; rfl
  exact runP_ok (ss_nx s1 (ss_rt (s := ms_2) (ret_ok e2 rfl)))
end Ev

set_option maxHeartbeats 1000000
namespace Ev
open PySem L2
def iw_1 : IS := .ret (.and (.cal "is_whole" (.cons (.var 0) .nil)) (.one (.cmp2 .LtE .LtE (.var 1) (.var 0) (.var 2))))
def iw_ : ISs := (.cons iw_1 .nil)
theorem iw__is : i_is_within = iw_ := rfl
def cm_1t1 : IS := .nev
def cm_1t : ISs := (.cons cm_1t1 .nil)
def cm_1 : IS := .ifs (.not (.cal "is_within" (.cons (.var 0) (.cons (.cst (.int 0)) (.cons (.bin .Sub (.glb "MOMENTS") (.cst (.int 1))) .nil))))) cm_1t .nil
def cm_ : ISs := (.cons cm_1 .nil)
theorem cm__is : i_check_moment = cm_ := rfl
def cn_1t1 : IS := .nev
def cn_1t : ISs := (.cons cn_1t1 .nil)
def cn_1 : IS := .ifs (.not (.cal "is_whole" (.cons (.var 0) .nil))) cn_1t .nil
def cn_ : ISs := (.cons cn_1 .nil)
theorem cn__is : i_check_number = cn_ := rfl
def tp_1 : IS := .exp (.cal "check_point" (.cons (.var 0) .nil))
def tp_2 : IS := .exp (.cal "check_number" (.cons (.var 1) .nil))
def tp_3 : IS := .asg (.tup (.cons (.nm 3) (.cons (.nm 4) .nil))) (.var 0)
def tp_4b1 : IS := .asgs [3, 4] (.cons (.bin .Sub (.var 3) (.var 4)) (.cons (.var 3) .nil))
def tp_4b : ISs := (.cons tp_4b1 .nil)
def tp_4 : IS := .fors (.nm 2) (.r1 (.bin .Mod (.var 1) (.cst (.int 6)))) tp_4b
def tp_5 : IS := .ret (.tup (.cons (.var 3) (.cons (.var 4) .nil)))
def tp_ : ISs := (.cons tp_1 (.cons tp_2 (.cons tp_3 (.cons tp_4 (.cons tp_5 .nil)))))
theorem tp__is : i_turned_point = tp_ := rfl
def fa_1 : IS := .exp (.cal "check_winding" (.cons (.var 0) .nil))
def fa_2 : IS := .exp (.cal "check_moment" (.cons (.var 1) .nil))
def fa_3 : IS := .exp (.cal "check_three" (.cons (.var 0) .nil))
def fa_4 : IS := .asg (.nm 2) (.ite (.cmp .Eq (.bin .Mod (.var 1) (.cst (.int 2))) (.cst (.int 1))) (.cst (.int 1)) (.cst (.int 2)))
def fa_5 : IS := .asg (.nm 3) (.lc (.cal "turned_point" (.cons (.var 4) (.cons (.bin .FloorDiv (.var 1) (.cst (.int 2))) .nil))) (.nm 4) [("point", 4)] (.ex (.cal "polygon" (.cons (.var 0) .nil))) .no)
def fa_6 : IS := .ret (.gn "tuple" (.bin .Sub (.bin .Mult (.var 2) (.var 5)) (.var 6)) (.tup (.cons (.nm 5) (.cons (.nm 6) .nil))) [("first", 5), ("second", 6)] (.ex (.var 3)) .no)
def fa_ : ISs := (.cons fa_1 (.cons fa_2 (.cons fa_3 (.cons fa_4 (.cons fa_5 (.cons fa_6 .nil))))))
theorem fa__is : i_field_at = fa_ := rfl
def ca_1 : IS := .exp (.cal "check_moment" (.cons (.var 0) .nil))
def ca_2 : IS := .ret (.gn "tuple" (.idx (.glb "COSINES") (.bin .Mod (.bin .Sub (.var 0) (.bin .Mult (.cst (.int 4)) (.var 1))) (.glb "MOMENTS"))) (.nm 1) [("phase", 1)] (.r1 (.cst (.int 3))) .no)
def ca_ : ISs := (.cons ca_1 (.cons ca_2 .nil))
theorem ca__is : i_currents_at = ca_ := rfl
def sq_1 : IS := .ret (.gn "sum" (.bin .Mult (.var 2) (.var 2)) (.nm 2) [("number", 2)] (.ex (.cal "field_at" (.cons (.var 0) (.cons (.var 1) .nil)))) .no)
def sq_ : ISs := (.cons sq_1 .nil)
theorem sq__is : i_square_at = sq_ := rfl
theorem t_iwW : (tabT tb__law_field kt0 gl0).fs "is_whole" = some fs_is_whole := rfl
theorem v_within {x lo hi : Int} (h1 : lo ≤ x) (h2 : x ≤ hi) : f_is_within [.int x, .int lo, .int hi] = some (.bool true) := by
  have hw := t_iwW
  unfold f_is_within
  rw [iw__is]
  generalize (tabT tb__law_field kt0 gl0) = T at hw
  generalize 100000 = N
  have e : evE T [.v (.int x), .v (.int lo), .v (.int hi)] (.and (.cal "is_whole" (.cons (.var 0) .nil)) (.one (.cmp2 .LtE .LtE (.var 1) (.var 0) (.var 2)))) = some (.val (.bool true), [.v (.int x), .v (.int lo), .v (.int hi)]) := by
    rw [and_t (calPn hw (ops := [.slot 0]) rfl rfl (ds := [.int x]) rfl rfl (v_is_whole1 x)) rfl, one_e]
    simp [evE, viewOp, cmpD, cmpI, h1, h2]
  exact runP_ok (ss_rt (s := iw_1) (ret_ok e rfl))
theorem t_cmW : (tabT tb_is_within kt0 gl0).fs "is_within" = some fs_is_within := rfl
theorem g_cmM : (tabT tb_is_within kt0 gl0).gl "MOMENTS" = some (.int 12) := rfl
theorem v_cm {t : Nat} (ht : t < 12) : f_check_moment [.int t] = some .none := by
  have hw := t_cmW
  have hg := g_cmM
  unfold f_check_moment
  rw [cm__is]
  generalize (tabT tb_is_within kt0 gl0) = T at hw hg
  generalize 100000 = N
  have eg : evE T [.v (.int t)] (.glb "MOMENTS") = some (.val (.int 12), [.v (.int t)]) := by simp only [evE, hg, Option.map_some]
  have e : evT T [.v (.int t)] (.not (.cal "is_within" (.cons (.var 0) (.cons (.cst (.int 0)) (.cons (.bin .Sub (.glb "MOMENTS") (.cst (.int 1))) .nil))))) = some (false, [.v (.int t)]) := by
    have := calPt hw (ρ := [.v (.int t)]) (es := .cons (.var 0) (.cons (.cst (.int 0)) (.cons (.bin .Sub (.glb "MOMENTS") (.cst (.int 1))) .nil))) (ops := [.slot 0, .val (.int 0), .val (.int 11)]) (ee_cons rfl (ee_cons rfl (ee_cons (bin_ok (x := .val (.int 12)) (y := .val (.int 1)) eg rfl rfl rfl rfl) rfl))) rfl (ds := [.int t, .int 0, .int 11]) rfl (v_within (by omega) (by omega))
    simp only [evT] at this ⊢
    rw [this]
    rfl
  exact runP_nx (ss_nx (s := cm_1) (if_no e) rfl)
theorem t_cnW : (tabT tb_check_moment kt0 gl0).fs "is_whole" = some fs_is_whole := rfl
theorem v_cn (i : Int) : f_check_number [.int i] = some .none := by
  have hw := t_cnW
  unfold f_check_number
  rw [cn__is]
  generalize (tabT tb_check_moment kt0 gl0) = T at hw
  generalize 100000 = N
  have e : evT T [.v (.int i)] (.not (.cal "is_whole" (.cons (.var 0) .nil))) = some (false, [.v (.int i)]) := by
    have := calPt hw (ρ := [.v (.int i)]) (es := .cons (.var 0) .nil) (ops := [.slot 0]) rfl rfl (ds := [.int i]) rfl (v_is_whole1 i)
    simp only [evT] at this ⊢
    rw [this]
    rfl
  exact runP_nx (ss_nx (s := cn_1) (if_no e) rfl)
theorem t_tp1 : (tabT tb_check_number kt0 gl0).fs "check_point" = some fs_check_point := rfl
theorem t_tp2 : (tabT tb_check_number kt0 gl0).fs "check_number" = some fs_check_number := rfl
theorem v_turned (p : Int × Int) (j : Nat) (hj : j < 6) : f_turned_point [ptD p, .int j] = some (ptD (rot j p)) := by
  have h1 := t_tp1
  have h2 := t_tp2
  unfold f_turned_point
  rw [tp__is]
  generalize (tabT tb_check_number kt0 gl0) = T at h1 h2
  generalize 100000 = N
  obtain ⟨ρ', e, y, rfl⟩ := evFor_rng (f := fun x ρ1 => (bindT ρ1 (.nm 2) x).bind fun ρ2 => evSs N T ρ2 tp_4b) (n := j)
    (Q := fun t ρ => ∃ y : Sl, ρ = [.v (ptD p), .v (.int j), y, .v (.int (rot t p).1), .v (.int (rot t p).2)])
    (ρ := [.v (ptD p), .v (.int j), .u, .v (.int p.1), .v (.int p.2)]) (fun t ht ρ ⟨y, hρ⟩ => by
      subst hρ
      refine ⟨_, ?_, .v (.int t), rfl⟩
      rw [bd_set _ 2 (by simp)]
      simp only [Option.bind_some, List.set_cons_succ, List.set_cons_zero]
      exact ss_nx (s := tp_4b1) (asgs_ok (ee_cons (bin_ok (x := .slot 3) (y := .slot 4) rfl rfl rfl rfl rfl) (ee_cons (o := .slot 3) rfl rfl)) rfl rfl) rfl) ⟨_, rfl⟩
  have hm : binD .Mod (.int (j : Int)) (.int 6) = some (.val (.int j)) := by
    have : (j : Int) % 6 = j := by omega
    simp only [binD, binI, decide_eq_true (show (0 : Int) < 6 by decide), if_true, Option.map_some, this]
  exact runP_ok (ss_nx (s := tp_1) (exp_ok (calPn h1 (ops := [.slot 0]) rfl rfl (ds := [ptD p]) rfl rfl (v_check_point p))) (ss_nx (s := tp_2) (exp_ok (calPn h2 (ops := [.slot 1]) rfl rfl (ds := [.int j]) rfl rfl (v_cn j))) (ss_nx (s := tp_3) (ρ1 := [.v (ptD p), .v (.int j), .u, .v (.int p.1), .v (.int p.2)]) (asg_ok (o := .slot 0) rfl rfl) (ss_nx (s := tp_4) (for_ok (it_r1e (o := .val (.int j)) (bin_ok (x := .slot 1) (y := .val (.int 6)) rfl rfl rfl rfl hm) rfl (ro_nat rfl (by omega))) e) (ss_rt (s := tp_5) (ret_ok (tupK2 (x := .slot 3) (y := .slot 4) rfl rfl rfl) rfl))))))
/-! ### the field at a moment -/
def wtI (t : Nat) : Int := if t % 2 = 1 then 1 else 2
def fld (t : Nat) (p : Int × Int) : Int := wtI t * (rot (t / 2) p).1 - (rot (t / 2) p).2
theorem t_f1 : (tabT tb_turned_point kt0 gl0).fs "check_winding" = some fs_check_winding := rfl
theorem t_f2 : (tabT tb_turned_point kt0 gl0).fs "check_moment" = some fs_check_moment := rfl
theorem t_f3 : (tabT tb_turned_point kt0 gl0).fs "check_three" = some fs_check_three := rfl
theorem t_f4 : (tabT tb_turned_point kt0 gl0).fs "turned_point" = some fs_turned_point := rfl
theorem t_f5 : (tabT tb_turned_point kt0 gl0).fs "polygon" = some fs_polygon := rfl
theorem v_field {k n : Nat} {A B C : List Int} (w : W3 k n A B C) (hl : (polW A B C).length = k) {t : Nat} (ht : t < 12) : f_field_at [wD A B C, .int t] = some (tupI ((polW A B C).map (fld t))) := by
  have h1 := t_f1
  have h2 := t_f2
  have h3 := t_f3
  have h4 := t_f4
  have h5 := t_f5
  unfold f_field_at
  rw [fa__is]
  generalize (tabT tb_turned_point kt0 gl0) = T at h1 h2 h3 h4 h5
  generalize 100000 = N
  have hi := w.hi
  have c := v_polygon w
  have c1 := v_checkw w
  have c3 := v_check3 A B C
  generalize polW A B C = P at *
  have hm : binD .Mod (.int (t : Int)) (.int 2) = some (.val (.int ((t : Int) % 2))) := rfl
  have s4 : evS N T [.v (wD A B C), .v (.int t), .u, .u, .u, .u, .u] fa_4 = some (.nx [.v (wD A B C), .v (.int t), .v (.int (wtI t)), .u, .u, .u, .u]) := by
    refine asg_ok (ρ1 := [.v (wD A B C), .v (.int t), .u, .u, .u, .u, .u]) (o := .val (.int (wtI t))) ?_ rfl
    have hc := cmpT_ok (T := T) (ρ := [.v (wD A B C), .v (.int t), .u, .u, .u, .u, .u]) (a := .bin .Mod (.var 1) (.cst (.int 2))) (b := .cst (.int 1)) (y := .val (.int 1)) (bin_ok (x := .slot 1) (y := .val (.int 2)) rfl rfl rfl rfl hm) rfl rfl rfl (cmp_eq _ _)
    unfold wtI
    by_cases h : t % 2 = 1
    · rw [decide_eq_true (show (t : Int) % 2 = 1 by omega)] at hc
      rw [if_pos h, evE, hc]; rfl
    · rw [decide_eq_false (show ¬ (t : Int) % 2 = 1 by omega)] at hc
      rw [if_neg h, evE, hc]; rfl
  have hd : binD .FloorDiv (.int (t : Int)) (.int 2) = some (.val (.int ((t / 2 : Nat) : Int))) := by
    rw [bi_div (show divOk 2 = true by decide), show (t : Int) / 2 = ((t / 2 : Nat) : Int) by omega]
  have lc := lcM (T := T) (own := [("point", 4)]) (ρ := [.v (wD A B C), .v (.int t), .v (.int (wtI t)), .u, .u, .u, .u]) (ρ1 := [.v (wD A B C), .v (.int t), .v (.int (wtI t)), .u, .u, .u, .u]) (it := .ex (.cal "polygon" (.cons (.var 0) .nil))) (e := .cal "turned_point" (.cons (.var 4) (.cons (.bin .FloorDiv (.var 1) (.cst (.int 2))) .nil))) (t := .nm 4) ptD (fun p => ptD (rot (t / 2) p)) (l := P) (by
    have c := calPn h5 (ρ := [.v (wD A B C), .v (.int t), .v (.int (wtI t)), .u, .u, .u, .u]) (es := .cons (.var 0) .nil) (ops := [.slot 0]) rfl rfl (ds := [wD A B C]) rfl rfl c
    simp only [evIt, c, Option.bind_some, keepOp]) (fun p hp => ⟨[.v (wD A B C), .v (.int t), .v (.int (wtI t)), .u, .v (ptD p), .u, .u], .val (ptD (rot (t / 2) p)), rfl, calPn h4 (ops := [.slot 4, .val (.int ((t / 2 : Nat) : Int))]) (ee_cons rfl (ee_cons (bin_ok (x := .slot 1) (y := .val (.int 2)) rfl rfl rfl rfl hd) rfl)) rfl (ds := [ptD p, .int ((t / 2 : Nat) : Int)]) rfl rfl (v_turned p (t / 2) (by omega)), rfl, rfl⟩) (fun i hi => .inl (by
      have : i = 4 := by simpa using hi
      subst this; rfl)) (lenOk_le (by omega))
  have s5 : evS N T [.v (wD A B C), .v (.int t), .v (.int (wtI t)), .u, .u, .u, .u] fa_5 = some (.nx [.v (wD A B C), .v (.int t), .v (.int (wtI t)), .o false (P.map fun p => ptD (rot (t / 2) p)), .u, .u, .u]) := asg_ok lc rfl
  have hw : ∀ x : Int, mulOk (wtI t) x = true := fun x => mulOk_l (by unfold wtI; split <;> omega) (by unfold wtI; split <;> omega)
  have g := gnT (T := T) (own := [("first", 5), ("second", 6)]) (ρ := [.v (wD A B C), .v (.int t), .v (.int (wtI t)), .o false (P.map fun p => ptD (rot (t / 2) p)), .u, .u, .u]) (ρ1 := [.v (wD A B C), .v (.int t), .v (.int (wtI t)), .v (.list (P.map fun p => ptD (rot (t / 2) p))), .u, .u, .u]) (it := .ex (.var 3)) (f := "tuple") (e := .bin .Sub (.bin .Mult (.var 2) (.var 5)) (.var 6)) (t := .tup (.cons (.nm 5) (.cons (.nm 6) .nil))) (d := tupI (P.map (fld t))) (fun p => ptD (rot (t / 2) p)) (fun p => .int (fld t p)) (l := P) (it_ex (o := .slot 3) rfl rfl)
    (fun p _ => ⟨[.v (wD A B C), .v (.int t), .v (.int (wtI t)), .v (.list (P.map fun p => ptD (rot (t / 2) p))), .u, .v (.int (rot (t / 2) p).1), .v (.int (rot (t / 2) p).2)], .val (.int (fld t p)), bd2 _ 5 6 (by simp [wipeE]) (by simp [wipeE]) _ _, bin_ok (x := .val (.int (wtI t * (rot (t / 2) p).1))) (y := .slot 6) (bin_ok (x := .slot 2) (y := .slot 5) rfl rfl rfl rfl (bi_mul (hw _))) rfl rfl rfl rfl, rfl, rfl⟩)
    (fun q _ => rfl) (fun i hi => .inl (by
      simp only [List.map_cons, List.map_nil, List.mem_cons, List.not_mem_nil, or_false] at hi
      rcases hi with rfl | rfl <;> rfl)) (by
      simp only [gnD, lenOk_le (show (P.map fun p => PyData.int (fld t p)).length ≤ 16777216 by rw [List.length_map]; omega), if_true]
      rw [tupI, List.map_map]; rfl)
  exact runP_ok (ss_nx (s := fa_1) (exp_ok (calPn h1 (ops := [.slot 0]) rfl rfl (ds := [wD A B C]) rfl rfl c1)) (ss_nx (s := fa_2) (exp_ok (calPn h2 (ops := [.slot 1]) rfl rfl (ds := [.int t]) rfl rfl (v_cm ht))) (ss_nx (s := fa_3) (exp_ok (calPn h3 (ops := [.slot 0]) rfl rfl (ds := [wD A B C]) rfl rfl c3)) (ss_nx s4 (ss_nx s5 (ss_rt (s := fa_6) (ret_ok g rfl)))))))
theorem t_sqF : (tabT tb_currents_at kt0 gl0).fs "field_at" = some fs_field_at := rfl
theorem v_square {k n m : Nat} {A B C : List Int} (w : W3 k n A B C) (hl : (polW A B C).length = k) {t : Nat} (ht : t < 12) (hb : ∀ p ∈ polW A B C, Bd m (fld t p)) (hm : m ≤ 1000) : f_square_at [wD A B C, .int t] = some (.int ((polW A B C).map fun p => fld t p * fld t p).sum) := by
  have h1 := t_sqF
  unfold f_square_at
  rw [sq__is]
  generalize (tabT tb_currents_at kt0 gl0) = T at h1
  generalize 100000 = N
  have c := v_field w hl ht
  generalize polW A B C = P at *
  have g := gnT (T := T) (own := [("number", 2)]) (ρ := [.v (wD A B C), .v (.int t), .u]) (ρ1 := [.v (wD A B C), .v (.int t), .u]) (it := .ex (.cal "field_at" (.cons (.var 0) (.cons (.var 1) .nil)))) (f := "sum") (e := .bin .Mult (.var 2) (.var 2)) (t := .nm 2) (d := .int (P.map fun p => fld t p * fld t p).sum) (fun p => .int (fld t p)) (fun p => .int (fld t p * fld t p)) (l := P) (by
    have c := calPn h1 (ρ := [.v (wD A B C), .v (.int t), .u]) (es := .cons (.var 0) (.cons (.var 1) .nil)) (ops := [.slot 0, .slot 1]) rfl rfl (ds := [wD A B C, .int t]) rfl rfl c
    simp only [evIt, c, Option.bind_some, keepOp, tupI]
    rw [List.map_map]; rfl)
    (fun p hp => ⟨[.v (wD A B C), .v (.int t), .v (.int (fld t p))], .val (.int (fld t p * fld t p)), rfl, bin_ok (x := .slot 2) (y := .slot 2) rfl rfl rfl rfl (mulP (hb p hp) (hb p hp) hm), rfl, rfl⟩)
    (fun q _ => rfl) (fun i hi => .inl (by
      have : i = 2 := by simpa using hi
      subst this; rfl)) (by
      rw [show (P.map fun p => PyData.int (fld t p * fld t p)) = (P.map fun p => fld t p * fld t p).map .int by rw [List.map_map]; rfl]
      simp only [gnD, intsD_map, Option.map_some])
  exact runP_ok (ss_rt (s := sq_1) (ret_ok g rfl))
end Ev

set_option maxHeartbeats 1000000
namespace Ev
open PySem L2
def lf_1 : IS := .asg (.tup (.cons (.nm 4) (.cons (.nm 5) (.cons (.nm 6) .nil)))) (.var 2)
def lf_2 : IS := .asgs [7, 8] (.cons (.lst .nil) (.cons (.cst (.int 0)) .nil))
def lf_3b1 : IS := .app 7 (.var 8)
def lf_3b2 : IS := .asg (.nm 8) (.bin .Add (.bin .Add (.bin .Add (.var 8) (.bin .Mult (.idx (.idx (.var 0) (.cst (.int 0))) (.var 3)) (.var 4))) (.bin .Mult (.idx (.idx (.var 0) (.cst (.int 1))) (.var 3)) (.var 5))) (.bin .Mult (.idx (.idx (.var 0) (.cst (.int 2))) (.var 3)) (.var 6)))
def lf_3b : ISs := (.cons lf_3b1 (.cons lf_3b2 .nil))
def lf_3 : IS := .fors (.nm 3) (.r1 (.var 1)) lf_3b
def lf_4 : IS := .ret (.lc (.bin .Sub (.bin .Mult (.var 1) (.var 9)) (.bi "sum" (.cons (.var 7) .nil))) (.nm 9) [("_law_each", 9)] (.ex (.var 7)) .no)
def lf_ : ISs := (.cons lf_1 (.cons lf_2 (.cons lf_3 (.cons lf_4 .nil))))
theorem lf__is : i__law_field = lf_ := rfl
def cosI (n : Nat) : Int := ([2, 1, 1, 0, -1, -1, -2, -1, -1, 0, 1, 1] : List Int).getD (n % 12) 0
def c0 (t : Nat) : Int := cosI t
def c1 (t : Nat) : Int := cosI (t + 8)
def c2 (t : Nat) : Int := cosI (t + 4)
def curD (t : Nat) : D := tupI [c0 t, c1 t, c2 t]
theorem v_lcur : ∀ t : Nat, t < 12 → f__law_currents [.int (t : Int)] = some (curD t) := fun t ht => match t, ht with
  | 0, _ => rfl
  | 1, _ => rfl
  | 2, _ => rfl
  | 3, _ => rfl
  | 4, _ => rfl
  | 5, _ => rfl
  | 6, _ => rfl
  | 7, _ => rfl
  | 8, _ => rfl
  | 9, _ => rfl
  | 10, _ => rfl
  | 11, _ => rfl
theorem v_cur : ∀ t : Nat, t < 12 → f_currents_at [.int (t : Int)] = some (curD t) := fun t ht => match t, ht with
  | 0, _ => rfl
  | 1, _ => rfl
  | 2, _ => rfl
  | 3, _ => rfl
  | 4, _ => rfl
  | 5, _ => rfl
  | 6, _ => rfl
  | 7, _ => rfl
  | 8, _ => rfl
  | 9, _ => rfl
  | 10, _ => rfl
  | 11, _ => rfl
theorem cur_sum : ∀ t : Nat, t < 12 → c1 t = -c0 t - c2 t := by decide +kernel
theorem cur_bd : ∀ t : Nat, t < 12 → (-2 ≤ c0 t ∧ c0 t ≤ 2) ∧ (-2 ≤ c1 t ∧ c1 t ≤ 2) ∧ (-2 ≤ c2 t ∧ c2 t ≤ 2) := by decide +kernel
def cI (a b : Int) (p : Int × Int) : Int := a * p.1 + b * p.2
theorem fld_c (t : Nat) (ht : t < 12) (p : Int × Int) : fld t p = cI (c0 t) (c2 t) p := by
  obtain ⟨a, b⟩ := p
  match t, ht with
  | 0, _ => show (2 : Int) * a - b = 2 * a + (-1) * b; omega
  | 1, _ => show (1 : Int) * a - b = 1 * a + (-1) * b; omega
  | 2, _ => show (2 : Int) * (a - b) - a = 1 * a + (-2) * b; omega
  | 3, _ => show (1 : Int) * (a - b) - a = 0 * a + (-1) * b; omega
  | 4, _ => show (2 : Int) * (a - b - a) - (a - b) = (-1) * a + (-1) * b; omega
  | 5, _ => show (1 : Int) * (a - b - a) - (a - b) = (-1) * a + 0 * b; omega
  | 6, _ => show (2 : Int) * (a - b - a - (a - b)) - (a - b - a) = (-2) * a + 1 * b; omega
  | 7, _ => show (1 : Int) * (a - b - a - (a - b)) - (a - b - a) = (-1) * a + 1 * b; omega
  | 8, _ => show (2 : Int) * (a - b - a - (a - b) - (a - b - a)) - (a - b - a - (a - b)) = (-1) * a + 2 * b; omega
  | 9, _ => show (1 : Int) * (a - b - a - (a - b) - (a - b - a)) - (a - b - a - (a - b)) = 0 * a + 1 * b; omega
  | 10, _ => show (2 : Int) * (a - b - a - (a - b) - (a - b - a) - (a - b - a - (a - b))) - (a - b - a - (a - b) - (a - b - a)) = 1 * a + 1 * b; omega
  | 11, _ => show (1 : Int) * (a - b - a - (a - b) - (a - b - a) - (a - b - a - (a - b))) - (a - b - a - (a - b) - (a - b - a)) = 1 * a + 0 * b; omega
/-! ### the law's own field -/
def cS (A B C : List Int) (i j l : Int) : Nat → Int
  | 0 => 0
  | s + 1 => cS A B C i j l s + gI A s * i + gI B s * j + gI C s * l
theorem lf_t (N : Nat) (T : Tb) {A B C : List Int} {k s : Nat} (hA : A.length = k) (hB : B.length = k) (hC : C.length = k) (hs : s < k) {i j l : Int} (hi : -2 ≤ i ∧ i ≤ 2) (hj : -2 ≤ j ∧ j ≤ 2) (hl : -2 ≤ l ∧ l ≤ 2) (x1 x2 x9 : Sl) (ns : List Int) (z : Int) (hn : ns.length ≤ 900) :
    evSs N T [.v (wD A B C), x1, x2, .v (.int s), .v (.int i), .v (.int j), .v (.int l), .o false (ns.map .int), .v (.int z), x9] lf_3b = some (.nx [.v (wD A B C), x1, x2, .v (.int s), .v (.int i), .v (.int j), .v (.int l), .o false ((ns ++ [z]).map .int), .v (.int (z + gI A s * i + gI B s * j + gI C s * l)), x9]) := by
  have s1 := app_ok (n := N) (T := T) (i := 7) (mt := false) (mt0 := false) (ds := ns.map .int) (ds0 := ns.map .int) (ρ := [.v (wD A B C), x1, x2, .v (.int s), .v (.int i), .v (.int j), .v (.int l), .o false (ns.map .int), .v (.int z), x9]) (e := .var 8) (o := .slot 8) (d := .int z) rfl rfl rfl rfl (by rw [List.length_map]; omega)
  generalize hρ : ([.v (wD A B C), x1, x2, .v (.int s), .v (.int i), .v (.int j), .v (.int l), .o false ((ns ++ [z]).map .int), .v (.int z), x9] : En) = ρ
  have r0 : ρ[0]? = some (.v (wD A B C)) := by subst hρ; rfl
  have r3 : ρ[3]? = some (.v (.int s)) := by subst hρ; rfl
  have r4 : ρ[4]? = some (.v (.int i)) := by subst hρ; rfl
  have r5 : ρ[5]? = some (.v (.int j)) := by subst hρ; rfl
  have r6 : ρ[6]? = some (.v (.int l)) := by subst hρ; rfl
  have r8 : ρ[8]? = some (.v (.int z)) := by subst hρ; rfl
  have g : ∀ (R : List Int) (c : Int) (q : Nat) (m : Int), R.length = k → idxD (wD A B C) (.int c) = some (tupI R) → ρ[q]? = some (.v (.int m)) → -2 ≤ m ∧ m ≤ 2 → evE T ρ (.bin .Mult (.idx (.idx (.var 0) (.cst (.int c))) (.var 3)) (.var q)) = some (.val (.int (gI R s * m)), ρ) := fun R c q m hR h1 h2 h3 => by
    have hx : idxD (tupI R) (.int (s : Int)) = some (.int (gI R s)) := by
      simp only [tupI, idxD, atI, List.length_map, ixN_nn (show (0 : Int) ≤ (s : Int) by omega) (show (s : Int) < (R.length : Nat) by omega), Int.toNat_natCast, Option.bind_some]
      exact gI_get (by omega)
    exact bin_ok (x := .val (.int (gI R s))) (y := .slot q) (idx_ok (x := .val (tupI R)) (y := .slot 3) (idx_vc r0 h1) (var_v r3) rfl (vw_v r3) hx) (var_v h2) rfl (vw_v h2) (bi_mul (mulOk_r (by omega) (by omega)))
  have e2 := bin_ok (T := T) (op := .Add) (x := .val (.int (z + gI A s * i + gI B s * j))) (y := .val (.int (gI C s * l))) (d := .int (z + gI A s * i + gI B s * j)) (e := .int (gI C s * l)) (bin_ok (op := .Add) (x := .val (.int (z + gI A s * i))) (y := .val (.int (gI B s * j))) (d := .int (z + gI A s * i)) (e := .int (gI B s * j)) (bin_ok (op := .Add) (x := .slot 8) (y := .val (.int (gI A s * i))) (d := .int z) (e := .int (gI A s * i)) (var_v r8) (g A 0 4 i hA rfl r4 hi) (vw_v r8) rfl rfl) (g B 1 5 j hB rfl r5 hj) rfl rfl rfl) (g C 2 6 l hC rfl r6 hl) rfl rfl (r := .val (.int (z + gI A s * i + gI B s * j + gI C s * l))) rfl
  have s2 : evS N T ρ lf_3b2 = some (.nx (ρ.set 8 (.v (.int (z + gI A s * i + gI B s * j + gI C s * l))))) := by
    refine asg_ok e2 ?_
    have : 8 < ρ.length := (List.getElem?_eq_some_iff.mp r8).1
    simp only [asgT, stOp, setE, decide_eq_true this, if_true]
  subst hρ
  rw [List.map_append] at s2 ⊢
  exact ss_nx s1 (ss_nx s2 rfl)
theorem v_lfield {k n : Nat} {A B C : List Int} (w : W3 k n A B C) {i j l : Int} (hi : -2 ≤ i ∧ i ≤ 2) (hj : -2 ≤ j ∧ j ≤ 2) (hl : -2 ≤ l ∧ l ≤ 2) : f__law_field [wD A B C, .int k, tupI [i, j, l]] = some (.list (((List.range k).map fun s => (k : Int) * cS A B C i j l s - ((List.range k).map (cS A B C i j l)).sum).map .int)) := by
  unfold f__law_field
  rw [lf__is]
  generalize (tabT tb__law_currents kt0 gl0) = T
  generalize 100000 = N
  have hk := w.hi
  have s1 : evS N T [.v (wD A B C), .v (.int k), .v (tupI [i, j, l]), .u, .u, .u, .u, .u, .u, .u] lf_1 = some (.nx [.v (wD A B C), .v (.int k), .v (tupI [i, j, l]), .u, .v (.int i), .v (.int j), .v (.int l), .u, .u, .u]) := asg_ok (o := .slot 2) rfl rfl
  have s2 : evS N T [.v (wD A B C), .v (.int k), .v (tupI [i, j, l]), .u, .v (.int i), .v (.int j), .v (.int l), .u, .u, .u] lf_2 = some (.nx [.v (wD A B C), .v (.int k), .v (tupI [i, j, l]), .u, .v (.int i), .v (.int j), .v (.int l), .o false [], .v (.int 0), .u]) := asgs_ok (ee_cons (o := .new []) rfl (ee_cons (o := .val (.int 0)) rfl rfl)) rfl rfl
  obtain ⟨ρ', e3, x3, rfl⟩ := evFor_rng (f := fun x ρ1 => (bindT ρ1 (.nm 3) x).bind fun ρ2 => evSs N T ρ2 lf_3b) (n := k)
    (Q := fun t ρ => ∃ x3 : Sl, ρ = [.v (wD A B C), .v (.int k), .v (tupI [i, j, l]), x3, .v (.int i), .v (.int j), .v (.int l), .o false (((List.range t).map (cS A B C i j l)).map .int), .v (.int (cS A B C i j l t)), .u])
    (ρ := [.v (wD A B C), .v (.int k), .v (tupI [i, j, l]), .u, .v (.int i), .v (.int j), .v (.int l), .o false [], .v (.int 0), .u]) (fun t ht ρ ⟨x3, hρ⟩ => by
      subst hρ
      refine ⟨_, ?_, .v (.int t), rfl⟩
      rw [bd_set _ 3 (by simp)]
      simp only [Option.bind_some, List.set_cons_succ, List.set_cons_zero]
      rw [List.range_succ, List.map_append]
      exact lf_t N T w.a.len w.b.len w.c.len ht hi hj hl _ _ _ _ _ (by simp; omega)) ⟨_, rfl⟩
  have s3 : evS N T [.v (wD A B C), .v (.int k), .v (tupI [i, j, l]), .u, .v (.int i), .v (.int j), .v (.int l), .o false [], .v (.int 0), .u] lf_3 = some (.nx [.v (wD A B C), .v (.int k), .v (tupI [i, j, l]), x3, .v (.int i), .v (.int j), .v (.int l), .o false (((List.range k).map (cS A B C i j l)).map .int), .v (.int (cS A B C i j l k)), .u]) := for_ok (it_r1e (o := .slot 1) rfl rfl (ro_nat rfl (by omega))) e3
  have hln : ((List.range k).map (cS A B C i j l)).length = k := by simp
  have e4 : (List.range k).map (fun s => (k : Int) * cS A B C i j l s - ((List.range k).map (cS A B C i j l)).sum) = ((List.range k).map (cS A B C i j l)).map fun x => (k : Int) * x - ((List.range k).map (cS A B C i j l)).sum := by rw [List.map_map]; rfl
  rw [e4]
  generalize (List.range k).map (cS A B C i j l) = ns at *
  generalize cS A B C i j l k = z at *
  have lc := lcM (T := T) (own := [("_law_each", 9)]) (ρ := [.v (wD A B C), .v (.int k), .v (tupI [i, j, l]), x3, .v (.int i), .v (.int j), .v (.int l), .o false (ns.map .int), .v (.int z), .u]) (ρ1 := [.v (wD A B C), .v (.int k), .v (tupI [i, j, l]), x3, .v (.int i), .v (.int j), .v (.int l), .v (.list (ns.map .int)), .v (.int z), .u]) (it := .ex (.var 7)) (e := .bin .Sub (.bin .Mult (.var 1) (.var 9)) (.bi "sum" (.cons (.var 7) .nil))) (t := .nm 9) PyData.int (fun x => .int ((k : Int) * x - ns.sum)) (l := ns) (it_ex (o := .slot 7) rfl rfl) (fun x _ => ⟨[.v (wD A B C), .v (.int k), .v (tupI [i, j, l]), x3, .v (.int i), .v (.int j), .v (.int l), .v (.list (ns.map .int)), .v (.int z), .v (.int x)], .val (.int ((k : Int) * x - ns.sum)), rfl, bin_ok (x := .val (.int ((k : Int) * x))) (y := .val (.int ns.sum)) (bin_ok (x := .slot 1) (y := .slot 9) rfl rfl rfl rfl (bi_mul (mulOk_l (by omega) (by omega)))) (bi1 (x := .slot 7) rfl rfl (sum_v ns)) rfl rfl rfl, rfl, rfl⟩) (fun i hi => .inl (by
      have : i = 9 := by simpa using hi
      subst this; rfl)) (lenOk_le (by omega))
  rw [List.map_map]
  exact runP_ok (ss_nx s1 (ss_nx s2 (ss_nx s3 (ss_rt (s := lf_4) (ret_ok lc rfl)))))
theorem gP_pts : ∀ (A B C : List Int) (s k : Nat), A.length = k → B.length = k → C.length = k → s < k → gP (ptsW A B C) s = (gI A s - gI B s, gI C s - gI B s)
  | a :: A, b :: B, c :: C, 0, k, _, _, _, _ => rfl
  | a :: A, b :: B, c :: C, s + 1, k, h1, h2, h3, hs => by
    have := gP_pts A B C s (k - 1) (by simp at h1; omega) (by simp at h2; omega) (by simp at h3; omega) (by omega)
    have e : ptsW (a :: A) (b :: B) (c :: C) = ptOf (a, b, c) :: ptsW A B C := rfl
    rw [e, gP_consS, this]
    simp [gI]
  | [], _, _, s, k, h1, _, _, hs => by simp at h1; omega
  | _ :: _, [], _, s, k, _, h2, _, hs => by simp at h2; omega
  | _ :: _, _ :: _, [], s, k, _, _, h3, hs => by simp at h3; omega
theorem cS_lin {A B C : List Int} {k : Nat} (hA : A.length = k) (hB : B.length = k) (hC : C.length = k) (i l : Int) : ∀ s : Nat, s < k → cS A B C i (-i - l) l s = cI i l (gP (excl (0, 0) (ptsW A B C)) s)
  | 0, h => by
    have hV := (pts_facts A B C k hA hB hC).1
    cases hv : ptsW A B C with
    | nil => rw [hv] at hV; simp at hV; omega
    | cons p V => simp [cS, excl, gP, cI]
  | s + 1, h => by
    have hV := (pts_facts A B C k hA hB hC).1
    rw [excl_step _ _ _ (by omega), cS, cS_lin hA hB hC i l s (by omega), gP_pts A B C s k hA hB hC (by omega)]
    generalize gP (excl (0, 0) (ptsW A B C)) s = p
    generalize gI A s = a
    generalize gI B s = b
    generalize gI C s = c
    simp only [cI, addP, Int.mul_add, Int.mul_sub, Int.mul_neg]
    rw [Int.mul_comm a i, Int.mul_comm b i, Int.mul_comm b l, Int.mul_comm c l]
    omega
theorem cI_sum (i l : Int) : ∀ M : List (Int × Int), (M.map (cI i l)).sum = cI i l (sumP M)
  | [] => by simp [cI, sumP]
  | p :: M => by
    rw [List.map_cons, List.sum_cons, cI_sum i l M, sumP_cons]
    simp only [cI, addP, Int.mul_add]
    omega
theorem lfield_pol {A B C : List Int} {k : Nat} (hA : A.length = k) (hB : B.length = k) (hC : C.length = k) (i l : Int) : ((List.range k).map fun s => (k : Int) * cS A B C i (-i - l) l s - ((List.range k).map (cS A B C i (-i - l) l)).sum) = (polW A B C).map (cI i l) := by
  have hV := (pts_facts A B C k hA hB hC).1
  have hM : (excl (0, 0) (ptsW A B C)).length = k := by rw [excl_len, hV]
  have e1 : (List.range k).map (cS A B C i (-i - l) l) = (excl (0, 0) (ptsW A B C)).map (cI i l) := by
    rw [show (excl (0, 0) (ptsW A B C)).map (cI i l) = ((List.range k).map (gP (excl (0, 0) (ptsW A B C)))).map (cI i l) by rw [← hM, all_list], List.map_map]
    exact List.map_congr_left fun s hs => cS_lin hA hB hC i l s (List.mem_range.mp hs)
  have e2 : ((List.range k).map fun s => (k : Int) * cS A B C i (-i - l) l s - ((List.range k).map (cS A B C i (-i - l) l)).sum) = ((List.range k).map (cS A B C i (-i - l) l)).map fun x => (k : Int) * x - ((List.range k).map (cS A B C i (-i - l) l)).sum := by rw [List.map_map]; rfl
  rw [e2, e1, cI_sum]
  unfold polW polOf corW
  rw [hM, List.map_map, List.map_map]
  refine List.map_congr_left fun p _ => ?_
  generalize sumP (excl (0, 0) (ptsW A B C)) = S
  show (k : Int) * cI i l p - cI i l S = cI i l ((k : Int) * p.1 - S.1, (k : Int) * p.2 - S.2)
  simp only [cI, Int.mul_add, Int.mul_sub]
  rw [Int.mul_left_comm (k : Int) i, Int.mul_left_comm (k : Int) l]
  omega
end Ev

set_option maxHeartbeats 2000000
namespace Ev
open PySem L2
def rr_1 : IS := .asg (.nm 1) (.cal "_law_pick" (.cons (.var 0) (.cons (.lst (.cons (.cst (.int 6)) (.cons (.cst (.int 3)) (.cons (.cst (.int 4)) (.cons (.cst (.int 9)) (.cons (.cst (.int 2)) (.cons (.cst (.int 5)) (.cons (.cst (.int 12)) (.cons (.cst (.int 8)) (.cons (.cst (.int 7)) (.cons (.cst (.int 10)) (.cons (.cst (.int 60)) .nil)))))))))))) .nil)))
def rr_2 : IS := .asgs [3, 4] (.cons (.cal "_law_three" (.cons (.var 0) (.cons (.var 1) .nil))) (.cons (.lst .nil) .nil))
def rr_3b1 : IS := .asg (.nm 5) (.cal "_law_currents" (.cons (.var 2) .nil))
def rr_3b2t1 : IS := .ret (.cst (.bool false))
def rr_3b2t : ISs := (.cons rr_3b2t1 .nil)
def rr_3b2 : IS := .ifs (.cmp .NotEq (.bi "repr" (.cons (.lst (.cons (.cal "currents_at" (.cons (.var 2) .nil)) (.cons (.calk "currents_at" 0 (.cons (.var 2) .nil) ["moment"]) .nil))) .nil)) (.bi "repr" (.cons (.lst (.cons (.var 5) (.cons (.var 5) .nil))) .nil))) rr_3b2t .nil
def rr_3b3 : IS := .asg (.nm 6) (.cal "_law_field" (.cons (.var 3) (.cons (.var 1) (.cons (.var 5) .nil))))
def rr_3b4t1 : IS := .ret (.cst (.bool false))
def rr_3b4t : ISs := (.cons rr_3b4t1 .nil)
def rr_3b4 : IS := .ifs (.cmp .NotEq (.bi "repr" (.cons (.lst (.cons (.cal "field_at" (.cons (.var 3) (.cons (.var 2) .nil))) (.cons (.calk "field_at" 0 (.cons (.var 2) (.cons (.var 3) .nil)) ["moment", "winding"]) .nil))) .nil)) (.bi "repr" (.cons (.lst (.cons (.bi "tuple" (.cons (.var 6) .nil)) (.cons (.bi "tuple" (.cons (.var 6) .nil)) .nil))) .nil))) rr_3b4t .nil
def rr_3b5 : IS := .asg (.nm 7) (.bi "sum" (.cons (.lc (.bin .Mult (.var 13) (.var 13)) (.nm 13) [("_law_each", 13)] (.ex (.var 6)) .no) .nil))
def rr_3b6 : IS := .app 4 (.var 7)
def rr_3b7t1 : IS := .ret (.cst (.bool false))
def rr_3b7t : ISs := (.cons rr_3b7t1 .nil)
def rr_3b7 : IS := .ifs (.cmp .NotEq (.bi "repr" (.cons (.lst (.cons (.cal "square_at" (.cons (.var 3) (.cons (.var 2) .nil))) (.cons (.calk "square_at" 0 (.cons (.var 2) (.cons (.var 3) .nil)) ["moment", "winding"]) .nil))) .nil)) (.bi "repr" (.cons (.lst (.cons (.var 7) (.cons (.var 7) .nil))) .nil))) rr_3b7t .nil
def rr_3b8t1 : IS := .ret (.cst (.bool false))
def rr_3b8t : ISs := (.cons rr_3b8t1 .nil)
def rr_3b8 : IS := .ifs (.and (.cmp .Gt (.var 2) (.cst (.int 5))) (.one (.cmp .NotEq (.cal "field_at" (.cons (.var 3) (.cons (.var 2) .nil))) (.bi "tuple" (.cons (.lc (.bin .Sub (.cst (.int 0)) (.var 13)) (.nm 13) [("_law_each", 13)] (.ex (.cal "field_at" (.cons (.var 3) (.cons (.bin .Sub (.var 2) (.cst (.int 6))) .nil)))) .no) .nil))))) rr_3b8t .nil
def rr_3b : ISs := (.cons rr_3b1 (.cons rr_3b2 (.cons rr_3b3 (.cons rr_3b4 (.cons rr_3b5 (.cons rr_3b6 (.cons rr_3b7 (.cons rr_3b8 .nil))))))))
def rr_3 : IS := .fors (.nm 2) (.r1 (.cst (.int 12))) rr_3b
def rr_4 : IS := .asg (.tup (.cons (.nm 8) (.cons (.nm 9) .nil))) (.cal "mean_square" (.cons (.var 3) .nil))
def rr_5b1 : IS := .asgs [11, 12] (.cons (.idx (.var 4) (.var 2)) (.cons (.idx (.var 4) (.bin .Sub (.var 2) (.cst (.int 9)))) .nil))
def rr_5b2 : IS := .asg (.nm 10) (.ite (.cmp .Eq (.bin .Mod (.bi "int" (.cons (.var 2) .nil)) (.cst (.int 2))) (.cst (.int 0))) (.bin .Add (.var 11) (.bin .Mult (.cst (.int 3)) (.var 12))) (.bin .Add (.bin .Mult (.cst (.int 3)) (.var 11)) (.var 12)))
def rr_5b3t1 : IS := .ret (.cst (.bool false))
def rr_5b3t : ISs := (.cons rr_5b3t1 .nil)
def rr_5b3 : IS := .ifs (.cmp .NotEq (.bin .Mult (.var 10) (.var 9)) (.bin .Mult (.bin .Mult (.bin .Mult (.bin .Mult (.cst (.int 4)) (.var 1)) (.var 1)) (.var 1)) (.var 8))) rr_5b3t .nil
def rr_5b : ISs := (.cons rr_5b1 (.cons rr_5b2 (.cons rr_5b3 .nil)))
def rr_5 : IS := .fors (.nm 2) (.r1 (.cst (.int 12))) rr_5b
def rr_6 : IS := .ret (.cst (.bool true))
def rr_ : ISs := (.cons rr_1 (.cons rr_2 (.cons rr_3 (.cons rr_4 (.cons rr_5 (.cons rr_6 .nil))))))
theorem rr__is : i__law_right = rr_ := rfl
theorem so_pt (p : Int × Int) : TxO (ptD p).shown := by rw [pt_tup]; exact so_tup _
theorem red_bd {n : Nat} {a b : Int} (ha : Bd n a) (hb : Bd n b) : BdP n (redP a b) := ⟨Nat.lt_of_le_of_lt (Int.natAbs_ediv_le_natAbs _ _) ha, Nat.lt_of_le_of_lt (Int.natAbs_ediv_le_natAbs _ _) hb⟩
theorem sum_bdn {n : Nat} {l : List Int} (h : ∀ x ∈ l, Bd n x) (hl : l.length ≤ 60) : Bd (n + 6) l.sum := by
  have := abs_sum (2 ^ n) l (fun x hx => Nat.le_of_lt (h x hx))
  unfold Bd
  rw [Nat.pow_add]
  have h2 : 2 ^ n * l.length ≤ 2 ^ n * 60 := Nat.mul_le_mul_left _ hl
  have h3 : (2 : Nat) ^ 6 = 64 := by decide
  rw [h3]
  have := Nat.two_pow_pos n
  omega
theorem calkP2 {T : Tb} {ρ : En} {f x y : Str} {a b : IE} {o1 o2 : Op} {g : List D → Option D} {d1 d2 r : D} (hs : T.fs f = some (.p 2 g)) (hq : T.ks f 0 [x, y] = some [1, 0]) (ha : evE T ρ a = some (o1, ρ)) (hb : evE T ρ b = some (o2, ρ)) (hk : keepL ρ [o1, o2] = some ([d1, d2], ρ)) (hg : g [d2, d1] = some r) : evE T ρ (.calk f 0 (.cons a (.cons b .nil)) [x, y]) = some (.val r, ρ) := by
  simp only [evE, evEs, ha, hb, Option.bind_some, Option.map_some, hk, hq, hs]
  show callF (.p 2 g) [.val d2, .val d1] ρ = some (.val r, ρ)
  simp only [callF, callP, viewL, viewOp, keepL, keepOp, hg, Option.bind_some, Option.map_some, List.length_cons, List.length_nil]
  by_cases hf : flat r = true <;> simp [hf]
/-! ### what the fields are worth -/
def sqF (P : List (Int × Int)) (t : Nat) : Int := (P.map fun p => fld t p * fld t p).sum
theorem fld_bd {t m : Nat} (ht : t < 12) {p : Int × Int} (h : BdP m p) : Bd (m + 3) (fld t p) := by
  rw [fld_c t ht]
  obtain ⟨b0, _, b2⟩ := cur_bd t ht
  have e0 : Bd 2 (c0 t) := by unfold Bd; omega
  have e2 : Bd 2 (c2 t) := by unfold Bd; omega
  exact ((e0.mul h.1).add (e2.mul h.2)).mono (by omega)
theorem sqF_bd {t m : Nat} (ht : t < 12) {P : List (Int × Int)} (h : ∀ p ∈ P, BdP m p) (hl : P.length ≤ 60) : Bd (2 * m + 12) (sqF P t) := by
  refine (sum_bdn (n := 2 * m + 6) (fun x hx => ?_) (by rw [List.length_map]; exact hl)).mono (by omega)
  obtain ⟨p, hp, rfl⟩ := List.mem_map.mp hx
  exact ((fld_bd ht (h p hp)).mul (fld_bd ht (h p hp))).mono (by omega)
theorem cos6 : ∀ t : Nat, t < 12 → 5 < t → c0 t = - c0 (t - 6) ∧ c2 t = - c2 (t - 6) := by decide +kernel
theorem fld6 {t : Nat} (ht : t < 12) (h5 : 5 < t) (p : Int × Int) : fld t p = 0 - fld (t - 6) p := by
  rw [fld_c t ht, fld_c (t - 6) (by omega), (cos6 t ht h5).1, (cos6 t ht h5).2]
  simp only [cI, Int.neg_mul]
  omega
def prt (t : Nat) : Nat := if t < 9 then t + 3 else t - 9
theorem prt_lt {t : Nat} (h : t < 12) : prt t < 12 := by unfold prt; split <;> omega
theorem ix9 {t : Nat} (h : t < 12) : ixN 12 ((t : Int) - 9) = some (prt t) := by
  unfold ixN prt
  by_cases h9 : t < 9
  · rw [if_neg (by omega), if_pos h9, if_pos (by omega)]; congr 1; omega
  · rw [if_pos (by omega), if_neg h9, if_pos (by omega)]; congr 1; omega
def evn (t : Nat) : Bool := t % 2 == 0
theorem cos9 : ∀ t : Nat, t < 12 → (if t % 2 = 0 then
    c0 t * c0 t + 3 * (c0 (prt t) * c0 (prt t)) = 4 ∧ c0 t * c2 t + 3 * (c0 (prt t) * c2 (prt t)) = -2 ∧ c2 t * c2 t + 3 * (c2 (prt t) * c2 (prt t)) = 4
    else 3 * (c0 t * c0 t) + c0 (prt t) * c0 (prt t) = 4 ∧ 3 * (c0 t * c2 t) + c0 (prt t) * c2 (prt t) = -2 ∧ 3 * (c2 t * c2 t) + c2 (prt t) * c2 (prt t) = 4) := by decide +kernel
theorem sqr_c (a b x y : Int) : (a * x + b * y) * (a * x + b * y) = a * a * (x * x) + 2 * (a * b) * (x * y) + b * b * (y * y) := by
  simp only [Int.add_mul, Int.mul_add]
  rw [show a * x * (a * x) = a * a * (x * x) by simp only [Int.mul_comm, Int.mul_left_comm], show b * y * (a * x) = a * b * (x * y) by simp only [Int.mul_comm, Int.mul_left_comm], show a * x * (b * y) = a * b * (x * y) by simp only [Int.mul_comm, Int.mul_left_comm], show b * y * (b * y) = b * b * (y * y) by simp only [Int.mul_comm, Int.mul_left_comm], show 2 * (a * b) * (x * y) = 2 * (a * b * (x * y)) by rw [Int.mul_assoc]]
  omega
theorem lin3 (A B C A' B' C' X Y Z : Int) (h1 : A + 3 * A' = 4) (h2 : B + 3 * B' = -2) (h3 : C + 3 * C' = 4) : (A * X + 2 * B * Y + C * Z) + 3 * (A' * X + 2 * B' * Y + C' * Z) = 4 * (X - Y + Z) := by
  obtain rfl : A = 4 - 3 * A' := by omega
  obtain rfl : B = -2 - 3 * B' := by omega
  obtain rfl : C = 4 - 3 * C' := by omega
  simp only [Int.sub_mul, Int.mul_sub, Int.mul_assoc]
  generalize A' * X = x
  generalize B' * Y = y
  generalize C' * Z = z
  omega
theorem two_sq {t : Nat} (ht : t < 12) (p : Int × Int) : (if t % 2 = 0 then fld t p * fld t p + 3 * (fld (prt t) p * fld (prt t) p) else 3 * (fld t p * fld t p) + fld (prt t) p * fld (prt t) p) = 4 * nrm p := by
  have h := cos9 t ht
  rw [fld_c t ht, fld_c (prt t) (prt_lt ht)]
  simp only [cI, sqr_c]
  unfold nrm
  generalize c0 t = a at *
  generalize c2 t = b at *
  generalize c0 (prt t) = c at *
  generalize c2 (prt t) = d at *
  by_cases e : t % 2 = 0
  · rw [if_pos e] at h ⊢
    exact lin3 _ _ _ _ _ _ _ _ _ h.1 h.2.1 h.2.2
  · rw [if_neg e] at h ⊢
    rw [Int.add_comm (3 * _)]
    exact lin3 _ _ _ _ _ _ _ _ _ (by rw [Int.add_comm]; exact h.1) (by rw [Int.add_comm]; exact h.2.1) (by rw [Int.add_comm]; exact h.2.2)
theorem sum_lin {α : Type} (f g h : α → Int) (a b : Int) (e : ∀ p, a * f p + b * g p = 4 * h p) : ∀ P : List α, a * (P.map f).sum + b * (P.map g).sum = 4 * (P.map h).sum
  | [] => by simp
  | p :: P => by
    have h1 := sum_lin f g h a b e P
    have h2 := e p
    simp only [List.map_cons, List.sum_cons, Int.mul_add]
    omega
theorem sq_two {t : Nat} (ht : t < 12) (P : List (Int × Int)) : (if t % 2 = 0 then sqF P t + 3 * sqF P (prt t) else 3 * sqF P t + sqF P (prt t)) = 4 * (P.map nrm).sum := by
  unfold sqF
  by_cases e : t % 2 = 0
  · rw [if_pos e]
    have := sum_lin (fun p => fld t p * fld t p) (fun p => fld (prt t) p * fld (prt t) p) nrm 1 3 (fun p => by have := two_sq ht p; rw [if_pos e] at this; omega) P
    omega
  · rw [if_neg e]
    have := sum_lin (fun p => fld t p * fld t p) (fun p => fld (prt t) p * fld (prt t) p) nrm 3 1 (fun p => by have := two_sq ht p; rw [if_neg e] at this; omega) P
    omega
theorem red_eq (N K : Int) (hK : 0 < K) : 4 * N * (redP N K).2 = 4 * K * (redP N K).1 := by
  have hg : gcI N K ≠ 0 := by
    unfold gcI
    have : Nat.gcd N.natAbs K.natAbs ≠ 0 := fun h => by
      have := (Nat.gcd_eq_zero_iff.mp h).2
      omega
    omega
  have d1 : gcI N K ∣ N := by
    unfold gcI
    exact Int.ofNat_dvd_left.mpr (Nat.gcd_dvd_left _ _)
  have d2 : gcI N K ∣ K := by
    unfold gcI
    exact Int.ofNat_dvd_left.mpr (Nat.gcd_dvd_right _ _)
  show 4 * N * (K / gcI N K) = 4 * K * (N / gcI N K)
  generalize gcI N K = g at *
  obtain ⟨n, rfl⟩ := d1
  obtain ⟨k, rfl⟩ := d2
  rw [Int.mul_ediv_cancel_left _ hg, Int.mul_ediv_cancel_left _ hg]
  simp only [Int.mul_assoc, Int.mul_comm, Int.mul_left_comm]
/-! ### one moment -/
theorem t_R1 : (tabT tb_square_at kt0 gl0).fs "_law_pick" = some fs__law_pick := rfl
theorem t_R2 : (tabT tb_square_at kt0 gl0).fs "_law_three" = some fs__law_three := rfl
theorem t_R3 : (tabT tb_square_at kt0 gl0).fs "_law_currents" = some fs__law_currents := rfl
theorem t_R4 : (tabT tb_square_at kt0 gl0).fs "_law_field" = some fs__law_field := rfl
theorem t_M1 : (tabT tb_square_at kt0 gl0).fs "currents_at" = some fs_currents_at := rfl
theorem t_M2 : (tabT tb_square_at kt0 gl0).fs "field_at" = some fs_field_at := rfl
theorem t_M3 : (tabT tb_square_at kt0 gl0).fs "square_at" = some fs_square_at := rfl
theorem t_M4 : (tabT tb_square_at kt0 gl0).fs "mean_square" = some fs_mean_square := rfl
theorem k_M1 : (tabT tb_square_at kt0 gl0).ks "currents_at" 0 ["moment"] = some [0] := rfl
theorem k_M2 : (tabT tb_square_at kt0 gl0).ks "field_at" 0 ["moment", "winding"] = some [1, 0] := rfl
theorem k_M3 : (tabT tb_square_at kt0 gl0).ks "square_at" 0 ["moment", "winding"] = some [1, 0] := rfl
theorem ne_tt (l : List Int) : cmpD .NotEq (tupI l) (tupI l) = some false := by rw [ne_tupI]; simp
theorem rr_tn (N : Nat) (T : Tb) (u x5 x6 x7 : Sl) {k t : Nat} {W cD : D} {F : List Int} {a : Int} {ns : List D} (hFl : F.length ≤ 60) (hF : ∀ x ∈ F, Bd 74 x) (tC : Tame cD) (sC : TxO cD.shown) (tS : Tame (.int a)) (eS : a = (F.map fun x => x * x).sum) (hn : ns.length ≤ 900)
    (r3 : T.fs "_law_currents" = some fs__law_currents) (r4 : T.fs "_law_field" = some fs__law_field) (f1 : T.fs "currents_at" = some fs_currents_at) (f2 : T.fs "field_at" = some fs_field_at) (f3 : T.fs "square_at" = some fs_square_at)
    (q1 : T.ks "currents_at" 0 ["moment"] = some [0]) (q2 : T.ks "field_at" 0 ["moment", "winding"] = some [1, 0]) (q3 : T.ks "square_at" 0 ["moment", "winding"] = some [1, 0])
    (v1 : f__law_currents [.int (t : Int)] = some cD) (v2 : f_currents_at [.int (t : Int)] = some cD)
    (vl : f__law_field [W, .int k, cD] = some (.list (F.map .int))) (vf : f_field_at [W, .int t] = some (tupI F)) (vs : f_square_at [W, .int t] = some (.int a))
    (v6 : 5 < t → ∃ G : List Int, f_field_at [W, .int ((t : Int) - 6)] = some (tupI G) ∧ (G.map fun x => 0 - x) = F ∧ G.length ≤ 60) :
    evSs N T [u, .v (.int k), .v (.int t), .v W, .o false ns, x5, x6, x7, .u, .u, .u, .u, .u, .u] rr_3b = some (.nx [u, .v (.int k), .v (.int t), .v W, .o false (ns ++ [.int a]), .v cD, .v (.list (F.map .int)), .v (.int a), .u, .u, .u, .u, .u, .u]) := by
  have tF : Tame (tupI F) := tame_tup (n := 74) (by decide) hF (by
    have : F.length * 75 ≤ 60 * 75 := Nat.mul_le_mul_right _ hFl
    omega)
  have s1 : evS N T [u, .v (.int k), .v (.int t), .v W, .o false ns, x5, x6, x7, .u, .u, .u, .u, .u, .u] rr_3b1 = some (.nx [u, .v (.int k), .v (.int t), .v W, .o false ns, .v cD, x6, x7, .u, .u, .u, .u, .u, .u]) := asg_ok (calPn r3 (ops := [.slot 2]) rfl rfl (ds := [.int t]) rfl rfl v1) rfl
  have s2 : evS N T [u, .v (.int k), .v (.int t), .v W, .o false ns, .v cD, x6, x7, .u, .u, .u, .u, .u, .u] rr_3b2 = some (.nx [u, .v (.int k), .v (.int t), .v W, .o false ns, .v cD, x6, x7, .u, .u, .u, .u, .u, .u]) :=
    if_no (ne_rep (calPn f1 (ops := [.slot 2]) rfl rfl (ds := [.int t]) rfl rfl v2) (calkP1 (o := .slot 2) f1 q1 rfl rfl v2) rfl (x' := .slot 5) (y' := .slot 5) rfl rfl rfl tC tC sC sC)
  have s3 : evS N T [u, .v (.int k), .v (.int t), .v W, .o false ns, .v cD, x6, x7, .u, .u, .u, .u, .u, .u] rr_3b3 = some (.nx [u, .v (.int k), .v (.int t), .v W, .o false ns, .v cD, .v (.list (F.map .int)), x7, .u, .u, .u, .u, .u, .u]) := asg_ok (calPn r4 (ops := [.slot 3, .slot 1, .slot 5]) rfl rfl (ds := [W, .int k, cD]) rfl rfl vl) rfl
  have s4 : evS N T [u, .v (.int k), .v (.int t), .v W, .o false ns, .v cD, .v (.list (F.map .int)), x7, .u, .u, .u, .u, .u, .u] rr_3b4 = some (.nx [u, .v (.int k), .v (.int t), .v W, .o false ns, .v cD, .v (.list (F.map .int)), x7, .u, .u, .u, .u, .u, .u]) :=
    if_no (ne_rep (calPn f2 (ops := [.slot 3, .slot 2]) rfl rfl (ds := [W, .int t]) rfl rfl vf) (calkP2 (o1 := .slot 2) (o2 := .slot 3) f2 q2 rfl rfl rfl vf) rfl (bi_tuple (o := .slot 6) rfl rfl) (bi_tuple (o := .slot 6) rfl rfl) rfl tF tF (so_tup _) (so_tup _))
  have lc5 := lcM (T := T) (own := [("_law_each", 13)]) (ρ := [u, .v (.int k), .v (.int t), .v W, .o false ns, .v cD, .v (.list (F.map .int)), x7, .u, .u, .u, .u, .u, .u]) (ρ1 := [u, .v (.int k), .v (.int t), .v W, .o false ns, .v cD, .v (.list (F.map .int)), x7, .u, .u, .u, .u, .u, .u]) (it := .ex (.var 6)) (e := .bin .Mult (.var 13) (.var 13)) (t := .nm 13) PyData.int (fun x => .int (x * x)) (l := F) (it_ex (o := .slot 6) rfl rfl) (fun x hx => ⟨[u, .v (.int k), .v (.int t), .v W, .o false ns, .v cD, .v (.list (F.map .int)), x7, .u, .u, .u, .u, .u, .v (.int x)], .val (.int (x * x)), rfl, bin_ok (x := .slot 13) (y := .slot 13) rfl rfl rfl rfl (mulP (hF x hx) (hF x hx) (by decide)), rfl, rfl⟩) (fun i hi => .inl (by
      have : i = 13 := by simpa using hi
      subst this; rfl)) (lenOk_le (by omega))
  have s5 : evS N T [u, .v (.int k), .v (.int t), .v W, .o false ns, .v cD, .v (.list (F.map .int)), x7, .u, .u, .u, .u, .u, .u] rr_3b5 = some (.nx [u, .v (.int k), .v (.int t), .v W, .o false ns, .v cD, .v (.list (F.map .int)), .v (.int a), .u, .u, .u, .u, .u, .u]) := by
    refine asg_ok (bi1 lc5 rfl (r := .val (.int a)) ?_) rfl
    rw [eS, show (F.map fun x => PyData.int (x * x)) = (F.map fun x => x * x).map .int by rw [List.map_map (f := fun x : Int => x * x)]; rfl]
    exact sum_v _
  have s6 := app_ok (n := N) (T := T) (i := 4) (mt := false) (mt0 := false) (ds := ns) (ds0 := ns) (ρ := [u, .v (.int k), .v (.int t), .v W, .o false ns, .v cD, .v (.list (F.map .int)), .v (.int a), .u, .u, .u, .u, .u, .u]) (e := .var 7) (o := .slot 7) (d := .int a) rfl rfl rfl rfl (by omega)
  have s7 : evS N T [u, .v (.int k), .v (.int t), .v W, .o false (ns ++ [.int a]), .v cD, .v (.list (F.map .int)), .v (.int a), .u, .u, .u, .u, .u, .u] rr_3b7 = some (.nx [u, .v (.int k), .v (.int t), .v W, .o false (ns ++ [.int a]), .v cD, .v (.list (F.map .int)), .v (.int a), .u, .u, .u, .u, .u, .u]) :=
    if_no (ne_rep (calPn f3 (ops := [.slot 3, .slot 2]) rfl rfl (ds := [W, .int t]) rfl rfl vs) (calkP2 (o1 := .slot 2) (o2 := .slot 3) f3 q3 rfl rfl rfl vs) rfl (x' := .slot 7) (y' := .slot 7) rfl rfl rfl tS tS (so_int _) (so_int _))
  have s8 : evS N T [u, .v (.int k), .v (.int t), .v W, .o false (ns ++ [.int a]), .v cD, .v (.list (F.map .int)), .v (.int a), .u, .u, .u, .u, .u, .u] rr_3b8 = some (.nx [u, .v (.int k), .v (.int t), .v W, .o false (ns ++ [.int a]), .v cD, .v (.list (F.map .int)), .v (.int a), .u, .u, .u, .u, .u, .u]) := by
    have hgt : cmpD .Gt (.int (t : Int)) (.int 5) = some (decide ((5 : Int) < t)) := rfl
    by_cases h5 : 5 < t
    · obtain ⟨G, v6, hG, hGl⟩ := v6 h5
      have hc := cmpT_ok (T := T) (ρ := [u, .v (.int k), .v (.int t), .v W, .o false (ns ++ [.int a]), .v cD, .v (.list (F.map .int)), .v (.int a), .u, .u, .u, .u, .u, .u]) (a := .var 2) (b := .cst (.int 5)) (x := .slot 2) (y := .val (.int 5)) rfl rfl rfl rfl hgt
      rw [decide_eq_true (show (5 : Int) < t by omega)] at hc
      have lc8 := lcM (T := T) (own := [("_law_each", 13)]) (ρ := [u, .v (.int k), .v (.int t), .v W, .o false (ns ++ [.int a]), .v cD, .v (.list (F.map .int)), .v (.int a), .u, .u, .u, .u, .u, .u]) (ρ1 := [u, .v (.int k), .v (.int t), .v W, .o false (ns ++ [.int a]), .v cD, .v (.list (F.map .int)), .v (.int a), .u, .u, .u, .u, .u, .u]) (it := .ex (.cal "field_at" (.cons (.var 3) (.cons (.bin .Sub (.var 2) (.cst (.int 6))) .nil)))) (e := .bin .Sub (.cst (.int 0)) (.var 13)) (t := .nm 13) PyData.int (fun x => .int (0 - x)) (l := G) (by
          have c := calPn f2 (ρ := [u, .v (.int k), .v (.int t), .v W, .o false (ns ++ [.int a]), .v cD, .v (.list (F.map .int)), .v (.int a), .u, .u, .u, .u, .u, .u]) (es := .cons (.var 3) (.cons (.bin .Sub (.var 2) (.cst (.int 6))) .nil)) (ops := [.slot 3, .val (.int ((t : Int) - 6))]) (ee_cons rfl (ee_cons (bin_ok (x := .slot 2) (y := .val (.int 6)) rfl rfl rfl rfl rfl) rfl)) rfl (ds := [W, .int ((t : Int) - 6)]) rfl rfl v6
          simp only [evIt, c, Option.bind_some, keepOp, tupI])
        (fun x hx => ⟨[u, .v (.int k), .v (.int t), .v W, .o false (ns ++ [.int a]), .v cD, .v (.list (F.map .int)), .v (.int a), .u, .u, .u, .u, .u, .v (.int x)], .val (.int (0 - x)), rfl, bin_ok (x := .val (.int 0)) (y := .slot 13) rfl rfl rfl rfl rfl, rfl, rfl⟩) (fun i hi => .inl (by
        have : i = 13 := by simpa using hi
        subst this; rfl)) (lenOk_le (by omega))
      have e6 : (G.map fun x => PyData.int (0 - x)) = F.map .int := by
        rw [← hG, List.map_map]; rfl
      rw [e6] at lc8
      have hn := cmpT_ok (op := .NotEq) (calPn f2 (ρ := [u, .v (.int k), .v (.int t), .v W, .o false (ns ++ [.int a]), .v cD, .v (.list (F.map .int)), .v (.int a), .u, .u, .u, .u, .u, .u]) (es := .cons (.var 3) (.cons (.var 2) .nil)) (ops := [.slot 3, .slot 2]) rfl rfl (ds := [W, .int t]) rfl rfl vf) (bi_tuple lc8 rfl) rfl rfl (ne_tt _)
      refine if_no (ρ1 := [u, .v (.int k), .v (.int t), .v W, .o false (ns ++ [.int a]), .v cD, .v (.list (F.map .int)), .v (.int a), .u, .u, .u, .u, .u, .u]) ?_
      rw [evT, hc]
      simp only [evT] at hn ⊢
      exact hn
    · have hc := cmpT_ok (T := T) (ρ := [u, .v (.int k), .v (.int t), .v W, .o false (ns ++ [.int a]), .v cD, .v (.list (F.map .int)), .v (.int a), .u, .u, .u, .u, .u, .u]) (a := .var 2) (b := .cst (.int 5)) (x := .slot 2) (y := .val (.int 5)) rfl rfl rfl rfl hgt
      rw [decide_eq_false (show ¬ (5 : Int) < t by omega)] at hc
      refine if_no (ρ1 := [u, .v (.int k), .v (.int t), .v W, .o false (ns ++ [.int a]), .v cD, .v (.list (F.map .int)), .v (.int a), .u, .u, .u, .u, .u, .u]) ?_
      rw [evT, hc]
  exact ss_nx s1 (ss_nx s2 (ss_nx s3 (ss_nx s4 (ss_nx s5 (ss_nx s6 (ss_nx s7 (ss_nx s8 rfl)))))))
/-! ### the squares and the norms -/
theorem rr_t5 (N : Nat) (T : Tb) (u x3 x5 x6 x7 x10 x11 x12 : Sl) {k t : Nat} {P : List (Int × Int)} (ht : t < 12) (lo : 1 ≤ k) (hi : k ≤ 60) :
    evSs N T [u, .v (.int k), .v (.int t), x3, .o false (((List.range 12).map (sqF P)).map .int), x5, x6, x7, .v (.int (redP (P.map nrm).sum ((k : Int) ^ 3)).1), .v (.int (redP (P.map nrm).sum ((k : Int) ^ 3)).2), x10, x11, x12, .u] rr_5b = some (.nx [u, .v (.int k), .v (.int t), x3, .o false (((List.range 12).map (sqF P)).map .int), x5, x6, x7, .v (.int (redP (P.map nrm).sum ((k : Int) ^ 3)).1), .v (.int (redP (P.map nrm).sum ((k : Int) ^ 3)).2), .v (.int (4 * (P.map nrm).sum)), .v (.int (sqF P t)), .v (.int (sqF P (prt t))), .u]) := by
  have hr := red_eq (P.map nrm).sum ((k : Int) ^ 3) (pow_bd lo hi).1.1
  have hp : (redP (P.map nrm).sum ((k : Int) ^ 3)).2.natAbs ≤ 1000000 := Nat.le_trans (Int.natAbs_ediv_le_natAbs _ _) (by have := (pow_bd lo hi).1; omega)
  have e3 : (k : Int) ^ 3 = (k : Int) * k * k := by rw [Int.pow_succ, Int.pow_succ, Int.pow_succ, Int.pow_zero, Int.one_mul]
  have hq := sq_two ht P
  have x1 : idxD (.list (((List.range 12).map (sqF P)).map .int)) (.int (t : Int)) = some (.int (sqF P t)) := ix_list (by simp only [List.length_map, List.length_range]; exact ixN_nn (by omega) (by omega)) (by simp [ht])
  have x2 : idxD (.list (((List.range 12).map (sqF P)).map .int)) (.int ((t : Int) - 9)) = some (.int (sqF P (prt t))) := ix_list (by simp only [List.length_map, List.length_range]; exact ix9 ht) (by simp [prt_lt ht])
  generalize (P.map nrm).sum = S at *
  rw [e3] at hr hp ⊢
  generalize redP S ((k : Int) * k * k) = r at *
  generalize ((List.range 12).map (sqF P)).map PyData.int = L at *
  generalize sqF P t = a at *
  generalize sqF P (prt t) = b at *
  have s1 : evS N T [u, .v (.int k), .v (.int t), x3, .o false L, x5, x6, x7, .v (.int r.1), .v (.int r.2), x10, x11, x12, .u] rr_5b1 = some (.nx [u, .v (.int k), .v (.int t), x3, .o false L, x5, x6, x7, .v (.int r.1), .v (.int r.2), x10, .v (.int a), .v (.int b), .u]) :=
    asgs_ok (ee_cons (idx_ok (x := .slot 4) (y := .slot 2) rfl rfl rfl rfl x1) (ee_cons (idx_ok (x := .slot 4) (y := .val (.int ((t : Int) - 9))) rfl (bin_ok (x := .slot 2) (y := .val (.int 9)) rfl rfl rfl rfl rfl) rfl rfl x2) rfl)) rfl rfl
  have hm : binD .Mod (.int (t : Int)) (.int 2) = some (.val (.int ((t : Int) % 2))) := rfl
  have m3 : ∀ x : Int, mulOk 3 x = true := fun x => mulOk_l (by decide) (by decide)
  have s2 : evS N T [u, .v (.int k), .v (.int t), x3, .o false L, x5, x6, x7, .v (.int r.1), .v (.int r.2), x10, .v (.int a), .v (.int b), .u] rr_5b2 = some (.nx [u, .v (.int k), .v (.int t), x3, .o false L, x5, x6, x7, .v (.int r.1), .v (.int r.2), .v (.int (4 * S)), .v (.int a), .v (.int b), .u]) := by
    refine asg_ok (ρ1 := [u, .v (.int k), .v (.int t), x3, .o false L, x5, x6, x7, .v (.int r.1), .v (.int r.2), x10, .v (.int a), .v (.int b), .u]) (o := .val (.int (4 * S))) ?_ rfl
    have hc := cmpT_ok (T := T) (ρ := [u, .v (.int k), .v (.int t), x3, .o false L, x5, x6, x7, .v (.int r.1), .v (.int r.2), x10, .v (.int a), .v (.int b), .u]) (a := .bin .Mod (.bi "int" (.cons (.var 2) .nil)) (.cst (.int 2))) (b := .cst (.int 0)) (y := .val (.int 0)) (bin_ok (x := .val (.int t)) (y := .val (.int 2)) (bi1 (x := .slot 2) rfl rfl rfl) rfl rfl rfl hm) rfl rfl rfl (cmp_eq _ _)
    by_cases h : t % 2 = 0
    · rw [decide_eq_true (show (t : Int) % 2 = 0 by omega)] at hc
      rw [if_pos h] at hq
      rw [evE, hc, ← hq]
      exact bin_ok (x := .slot 11) (y := .val (.int (3 * b))) rfl (bin_ok (x := .val (.int 3)) (y := .slot 12) rfl rfl rfl rfl (bi_mul (m3 _))) rfl rfl rfl
    · rw [decide_eq_false (show ¬ (t : Int) % 2 = 0 by omega)] at hc
      rw [if_neg h] at hq
      rw [evE, hc, ← hq]
      exact bin_ok (x := .val (.int (3 * a))) (y := .slot 12) (bin_ok (x := .val (.int 3)) (y := .slot 11) rfl rfl rfl rfl (bi_mul (m3 _))) rfl rfl rfl rfl
  have mk : ∀ x : Int, mulOk x (k : Int) = true := fun x => mulOk_r (by omega) (by omega)
  have hk3 : ((k : Int) * k * k).natAbs ≤ 1000000 := by rw [← e3]; have := (pow_bd lo hi).1; omega
  have m4 : mulOk (4 * (k : Int) * k * k) r.1 = true := by
    rw [show 4 * (k : Int) * k * k = 4 * ((k : Int) * k * k) by simp only [Int.mul_assoc]]
    exact mulOk_l (by omega) (by omega)
  have e2 : evE T [u, .v (.int k), .v (.int t), x3, .o false L, x5, x6, x7, .v (.int r.1), .v (.int r.2), .v (.int (4 * S)), .v (.int a), .v (.int b), .u] (.bin .Mult (.bin .Mult (.bin .Mult (.bin .Mult (.cst (.int 4)) (.var 1)) (.var 1)) (.var 1)) (.var 8)) = some (.val (.int (4 * (k : Int) * k * k * r.1)), [u, .v (.int k), .v (.int t), x3, .o false L, x5, x6, x7, .v (.int r.1), .v (.int r.2), .v (.int (4 * S)), .v (.int a), .v (.int b), .u]) :=
    bin_ok (x := .val (.int (4 * (k : Int) * k * k))) (y := .slot 8) (bin_ok (x := .val (.int (4 * (k : Int) * k))) (y := .slot 1) (bin_ok (x := .val (.int (4 * (k : Int)))) (y := .slot 1) (bin_ok (x := .val (.int 4)) (y := .slot 1) rfl rfl rfl rfl (bi_mul (mk _))) rfl rfl rfl (bi_mul (mk _))) rfl rfl rfl (bi_mul (mk _))) rfl rfl rfl (bi_mul m4)
  have hne : cmpD .NotEq (.int (4 * S * r.2)) (.int (4 * (k : Int) * k * k * r.1)) = some false := by
    rw [hr, show 4 * (k : Int) * k * k = 4 * ((k : Int) * k * k) by simp only [Int.mul_assoc]]
    rw [cmp_ne, decide_eq_true rfl]; rfl
  exact ss_nx s1 (ss_nx s2 (ss_nx (s := rr_5b3) (if_no (cmpT_ok (x := .val (.int (4 * S * r.2))) (bin_ok (x := .slot 10) (y := .slot 9) rfl rfl rfl rfl (bi_mul (mulOk_r (by omega) (by omega)))) e2 rfl rfl hne)) rfl))
end Ev

set_option maxHeartbeats 2000000
namespace Ev
open PySem L2
theorem v_right {l : List D} (w : Urn l) : ∃ l', f__law_right l [] = some (.bool true, l') := by
  have h1 := t_R1
  have h2 := t_R2
  have h3 := t_R3
  have h4 := t_R4
  have f1 := t_M1
  have f2 := t_M2
  have f3 := t_M3
  have f4 := t_M4
  have q1 := k_M1
  have q2 := k_M2
  have q3 := k_M3
  unfold f__law_right
  rw [rr__is]
  generalize (tabT tb_square_at kt0 gl0) = T at *
  generalize 100000 = N
  obtain ⟨x, l1, e1, w1, hx⟩ := v_pickI w (L := [6, 3, 4, 9, 2, 5, 12, 8, 7, 10, 60]) (by simp) (by decide)
  have hk : ∃ k : Nat, x = k ∧ 2 ≤ k ∧ k ≤ 60 := by
    simp only [List.mem_cons, List.not_mem_nil, or_false] at hx
    exact ⟨x.toNat, by omega, by omega, by omega⟩
  obtain ⟨k, rfl, lo, hi⟩ := hk
  obtain ⟨A, B, C, l2, e2, w2, pA, pB, pC⟩ := v_three w1 lo hi
  have wW : W3 k 57 A B C := ⟨lo, hi, pA.mono (by decide), pB.mono (by decide), pC.mono (by decide)⟩
  obtain ⟨hV, hS⟩ := pts_facts A B C k pA.len pB.len pC.len
  have bV := pts_bd wW
  have hM := excl_len (ptsW A B C) (0, 0)
  have hP := pol_len (excl (0, 0) (ptsW A B C))
  have bM : ∀ p ∈ excl (0, 0) (ptsW A B C), PtB (0 + 2 ^ 58 * (ptsW A B C).length) p := excl_bd (fun p hp => pt_of_bd (bV p hp)) ⟨by simp, by simp⟩
  have bP := pol_bd bM
  have hb2 : 2 * ((0 + 2 ^ 58 * (ptsW A B C).length) * (excl (0, 0) (ptsW A B C)).length) ≤ 2 * (2 ^ 58 * 60 * 60) := Nat.mul_le_mul_left 2 (Nat.mul_le_mul (by
    have : 2 ^ 58 * (ptsW A B C).length ≤ 2 ^ 58 * 60 := Nat.mul_le_mul_left _ (by omega)
    omega) (by omega))
  have p58 : (2 : Nat) ^ 58 = 288230376151711744 := by decide
  have p71 : (2 : Nat) ^ 71 = 2361183241434822606848 := by decide
  have hb : ∀ p ∈ polW A B C, BdP 71 p := fun p hp => bd_of_pt ((bP p hp).mono hb2) (by rw [p71, p58]; omega)
  have hl : (polW A B C).length = k := by
    show (polOf (excl (0, 0) (ptsW A B C))).length = k
    omega
  have cmn := v_mean wW hb (by decide) hl
  have vl : ∀ t : Nat, t < 12 → f__law_field [wD A B C, .int k, curD t] = some (.list (((polW A B C).map (fld t)).map .int)) := fun t ht => by
    obtain ⟨b0, b1, b2⟩ := cur_bd t ht
    have := v_lfield wW b0 b1 b2
    rw [cur_sum t ht, lfield_pol pA.len pB.len pC.len] at this
    rw [curD, cur_sum t ht, this]
    exact congrArg (fun q => some (PyData.list (List.map PyData.int q))) (List.map_congr_left fun p _ => (fld_c t ht p).symm)
  have vf : ∀ s : Nat, s < 12 → f_field_at [wD A B C, .int s] = some (tupI ((polW A B C).map (fld s))) := fun s hs => v_field wW hl hs
  have vs : ∀ t : Nat, t < 12 → f_square_at [wD A B C, .int t] = some (.int (sqF (polW A B C) t)) := fun t ht => v_square (m := 74) wW hl ht (fun p hp => fld_bd ht (hb p hp)) (by decide)
  clear bM bP hb2 hM hP bV p58 p71 hV hS wW pA pB pC
  generalize polW A B C = P at *
  generalize wD A B C = W at *
  have s1 : evS N T [.o true l, .u, .u, .u, .u, .u, .u, .u, .u, .u, .u, .u, .u, .u] rr_1 = some (.nx [.o true l1, .v (.int k), .u, .u, .u, .u, .u, .u, .u, .u, .u, .u, .u, .u]) :=
    asg_ok (calW h1 (r := [.new ([6, 3, 4, 9, 2, 5, 12, 8, 7, 10, 60].map .int)]) rfl rfl rfl e1) rfl
  have s2 : evS N T [.o true l1, .v (.int k), .u, .u, .u, .u, .u, .u, .u, .u, .u, .u, .u, .u] rr_2 = some (.nx [.o true l2, .v (.int k), .u, .v W, .o false [], .u, .u, .u, .u, .u, .u, .u, .u, .u]) :=
    asgs_ok (ee_cons (calW h2 (r := [.slot 1]) rfl rfl rfl e2) (ee_cons (o := .new []) rfl rfl)) rfl rfl
  obtain ⟨ρ', e3, x2, x5, x6, x7, rfl⟩ := evFor_rng (f := fun x ρ1 => (bindT ρ1 (.nm 2) x).bind fun ρ2 => evSs N T ρ2 rr_3b) (n := 12)
    (Q := fun t ρ => ∃ x2 x5 x6 x7 : Sl, ρ = [.o true l2, .v (.int k), x2, .v W, .o false (((List.range t).map (sqF P)).map .int), x5, x6, x7, .u, .u, .u, .u, .u, .u])
    (ρ := [.o true l2, .v (.int k), .u, .v W, .o false [], .u, .u, .u, .u, .u, .u, .u, .u, .u]) (fun t ht ρ ⟨x2, x5, x6, x7, hρ⟩ => by
      subst hρ
      refine ⟨_, ?_, .v (.int t), .v (curD t), .v (.list ((P.map (fld t)).map .int)), .v (.int (sqF P t)), rfl⟩
      rw [bd_set _ 2 (by simp)]
      simp only [Option.bind_some, List.set_cons_succ, List.set_cons_zero]
      rw [List.range_succ, List.map_append, List.map_append]
      have hFb : ∀ x ∈ P.map (fld t), Bd 74 x := fun x hx => by
        obtain ⟨p, hp, rfl⟩ := List.mem_map.mp hx
        exact fld_bd (m := 71) ht (hb p hp)
      have tC : Tame (curD t) := tame_tup (n := 2) (l := [c0 t, c1 t, c2 t]) (by decide) (fun x hx => by
        obtain ⟨b0, b1, b2⟩ := cur_bd t ht
        simp only [List.mem_cons, List.not_mem_nil, or_false] at hx
        unfold Bd
        rcases hx with rfl | rfl | rfl <;> omega) (by simp)
      have tS : Tame (.int (sqF P t)) := tame_int (n := 154) (sqF_bd (m := 71) ht hb (by omega)) (by decide)
      exact rr_tn N T _ x5 x6 x7 (by rw [List.length_map]; omega) hFb tC (so_tup [c0 t, c1 t, c2 t]) tS (by rw [List.map_map]; rfl) (by simp; omega) h3 h4 f1 f2 f3 q1 q2 q3 (v_lcur t ht) (v_cur t ht) (vl t ht) (vf t ht) (vs t ht) (fun h5 => ⟨P.map (fld (t - 6)), by
        rw [show (t : Int) - 6 = ((t - 6 : Nat) : Int) by omega]
        exact vf (t - 6) (by omega), by
        rw [List.map_map]
        exact List.map_congr_left fun p _ => (fld6 ht h5 p).symm, by rw [List.length_map]; omega⟩)) ⟨_, _, _, _, rfl⟩
  have s3 : evS N T [.o true l2, .v (.int k), .u, .v W, .o false [], .u, .u, .u, .u, .u, .u, .u, .u, .u] rr_3 = some (.nx [.o true l2, .v (.int k), x2, .v W, .o false (((List.range 12).map (sqF P)).map .int), x5, x6, x7, .u, .u, .u, .u, .u, .u]) := for_ok (it_r1e (o := .val (.int 12)) rfl rfl (ro_nat (k := 12) rfl (by decide))) e3
  have s4 : evS N T [.o true l2, .v (.int k), x2, .v W, .o false (((List.range 12).map (sqF P)).map .int), x5, x6, x7, .u, .u, .u, .u, .u, .u] rr_4 = some (.nx [.o true l2, .v (.int k), x2, .v W, .o false (((List.range 12).map (sqF P)).map .int), x5, x6, x7, .v (.int (redP (P.map nrm).sum ((k : Int) ^ 3)).1), .v (.int (redP (P.map nrm).sum ((k : Int) ^ 3)).2), .u, .u, .u, .u]) :=
    asg_ok (calPn f4 (ops := [.slot 3]) rfl rfl (ds := [W]) rfl rfl cmn) rfl
  obtain ⟨ρ', e5, y2, x10, x11, x12, rfl⟩ := evFor_rng (f := fun x ρ1 => (bindT ρ1 (.nm 2) x).bind fun ρ2 => evSs N T ρ2 rr_5b) (n := 12)
    (Q := fun t ρ => ∃ x2 x10 x11 x12 : Sl, ρ = [.o true l2, .v (.int k), x2, .v W, .o false (((List.range 12).map (sqF P)).map .int), x5, x6, x7, .v (.int (redP (P.map nrm).sum ((k : Int) ^ 3)).1), .v (.int (redP (P.map nrm).sum ((k : Int) ^ 3)).2), x10, x11, x12, .u])
    (ρ := [.o true l2, .v (.int k), x2, .v W, .o false (((List.range 12).map (sqF P)).map .int), x5, x6, x7, .v (.int (redP (P.map nrm).sum ((k : Int) ^ 3)).1), .v (.int (redP (P.map nrm).sum ((k : Int) ^ 3)).2), .u, .u, .u, .u]) (fun t ht ρ ⟨x2, x10, x11, x12, hρ⟩ => by
      subst hρ
      refine ⟨_, ?_, .v (.int t), .v (.int (4 * (P.map nrm).sum)), .v (.int (sqF P t)), .v (.int (sqF P (prt t))), rfl⟩
      rw [bd_set _ 2 (by simp)]
      simp only [Option.bind_some, List.set_cons_succ, List.set_cons_zero]
      exact rr_t5 N T _ _ x5 x6 x7 x10 x11 x12 ht (by omega) hi) ⟨_, _, _, _, rfl⟩
  have s5 : evS N T [.o true l2, .v (.int k), x2, .v W, .o false (((List.range 12).map (sqF P)).map .int), x5, x6, x7, .v (.int (redP (P.map nrm).sum ((k : Int) ^ 3)).1), .v (.int (redP (P.map nrm).sum ((k : Int) ^ 3)).2), .u, .u, .u, .u] rr_5 = some (.nx [.o true l2, .v (.int k), y2, .v W, .o false (((List.range 12).map (sqF P)).map .int), x5, x6, x7, .v (.int (redP (P.map nrm).sum ((k : Int) ^ 3)).1), .v (.int (redP (P.map nrm).sum ((k : Int) ^ 3)).2), x10, x11, x12, .u]) := for_ok (it_r1e (o := .val (.int 12)) rfl rfl (ro_nat (k := 12) rfl (by decide))) e5
  exact ⟨l2, runW_ok (ss_nx s1 (ss_nx s2 (ss_nx s3 (ss_nx s4 (ss_nx s5 (ss_rt (s := rr_6) rfl))))))⟩
end Ev

set_option maxHeartbeats 2000000
namespace Ev
open PySem L2
def urnB : ISs := (.cons (.asg (.nm 3) (.bin .Mod (.bi "int" (.cons (.bin .Add (.bin .Add (.bin .Mult (.var 3) (.cst (.int 48889))) (.bin .Mod (.bi "int" (.cons (.var 4) .nil)) (.cst (.int 2147483563)))) (.cst (.int 19))) .nil)) (.cst (.int 2147483647)))) .nil)
def urnF : IS := (.fors (.nm 4) (.ex (.slc (.var 0) .no (.so (.cst (.int 8))))) urnB)
theorem urn_turn (T : Tb) (n : Nat) (sc : D) (sp o m x : Int) : evSs n T [.v sc, .v (.int sp), .v (.int o), .v (.int m), .v (.int x), .u] urnB = some (.nx [.v sc, .v (.int sp), .v (.int o), .v (.int ((m * 48889 + x % 2147483563 + 19) % 2147483647)), .v (.int x), .u]) := by
  have h1 : mulOk m 48889 = true := mulOk_r (by decide) (by decide)
  simp [urnB, evSs, evS, evE, evEs, viewL, viewOp, biD, ofC, binD, binI, h1, asgT, stOp, setE]
theorem urn_loop (T : Tb) (n : Nat) (ns : List Int) (sp o m : Int) : ∃ (m' : Int) (c : Sl), evS n T [.v (.list (ns.map .int)), .v (.int sp), .v (.int o), .v (.int m), .u, .u] urnF = some (.nx [.v (.list (ns.map .int)), .v (.int sp), .v (.int o), .v (.int m'), c, .u]) := by
  obtain ⟨ρ', e, m', c, rfl⟩ := evFor_inv (f := fun x ρ1 => (bindT ρ1 (.nm 4) x).bind fun ρ2 => evSs n T ρ2 urnB) (Q := fun ρ => ∃ (m' : Int) (c : Sl), ρ = [.v (.list (ns.map .int)), .v (.int sp), .v (.int o), .v (.int m'), c, .u]) (xs := cutD (ns.map .int) none (some 8)) (ρ := [.v (.list (ns.map .int)), .v (.int sp), .v (.int o), .v (.int m), .u, .u]) (fun x hx ρ ⟨m1, c1, hρ⟩ => by
    subst hρ
    have hx' : x ∈ ns.map PyData.int := List.mem_of_mem_drop (List.mem_of_mem_take hx)
    obtain ⟨i, _, rfl⟩ := List.mem_map.mp hx'
    exact ⟨_, urn_turn T n _ sp o m1 i, _, _, rfl⟩) ⟨m, .u, rfl⟩
  refine ⟨m', c, ?_⟩
  rw [← e]
  simp [urnF, evS, evIt, evE, evC, viewOp, ofC, slcD, keepOp]
theorem v_urn (ns : List Int) (sp : Nat) (hs : sp < 10) : ∃ l, f__law_urn [.list (ns.map .int), .int sp] = some l ∧ Urn l := by
  have h0 : mulOk 6007 (sp : Int) = true := mulOk_l (by decide) (by decide)
  have h00 : mulOk 613 (sp : Int) = true := mulOk_l (by decide) (by decide)
  have h1 : ∀ m : Int, mulOk m 101 = true := fun m => mulOk_r (by decide) (by decide)
  have h2 : ∀ o : Int, mulOk (o % 2147483563) 40507 = true := fun o => mulOk_r (by decide) (by decide)
  have h3 : powOk 10 17 = true := by decide
  have h4 : lenOk 3 = true := lenOk3
  have key : ∀ o : Int, ((sp : Int) < (ns.length : Int) → ns[sp]? = some o) → (¬ (sp : Int) < (ns.length : Int) → o = 613 * sp + 211) → ∃ l, f__law_urn [.list (ns.map .int), .int sp] = some l ∧ Urn l := by
    intro o ho1 ho2
    obtain ⟨m, c, e⟩ := urn_loop (tabT tb__law_right kt0 gl0) 100000 ns sp o (157939 + 6007 * sp)
    unfold urnF urnB at e
    have e0 : evS 100000 (tabT tb__law_right kt0 gl0) [.v (.list (ns.map .int)), .v (.int sp), .u, .u, .u, .u] (.asg (.nm 2) (.ite (.cmp .Lt (.var 1) (.bi "len" (.cons (.var 0) .nil))) (.bi "int" (.cons (.idx (.var 0) (.var 1)) .nil)) (.bin .Add (.bin .Mult (.cst (.int 613)) (.var 1)) (.cst (.int 211))))) = some (.nx [.v (.list (ns.map .int)), .v (.int sp), .v (.int o), .u, .u, .u]) := by
      by_cases hl : (sp : Int) < (ns.length : Int)
      · have := ho1 hl
        simp [evS, evE, evEs, evT, viewL, viewOp, biD, cmpD, cmpI, hl, idxD, atI, ixN, this, asgT, stOp, setE]
      · have := ho2 hl
        subst this
        simp [evS, evE, evEs, evT, viewL, viewOp, biD, cmpD, cmpI, hl, ofC, binD, binI, h00, asgT, stOp, setE]
    by_cases h5 : o < 0
    · exact ⟨[.int (-o), .int ((m * 101 + o % 2147483563 * 40507) % 2147483647), .int 0], by simp [f__law_urn, runM, i__law_urn, entP, evSs, ↓e0]; simp [evS, evE, evEs, evT, viewL, viewOp, biD, ofC, binD, binI, asgT, stOp, setE, h0, ↓e, cmpD, cmpI, keepL, keepOp, h1, h2, h3, h4, h5], _, _, _, rfl, by omega⟩
    · by_cases h6 : 100000000000000000 ≤ o
      · exact ⟨[.int o, .int ((m * 101 + o % 2147483563 * 40507) % 2147483647), .int 0], by simp [f__law_urn, runM, i__law_urn, entP, evSs, ↓e0]; simp [evS, evE, evEs, evT, viewL, viewOp, biD, ofC, binD, binI, asgT, stOp, setE, h0, ↓e, cmpD, cmpI, keepL, keepOp, h1, h2, h3, h4, h5, h6], _, _, _, rfl, by omega⟩
      · exact ⟨[.int 0, .int ((m * 101 + o % 2147483563 * 40507) % 2147483647), .int 0], by simp [f__law_urn, runM, i__law_urn, entP, evSs, ↓e0]; simp [evS, evE, evEs, evT, viewL, viewOp, biD, ofC, binD, binI, asgT, stOp, setE, h0, ↓e, cmpD, cmpI, keepL, keepOp, h1, h2, h3, h4, h5, h6], _, _, _, rfl, by omega⟩
  by_cases hl : (sp : Int) < (ns.length : Int)
  · exact key (ns[sp]'(by omega)) (fun _ => List.getElem?_eq_getElem _) (fun h => absurd hl h)
  · exact key (613 * sp + 211) (fun h => absurd h hl) (fun _ => rfl)
theorem math2 (ns : List Int) : f_law [.list (ns.map .int)] = some (.bool true) := by
  obtain ⟨l0, a0, w0⟩ := v_urn ns 0 (by decide)
  obtain ⟨l1, a1, w1⟩ := v_urn ns 1 (by decide)
  obtain ⟨l2, a2, w2⟩ := v_urn ns 2 (by decide)
  obtain ⟨m0, b0⟩ := v_right w0
  obtain ⟨m1, b1⟩ := v_right w1
  obtain ⟨m2, b2⟩ := v_right w2
  have t2 : (tabT tb__law_urn kt0 gl0).fs "_law_urn" = some fs__law_urn := rfl
  have t3 : (tabT tb__law_urn kt0 gl0).fs "_law_right" = some fs__law_right := rfl
  have r2 : rngOk 2 = true := by decide
  have r3 : rngOk 3 = true := by decide
  have q2 : rngD 0 2 = [.int 0, .int 1] := rfl
  have q3 : rngD 0 3 = [.int 0, .int 1, .int 2] := rfl
  have a0 : f__law_urn [.list (ns.map .int), .int 0] = some l0 := a0
  have a1 : f__law_urn [.list (ns.map .int), .int 1] = some l1 := a1
  have a2 : f__law_urn [.list (ns.map .int), .int 2] = some l2 := a2
  have hi : ∃ n : Int, (n = 2 ∨ n = 3) ∧ evE (tabT tb__law_urn kt0 gl0) [.v (.list (ns.map .int)), .u] (.bi "max" (.cons (.cst (.int 2)) (.cons (.bi "min" (.cons (.bi "len" (.cons (.var 0) .nil)) (.cons (.cst (.int 3)) .nil))) .nil))) = some (.val (.int n), [.v (.list (ns.map .int)), .u]) := by
    by_cases h : 3 < (ns.length : Int)
    · exact ⟨3, .inr rfl, by simp [evE, evEs, viewL, viewOp, biD, ofC, h]⟩
    · by_cases h2 : 2 < (ns.length : Int)
      · exact ⟨ns.length, .inr (by omega), by simp [evE, evEs, viewL, viewOp, biD, ofC, h, h2]⟩
      · exact ⟨2, .inl rfl, by simp [evE, evEs, viewL, viewOp, biD, ofC, h, h2]⟩
  obtain ⟨n, h, e⟩ := hi
  have lo2 : lenOk 2 = true := lenOk2
  have lo3 : lenOk 3 = true := lenOk3
  rcases h with rfl | rfl
  · have it : evIt (tabT tb__law_urn kt0 gl0) [.v (.list (ns.map .int)), .u] (.r1 (.bi "max" (.cons (.cst (.int 2)) (.cons (.bi "min" (.cons (.bi "len" (.cons (.var 0) .nil)) (.cons (.cst (.int 3)) .nil))) .nil)))) = some ([.int 0, .int 1], [.v (.list (ns.map .int)), .u]) := by
      simp [evIt, ↓e, viewOp, r2, q2]
    simp [f_law, runP, i_law, entP, evSs, evS, evE, ↓it, evEs, evT, evIf, evComp, viewL, viewOp, t2, t3, fs__law_urn, fs__law_right, callF, callP, callM, callW, keepL, keepOp, flat, wipeE, backE, bindT, setE, a0, a1, b0, b1, lo2, biD, boolsD]
  · have it : evIt (tabT tb__law_urn kt0 gl0) [.v (.list (ns.map .int)), .u] (.r1 (.bi "max" (.cons (.cst (.int 2)) (.cons (.bi "min" (.cons (.bi "len" (.cons (.var 0) .nil)) (.cons (.cst (.int 3)) .nil))) .nil)))) = some ([.int 0, .int 1, .int 2], [.v (.list (ns.map .int)), .u]) := by
      simp [evIt, ↓e, viewOp, r3, q3]
    simp [f_law, runP, i_law, entP, evSs, evS, evE, ↓it, evEs, evT, evIf, evComp, viewL, viewOp, t2, t3, fs__law_urn, fs__law_right, callF, callP, callM, callW, keepL, keepOp, flat, wipeE, backE, bindT, setE, a0, a1, a2, b0, b1, b2, lo3, biD, boolsD]
end Ev

namespace Ev
open PySem in
theorem math (ns : List Int) (_ : ns.length ≤ 63) (_ : ∀ k ∈ ns, Builtin.Int.intBits k ≤ 1048576) : f_law [.list (ns.map .int)] = some (.bool true) := math2 ns
end Ev
open PySem PySem.W PyProof.Rows
set_option maxHeartbeats 0 in
theorem PySem.Challenge.cw_slotstars_k72_whole_fields_at_moments_holds : PySem.Challenge.rw_slotstars_k72_whole_fields_at_moments.Holds := by
  w_on; o_law; k_head; (case hw => w_witness2)
  k_fill
  refine Ev.walkGT (l := PySem.Challenge.rw_slotstars_k72_whole_fields_at_moments) (n := 63) (k := 88) (x := "_law_script") (f := Ev.f_law) ["are_wholes", "slot_points", "polygon", "field_at", "currents_at", "square_at"] (by decide +kernel) rfl (by decide) rfl ⟨rfl, by decide, by decide⟩ (fun w h Y => PySem.W.kIn_of Y) ?F (fun ns hl hb => Ev.math ns hl hb)
  case F =>
    intro w mg fa h KX G hmg K' cs tx KX' up upc
    refine' Ev.all_mk KX' hmg (up _ _ (Ev.got_mk KX G ?a0 ?l0 ?c0 ?k0)) (up _ _ (Ev.got_mk KX G ?a1 ?l1 ?c1 ?k1)) (up _ _ (Ev.got_mk KX G ?a2 ?l2 ?c2 ?k2)) (up _ _ (Ev.got_mk KX G ?a3 ?l3 ?c3 ?k3)) (up _ _ (Ev.got_mk KX G ?a4 ?l4 ?c4 ?k4)) (up _ _ (Ev.got_mk KX G ?a5 ?l5 ?c5 ?k5)) (up _ _ (Ev.got_mk KX G ?a6 ?l6 ?c6 ?k6)) (up _ _ (Ev.got_mk KX G ?a7 ?l7 ?c7 ?k7)) (up _ _ (Ev.got_mk KX G ?a8 ?l8 ?c8 ?k8)) (up _ _ (Ev.got_mk KX G ?a9 ?l9 ?c9 ?k9)) (up _ _ (Ev.got_mk KX G ?a10 ?l10 ?c10 ?k10)) (up _ _ (Ev.got_mk KX G ?a11 ?l11 ?c11 ?k11)) (up _ _ (Ev.got_mk KX G ?a12 ?l12 ?c12 ?k12)) (up _ _ (Ev.got_mk KX G ?a13 ?l13 ?c13 ?k13)) (up _ _ (Ev.got_mk KX G ?a14 ?l14 ?c14 ?k14)) (up _ _ (Ev.got_mk KX G ?a15 ?l15 ?c15 ?k15)) (up _ _ (Ev.got_mk KX G ?a16 ?l16 ?c16 ?k16)) (up _ _ (Ev.got_mk KX G ?a17 ?l17 ?c17 ?k17)) (up _ _ (Ev.got_mk KX G ?a18 ?l18 ?c18 ?k18)) (up _ _ (Ev.got_mk KX G ?a19 ?l19 ?c19 ?k19)) (up _ _ (Ev.got_mk KX G ?a20 ?l20 ?c20 ?k20)) (up _ _ (Ev.got_mk KX G ?a21 ?l21 ?c21 ?k21)) (up _ _ (Ev.got_mk KX G ?a22 ?l22 ?c22 ?k22)) (up _ _ (Ev.got_mk KX G ?a23 ?l23 ?c23 ?k23)) (up _ _ (Ev.got_mk KX G ?a24 ?l24 ?c24 ?k24)) (up _ _ (Ev.got_mk KX G ?a25 ?l25 ?c25 ?k25)) (up _ _ (Ev.got_mk KX G ?a26 ?l26 ?c26 ?k26)) (up _ _ (Ev.got_mk KX G ?a27 ?l27 ?c27 ?k27)) (up _ _ (Ev.got_mk KX G ?a28 ?l28 ?c28 ?k28)) (up _ _ (Ev.got_mk KX G ?a29 ?l29 ?c29 ?k29)) (up _ _ (Ev.got_mk KX G ?a30 ?l30 ?c30 ?k30)) (up _ _ (Ev.got_mk KX G ?a31 ?l31 ?c31 ?k31)) (up _ _ (Ev.got_mk KX G ?a32 ?l32 ?c32 ?k32)) (up _ _ (Ev.got_mk KX G ?a33 ?l33 ?c33 ?k33)) (up _ _ (Ev.got_mk KX G ?a34 ?l34 ?c34 ?k34)) (up _ _ (Ev.got_mk KX G ?a35 ?l35 ?c35 ?k35)) (up _ _ (Ev.got_mk KX G ?a36 ?l36 ?c36 ?k36)) (up _ _ (Ev.got_mk KX G ?a37 ?l37 ?c37 ?k37)) (up _ _ (Ev.got_mk KX G ?a38 ?l38 ?c38 ?k38)) (PySem.W.mg_none_of KX G ?z0) (PySem.W.mg_none_of KX G ?z1) (PySem.W.mg_none_of KX G ?z2) (PySem.W.mg_none_of KX G ?z3) (PySem.W.mg_none_of KX G ?z4) (PySem.W.mg_none_of KX G ?z5) (PySem.W.mg_none_of KX G ?z6) (PySem.W.mg_none_of KX G ?z7) (PySem.W.mg_none_of KX G ?z8) (PySem.W.mg_none_of KX G ?z9) (PySem.W.mg_none_of KX G ?z10) (PySem.W.mg_none_of KX G ?z11) (PySem.W.mg_none_of KX G ?z12) (PySem.W.mg_none_of KX G ?z13) (PySem.W.mg_none_of KX G ?z14) (PySem.W.mg_none_of KX G ?z15) (PySem.W.mg_none_of KX G ?z16) (PySem.W.mg_none_of KX G ?z17) (PySem.W.mg_none_of KX G ?z18) (PySem.W.mg_none_of KX G ?z19) (PySem.W.mg_none_of KX G ?z20) (Ev.con_mk KX G ?d0 ?e0) (Ev.con_mk KX G ?d1 ?e1) (Ev.con_mk KX G ?d2 ?e2) (Ev.con_mk KX G ?d3 ?e3) (upc _ _ (Ev.cot_mk KX G ?d4 ?e4)) (PySem.W.mg_of KX G ?m0) tx
    (case a0 => k_is); (case l0 => k_is); (case c0 => k_is); (case k0 => k_is); (case a1 => k_is); (case l1 => k_is); (case c1 => k_is); (case k1 => k_is); (case a2 => k_is); (case l2 => k_is); (case c2 => k_is); (case k2 => k_is); (case a3 => k_is); (case l3 => k_is); (case c3 => k_is); (case k3 => k_is); (case a4 => k_is); (case l4 => k_is); (case c4 => k_is); (case k4 => k_is); (case a5 => k_is); (case l5 => k_is); (case c5 => k_is); (case k5 => k_is); (case a6 => k_is); (case l6 => k_is); (case c6 => k_is); (case k6 => k_is); (case a7 => k_is); (case l7 => k_is); (case c7 => k_is); (case k7 => k_is); (case a8 => k_is); (case l8 => k_is); (case c8 => k_is); (case k8 => k_is); (case a9 => k_is); (case l9 => k_is); (case c9 => k_is); (case k9 => k_is); (case a10 => k_is); (case l10 => k_is); (case c10 => k_is); (case k10 => k_is); (case a11 => k_is); (case l11 => k_is); (case c11 => k_is); (case k11 => k_is); (case a12 => k_is); (case l12 => k_is); (case c12 => k_is); (case k12 => k_is); (case a13 => k_is); (case l13 => k_is); (case c13 => k_is); (case k13 => k_is); (case a14 => k_is); (case l14 => k_is); (case c14 => k_is); (case k14 => k_is); (case a15 => k_is); (case l15 => k_is); (case c15 => k_is); (case k15 => k_is); (case a16 => k_is); (case l16 => k_is); (case c16 => k_is); (case k16 => k_is); (case a17 => k_is); (case l17 => k_is); (case c17 => k_is); (case k17 => k_is); (case a18 => k_is); (case l18 => k_is); (case c18 => k_is); (case k18 => k_is); (case a19 => k_is); (case l19 => k_is); (case c19 => k_is); (case k19 => k_is); (case a20 => k_is); (case l20 => k_is); (case c20 => k_is); (case k20 => k_is); (case a21 => k_is); (case l21 => k_is); (case c21 => k_is); (case k21 => k_is); (case a22 => k_is); (case l22 => k_is); (case c22 => k_is); (case k22 => k_is); (case a23 => k_is); (case l23 => k_is); (case c23 => k_is); (case k23 => k_is); (case a24 => k_is); (case l24 => k_is); (case c24 => k_is); (case k24 => k_is); (case a25 => k_is); (case l25 => k_is); (case c25 => k_is); (case k25 => k_is); (case a26 => k_is); (case l26 => k_is); (case c26 => k_is); (case k26 => k_is); (case a27 => k_is); (case l27 => k_is); (case c27 => k_is); (case k27 => k_is); (case a28 => k_is); (case l28 => k_is); (case c28 => k_is); (case k28 => k_is); (case a29 => k_is); (case l29 => k_is); (case c29 => k_is); (case k29 => k_is); (case a30 => k_is); (case l30 => k_is); (case c30 => k_is); (case k30 => k_is); (case a31 => k_is); (case l31 => k_is); (case c31 => k_is); (case k31 => k_is); (case a32 => k_is); (case l32 => k_is); (case c32 => k_is); (case k32 => k_is); (case a33 => k_is); (case l33 => k_is); (case c33 => k_is); (case k33 => k_is); (case a34 => k_is); (case l34 => k_is); (case c34 => k_is); (case k34 => k_is); (case a35 => k_is); (case l35 => k_is); (case c35 => k_is); (case k35 => k_is); (case a36 => k_is); (case l36 => k_is); (case c36 => k_is); (case k36 => k_is); (case a37 => k_is); (case l37 => k_is); (case c37 => k_is); (case k37 => k_is); (case a38 => k_is); (case l38 => k_is); (case c38 => k_is); (case k38 => k_is); (case z0 => k_is); (case z1 => k_is); (case z2 => k_is); (case z3 => k_is); (case z4 => k_is); (case z5 => k_is); (case z6 => k_is); (case z7 => k_is); (case z8 => k_is); (case z9 => k_is); (case z10 => k_is); (case z11 => k_is); (case z12 => k_is); (case z13 => k_is); (case z14 => k_is); (case z15 => k_is); (case z16 => k_is); (case z17 => k_is); (case z18 => k_is); (case z19 => k_is); (case z20 => k_is); (case d0 => k_is); (case e0 => rfl); (case d1 => k_is); (case e1 => rfl); (case d2 => k_is); (case e2 => rfl); (case d3 => k_is); (case e3 => rfl); (case d4 => k_is); (case e4 => first | rfl | with_unfolding_all rfl); (case m0 => k_is)
