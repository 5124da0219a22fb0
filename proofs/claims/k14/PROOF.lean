import PyProof.Rows.All
import Wide.All
import OpenK.AllK
import Wide.FinOn
import HandS.ForMost
import HandS.ForExc
import HandS.Wide
import HandS.WideBits
import HandS.Gcd
import HandS.Deep
import HandS.IsInst
import HandS.TupAny
import HandS.TupLe
import HandS.Zip
import HandS.SortInts
import HandS.EndBits
import HandS.Style
import HandS.AnyAll
import HandS.WideMore
import HandS.Comp
import HandS.Star
import PyProof.EnumMake
import PyProof.Draws
import HandS.GenList
import PyProof.GenQ
import PyProof.ConsumeS
import PyProof.SumWalkG
import PyProof.TupleOfGen
import HandS.Iter
import HandS.EndTab
import PySem.Challenge.RW_slotstars_k14_whole_orders_there_and_gon
set_option Elab.async false
set_option linter.all false
set_option maxRecDepth 100000
set_option maxHeartbeats 1000000
namespace Ev
open PySem PySem.Spec PyProof.Rows L2

abbrev D := PyData
abbrev St := L2.St

/-! ### data -/
mutual
inductive Rp (K : PySem.W.Frag) (F : Hp) : V → D → Prop
  | non : Rp K F .non .none
  | bl (b : Bool) : Rp K F (.bl b) (.bool b)
  | int (i : Int) : Rp K F (.int i) (.int i)
  | str (x : Str) : Rp K F (.str x) (.str x)
  | lst {a : Addr} {xs : List V} {ds : List D} : Rd F a (.lst xs) → RpAll K F xs ds → Rp K F (.ref a) (.list ds)
  | tup {a : Addr} {xs : List V} {ds : List D} : SqT K F a xs → RpAll K F xs ds → Rp K F (.ref a) (.tuple ds)
inductive RpAll (K : PySem.W.Frag) (F : Hp) : List V → List D → Prop
  | nil : RpAll K F [] []
  | cons {v : V} {vs : List V} {d : D} {ds : List D} : Rp K F v d → RpAll K F vs ds → RpAll K F (v :: vs) (d :: ds)
end
mutual
theorem Rp.dp {K : PySem.W.Frag} {F : Hp} : ∀ {d : D} {x : V}, Rp K F x d → Dp K F x d
  | _, _, .non => .non
  | _, _, .bl b => .bl b
  | _, _, .int i => .int i
  | _, _, .str x => .str x
  | _, _, .lst a b => .lst (.inl a) (RpAll.dp b)
  | _, _, .tup a b => .tup a (RpAll.dp b)
theorem RpAll.dp {K : PySem.W.Frag} {F : Hp} : ∀ {ds : List D} {xs : List V}, RpAll K F xs ds → DpAll K F xs ds
  | _, _, .nil => .nil
  | _, _, .cons a b => .cons (Rp.dp a) (RpAll.dp b)
end

/-! ### slots -/
inductive Sl where
  | u
  | v (d : D)
  | o (mt : Bool) (ds : List D)
abbrev En := List Sl

/-- H is H but more -/
theorem same_refl (H : Hp) : ∀ p o, H p = some o → H p = some o := fun _ _ e => e
def Sm (F F' : Hp) : Prop := ∀ p o, F p = some o → F' p = some o
theorem Sm.refl (F : Hp) : Sm F F := fun _ _ e => e
theorem Sm.trans {F G H : Hp} (a : Sm F G) (b : Sm G H) : Sm F H := fun p o e => b p o (a p o e)

def TabG (H : Hp) (P : Addr) : Prop := ∃ ps : Array Value, H P = some (.tbl ps) ∧ TriplesOk ps.toList

structure Wf (tb : List Addr) (B F H : Hp) : Prop where
  fz : Sm F H
  bg : ∀ p o, B p = some o → H p = some o ∧ F p = none
  tabs : ∀ P ∈ tb, TabG H P ∧ F P = none ∧ B P = none

def SlOk (K : PySem.W.Frag) (pa : Nat → Addr) (B F : Hp) (σ : St) (H : Hp) (i : Nat) : Sl → Prop
  | .u => True
  | .v d => ∃ x, σ[i]? = some (some x) ∧ Rp K F x d
  | .o mt ds => ∃ p vs, σ[i]? = some (some (.ref p)) ∧ (mt = true → p = pa i) ∧ H p = some (.lst vs) ∧ F p = none ∧ B p = none ∧ RpAll K F vs ds

def Sl.own : Sl → Bool
  | .o _ _ => true
  | _ => false

structure Rel (K : PySem.W.Frag) (tb : List Addr) (pa : Nat → Addr) (B F : Hp) (σ : St) (H : Hp) (ρ : En) : Prop where
  wf : Wf tb B F H
  len : σ.length = ρ.length
  sl : ∀ (i : Nat) (s : Sl), ρ[i]? = some s → SlOk K pa B F σ H i s
  ne : ∀ (i j : Nat) (s t : Sl), i ≠ j → ρ[i]? = some s → ρ[j]? = some t → s.own = true → t.own = true → σ[i]? ≠ σ[j]?

/-! ### readings persist -/
theorem Rd.mono {F F' : Hp} (h : Sm F F') {a : Addr} {u : HO} (r : Rd F a u) : Rd F' a u := by
  rcases r with r | ⟨o, r⟩
  · exact .inl (h _ _ r)
  · exact .inr ⟨o, h _ _ r⟩
theorem SqL.mono {K : PySem.W.Frag} {F F' : Hp} (h : Sm F F') {a : Addr} {xs : List V} (r : SqL K F a xs) : SqL K F' a xs := r.imp (Rd.mono h) fun z => z
theorem SqT.mono {K : PySem.W.Frag} {F F' : Hp} (h : Sm F F') {a : Addr} {xs : List V} (r : SqT K F a xs) : SqT K F' a xs := r.imp (Rd.mono h) fun z => z
mutual
theorem Rp.mono {K : PySem.W.Frag} {F F' : Hp} (h : Sm F F') : ∀ {d : D} {x : V}, Rp K F x d → Rp K F' x d
  | _, _, .non => .non
  | _, _, .bl b => .bl b
  | _, _, .int i => .int i
  | _, _, .str x => .str x
  | _, _, .lst a b => .lst (Rd.mono h a) (RpAll.mono h b)
  | _, _, .tup a b => .tup (SqT.mono h a) (RpAll.mono h b)
theorem RpAll.mono {K : PySem.W.Frag} {F F' : Hp} (h : Sm F F') : ∀ {ds : List D} {xs : List V}, RpAll K F xs ds → RpAll K F' xs ds
  | _, _, .nil => .nil
  | _, _, .cons a b => .cons (Rp.mono h a) (RpAll.mono h b)
end
theorem RpAll.length {K : PySem.W.Frag} {F : Hp} : ∀ {xs : List V} {ds : List D}, RpAll K F xs ds → xs.length = ds.length
  | _, _, .nil => rfl
  | _, _, .cons _ b => by rw [List.length_cons, List.length_cons, RpAll.length b]
theorem RpAll.get {K : PySem.W.Frag} {F : Hp} : ∀ {xs : List V} {ds : List D} {i : Nat} {d : D}, RpAll K F xs ds → ds[i]? = some d → ∃ x, xs[i]? = some x ∧ Rp K F x d
  | _, _, _, _, .nil, e => by simp at e
  | _, _, 0, _, .cons a _, e => by
    simp at e; subst e; exact ⟨_, rfl, a⟩
  | _, _, i + 1, _, .cons _ b, e => by
    simp at e
    obtain ⟨x, h1, h2⟩ := RpAll.get b e
    exact ⟨x, by simpa using h1, h2⟩
theorem RpAll.append {K : PySem.W.Frag} {F : Hp} : ∀ {xs ys : List V} {ds es : List D}, RpAll K F xs ds → RpAll K F ys es → RpAll K F (xs ++ ys) (ds ++ es)
  | _, _, _, _, .nil, b => b
  | _, _, _, _, .cons a r, b => .cons a (RpAll.append r b)
theorem RpAll.set {K : PySem.W.Frag} {F : Hp} {x : V} {d : D} (h : Rp K F x d) : ∀ {xs : List V} {ds : List D} (i : Nat), RpAll K F xs ds → RpAll K F (xs.set i x) (ds.set i d)
  | _, _, _, .nil => .nil
  | _, _, 0, .cons _ r => .cons h r
  | _, _, i + 1, .cons a r => .cons a (RpAll.set h i r)
theorem RpAll.take {K : PySem.W.Frag} {F : Hp} : ∀ {xs : List V} {ds : List D} (n : Nat), RpAll K F xs ds → RpAll K F (xs.take n) (ds.take n)
  | _, _, 0, _ => .nil
  | _, _, _ + 1, .nil => .nil
  | _, _, n + 1, .cons a r => .cons a (RpAll.take n r)
theorem RpAll.drop {K : PySem.W.Frag} {F : Hp} : ∀ {xs : List V} {ds : List D} (n : Nat), RpAll K F xs ds → RpAll K F (xs.drop n) (ds.drop n)
  | _, _, 0, r => r
  | _, _, _ + 1, .nil => .nil
  | _, _, n + 1, .cons _ r => RpAll.drop n r
theorem RpAll.rep {K : PySem.W.Frag} {F : Hp} {xs : List V} {ds : List D} (r : RpAll K F xs ds) : ∀ n : Nat, RpAll K F (List.replicate n xs).flatten (List.replicate n ds).flatten
  | 0 => .nil
  | n + 1 => by
    rw [List.replicate_succ, List.replicate_succ, List.flatten_cons, List.flatten_cons]
    exact RpAll.append r (RpAll.rep r n)
/-- data without references -/
def flat : D → Bool
  | .none => true
  | .bool _ => true
  | .int _ => true
  | .str _ => true
  | _ => false
theorem rpFlat {K : PySem.W.Frag} {F G : Hp} {d : D} {x : V} (h : Rp K F x d) (e : flat d = true) : Rp K G x d := by
  cases h with
  | non => exact .non
  | bl b => exact .bl b
  | int i => exact .int i
  | str x => exact .str x
  | lst _ _ => cases e
  | tup _ _ => cases e

/-! ### a value beside the slots -/
inductive Op where
  | val (d : D)
  | slot (i : Nat)
  | new (ds : List D)
def OpR (K : PySem.W.Frag) (B F H : Hp) (σ : St) (ρ : En) (x : V) : Op → Prop
  | .val d => Rp K F x d
  | .slot i => σ[i]? = some (some x)
  | .new ds => ∃ p vs, x = .ref p ∧ H p = some (.lst vs) ∧ F p = none ∧ B p = none ∧ (∀ (j : Nat) (s : Sl), ρ[j]? = some s → s.own = true → σ[j]? ≠ some (some (.ref p))) ∧ RpAll K F vs ds

section
variable {K : PySem.W.Frag} {tb : List Addr} {pa : Nat → Addr} {B F F' : Hp} {σ : St} {H H' : Hp} {ρ ρ' : En} {x : V} {op : Op} {d : D} {ds : List D} {i : Nat} {p : Addr}

theorem Wf.none (w : Wf tb B F H) (h : H p = .none) : F p = none ∧ B p = none := by
  constructor
  · cases e : F p with
    | none => rfl
    | some o => rw [w.fz _ _ e] at h; cases h
  · cases e : B p with
    | none => rfl
    | some o => rw [(w.bg _ _ e).1] at h; cases h
theorem TabG.upd {P : Addr} {o : HO} (t : TabG H P) (h : p ≠ P) : TabG (upd H p o) P := by
  obtain ⟨ps, e, q⟩ := t
  exact ⟨ps, by rw [upd_ne (Ne.symm h)]; exact e, q⟩
theorem Sm.upd {o : HO} (h : F p = none) : Sm F (upd F p o) := fun q u e => by
  rw [upd_ne (ne_of_none e h)]; exact e
/-- a new object -/
theorem Wf.laid (w : Wf tb B F H) (h : H p = .none) (o : HO) : Wf tb B F (upd H p o) := by
  refine ⟨w.fz.trans (Sm.upd h), fun q u e => ?_, fun P hP => ?_⟩
  · obtain ⟨a, b⟩ := w.bg q u e
    exact ⟨Sm.upd h q u a, b⟩
  · obtain ⟨⟨ps, e, t⟩, b, c⟩ := w.tabs P hP
    exact ⟨⟨ps, Sm.upd h P _ e, t⟩, b, c⟩
/-- a free list is written -/
theorem Wf.write (w : Wf tb B F H) {vs ws : List V} (h : H p = some (.lst vs)) (hf : F p = .none) (hb : B p = .none) : Wf tb B F (upd H p (.lst ws)) := by
  refine ⟨fun q u e => ?_, fun q u e => ?_, fun P hP => ?_⟩
  · rw [upd_ne (ne_of_none e hf)]; exact w.fz q u e
  · rw [upd_ne (ne_of_none e hb)]; exact w.bg q u e
  · obtain ⟨⟨ps, e, t⟩, b, c⟩ := w.tabs P hP
    refine ⟨⟨ps, ?_, t⟩, b, c⟩
    rw [upd_ne (ne_of e h (fun z => by cases z))]; exact e
/-- a free object is laid still -/
theorem Wf.freeze (w : Wf tb B F H) {o : HO} (h : H p = some o) (ho : ∀ ps, o ≠ .tbl ps) (hb : B p = .none) : Wf tb B (upd F p o) H := by
  refine ⟨fun q u e => ?_, fun q u e => ?_, fun P hP => ?_⟩
  · by_cases z : q = p
    · subst z; rw [upd_same] at e; cases e; exact h
    · rw [upd_ne z] at e; exact w.fz q u e
  · obtain ⟨a, b⟩ := w.bg q u e
    exact ⟨a, by rw [upd_ne (ne_of_none e hb)]; exact b⟩
  · obtain ⟨⟨ps, e, t⟩, b, c⟩ := w.tabs P hP
    refine ⟨⟨ps, e, t⟩, ?_, c⟩
    rw [upd_ne (ne_of e h (fun z => ho ps z.symm))]; exact b

theorem SlOk.same {s : Sl} (h : SlOk K pa B F σ H i s) (hF : Sm F F') (ho : ∀ p, s.own = true → σ[i]? = some (some (.ref p)) → (∀ u, H p = some u → H' p = some u) ∧ (F p = none → F' p = none)) : SlOk K pa B F' σ H' i s := by
  cases s with
  | u => trivial
  | v d => obtain ⟨x, a, b⟩ := h; exact ⟨x, a, Rp.mono hF b⟩
  | o mt ds =>
    obtain ⟨p, vs, a, m, b, c, e, f⟩ := h
    obtain ⟨h1, h2⟩ := ho p rfl a
    exact ⟨p, vs, a, m, h1 _ b, h2 c, e, RpAll.mono hF f⟩
theorem Rel.laid (r : Rel K tb pa B F σ H ρ) (h : H p = none) (o : HO) : Rel K tb pa B F σ (upd H p o) ρ :=
  ⟨r.wf.laid h o, r.len, fun i s e => (r.sl i s e).same (Sm.refl _) fun q _ _ => ⟨fun u z => Sm.upd h q u z, fun z => z⟩, r.ne⟩
/-- an own slot's address is apart from p -/
def Off (σ : St) (ρ : En) (p : Addr) : Prop := ∀ (j : Nat) (s : Sl), ρ[j]? = some s → s.own = true → σ[j]? ≠ some (some (.ref p))
theorem Rel.off_none (r : Rel K tb pa B F σ H ρ) (h : H p = none) : Off σ ρ p := fun j s e ho z => by
  have q := r.sl j s e
  cases s with
  | o mt ds =>
    obtain ⟨p', vs, a, _, b, _⟩ := q
    rw [a] at z; cases z; rw [h] at b; cases b
  | u => cases ho
  | v d => cases ho
theorem Rel.freeze (r : Rel K tb pa B F σ H ρ) {o : HO} (h : H p = some o) (ho : ∀ ps, o ≠ .tbl ps) (hf : F p = none) (hb : B p = none) (off : Off σ ρ p) : Rel K tb pa B (upd F p o) σ H ρ :=
  ⟨r.wf.freeze h ho hb, r.len, fun i s e => (r.sl i s e).same (Sm.upd hf) fun q w z => ⟨fun u z => z, fun y => by
    rw [upd_ne]; exact y
    rintro rfl; exact off i s e w z⟩, r.ne⟩
/-- more behind -/
theorem Rel.less {B' : Hp} (r : Rel K tb pa B' F σ H ρ) (h : Sm B B') : Rel K tb pa B F σ H ρ := by
  have nB : ∀ p, B' p = none → B p = none := fun p e => by
    cases q : B p with
    | none => rfl
    | some o => rw [h _ _ q] at e; cases e
  refine ⟨⟨r.wf.fz, fun p o e => r.wf.bg p o (h p o e), fun P hP => ?_⟩, r.len, fun i s e => ?_, r.ne⟩
  · obtain ⟨a, b, c⟩ := r.wf.tabs P hP
    exact ⟨a, b, nB _ c⟩
  · have q := r.sl i s e
    cases s with
    | u => trivial
    | v d => exact q
    | o mt ds =>
      obtain ⟨p, vs, a, m, b, c, e, f⟩ := q
      exact ⟨p, vs, a, m, b, c, nB _ e, f⟩
theorem Rel.more (r : Rel K tb pa B F σ H ρ) {o : HO} (h : H p = some o) (ho : ∀ ps, o ≠ .tbl ps) (hf : F p = none) (off : Off σ ρ p) : Rel K tb pa (upd B p o) F σ H ρ := by
  refine ⟨⟨r.wf.fz, fun q u e => ?_, fun P hP => ?_⟩, r.len, fun i s e => ?_, r.ne⟩
  · by_cases z : q = p
    · subst z; rw [upd_same] at e; cases e; exact ⟨h, hf⟩
    · rw [upd_ne z] at e; exact r.wf.bg q u e
  · obtain ⟨⟨ps, e, t⟩, b, c⟩ := r.wf.tabs P hP
    refine ⟨⟨ps, e, t⟩, b, ?_⟩
    rw [upd_ne (ne_of e h (fun z => ho ps z.symm))]; exact c
  · have q := r.sl i s e
    cases s with
    | u => trivial
    | v d => exact q
    | o mt ds =>
      obtain ⟨p', vs, a, m, b, c, e', f⟩ := q
      refine ⟨p', vs, a, m, b, c, ?_, f⟩
      rw [upd_ne]; exact e'
      rintro rfl; exact off i _ e rfl a
/-- a value is held while others are reckoned -/
theorem OpR.hold (r : Rel K tb pa B F σ H ρ) (h : OpR K B F H σ ρ x op) : ∃ B', Rel K tb pa B' F σ H ρ ∧ ∀ F' H' ρ', Sm F F' → Rel K tb pa B' F' σ H' ρ' → Rel K tb pa B F' σ H' ρ' ∧ OpR K B F' H' σ ρ' x op := by
  cases op with
  | val d => exact ⟨B, r, fun F' H' ρ' s r' => ⟨r', Rp.mono s h⟩⟩
  | slot i => exact ⟨B, r, fun F' H' ρ' s r' => ⟨r', h⟩⟩
  | new ds =>
    obtain ⟨p, vs, rfl, hp, hf, hb, off, dp⟩ := h
    refine ⟨upd B p (.lst vs), r.more hp (fun ps z => by cases z) hf off, fun F' H' ρ' s r' => ?_⟩
    obtain ⟨a, b⟩ := r'.wf.bg p _ upd_same
    refine ⟨r'.less (Sm.upd hb), p, vs, rfl, a, b, hb, fun j t e ho z => ?_, RpAll.mono s dp⟩
    have q := r'.sl j t e
    cases t with
    | u => cases ho
    | v d => cases ho
    | o mt ds =>
      obtain ⟨p', vs', a', m, b', c', e', f'⟩ := q
      rw [a'] at z; cases z
      rw [upd_same] at e'; cases e'

/-! ### what a value is, read now; kept -/
def viewOp (ρ : En) : Op → Option D
  | .val d => some d
  | .new ds => some (.list ds)
  | .slot i => match ρ[i]? with
    | some (.v d) => some d
    | some (.o _ ds) => some (.list ds)
    | _ => none
def keepOp (ρ : En) : Op → Option (D × En)
  | .val d => some (d, ρ)
  | .new ds => some (.list ds, ρ)
  | .slot i => match ρ[i]? with
    | some (.v d) => some (d, ρ)
    | some (.o false ds) => some (.list ds, ρ.set i (.v (.list ds)))
    | _ => none
theorem view_ok (r : Rel K tb pa B F σ H ρ) (h : OpR K B F H σ ρ x op) (e : viewOp ρ op = some d) : Rp K H x d := by
  cases op with
  | val d' => cases e; exact Rp.mono r.wf.fz h
  | new ds =>
    cases e
    obtain ⟨p, vs, rfl, hp, hf, hb, off, dp⟩ := h
    exact .lst (.inl hp) (RpAll.mono r.wf.fz dp)
  | slot i =>
    simp only [viewOp] at e
    have h : σ[i]? = some (some x) := h
    split at e
    · rename_i d' hd
      cases e
      obtain ⟨y, a, b⟩ := r.sl i _ hd
      rw [h] at a; cases a
      exact Rp.mono r.wf.fz b
    · rename_i mt ds hd
      cases e
      obtain ⟨p, vs, a, m, b, c, e', f⟩ := r.sl i _ hd
      rw [h] at a; cases a
      exact .lst (.inl b) (RpAll.mono r.wf.fz f)
    · cases e
theorem set_get_cases {ρ : En} {i j : Nat} {s t : Sl} (h : (ρ.set i s)[j]? = some t) : (j = i ∧ t = s) ∨ (j ≠ i ∧ ρ[j]? = some t) := by
  by_cases e : j = i
  · subst e
    by_cases hl : j < ρ.length
    · rw [List.getElem?_set_self hl] at h; cases h; exact .inl ⟨rfl, rfl⟩
    · rw [List.getElem?_eq_none (by rw [List.length_set]; omega)] at h; cases h
  · rw [List.getElem?_set_ne (Ne.symm e)] at h; exact .inr ⟨e, h⟩
theorem keep_ok (r : Rel K tb pa B F σ H ρ) (h : OpR K B F H σ ρ x op) (e : keepOp ρ op = some (d, ρ')) : ∃ F', Sm F F' ∧ Rel K tb pa B F' σ H ρ' ∧ Rp K F' x d := by
  cases op with
  | val d' => cases e; exact ⟨F, Sm.refl _, r, h⟩
  | new ds =>
    cases e
    obtain ⟨p, vs, rfl, hp, hf, hb, off, dp⟩ := h
    exact ⟨upd F p (.lst vs), Sm.upd hf, r.freeze hp (fun ps z => by cases z) hf hb off, .lst (.inl upd_same) (RpAll.mono (Sm.upd hf) dp)⟩
  | slot i =>
    simp only [keepOp] at e
    have h : σ[i]? = some (some x) := h
    split at e
    · rename_i d' hd
      cases e
      obtain ⟨y, a, b⟩ := r.sl i _ hd
      rw [h] at a; cases a
      exact ⟨F, Sm.refl _, r, b⟩
    · rename_i ds hd
      cases e
      obtain ⟨p, vs, a, m, b, c, e', f⟩ := r.sl i _ hd
      rw [h] at a; cases a
      have dq : Rp K (upd F p (.lst vs)) (.ref p) (.list ds) := .lst (.inl upd_same) (RpAll.mono (Sm.upd c) f)
      refine ⟨upd F p (.lst vs), Sm.upd c, ⟨r.wf.freeze b (fun ps z => by cases z) e', by rw [List.length_set]; exact r.len, fun j t ht => ?_, fun j k s t hjk hs ht os ot => ?_⟩, dq⟩
      · rcases set_get_cases ht with ⟨rfl, rfl⟩ | ⟨hj, ht⟩
        · exact ⟨_, h, dq⟩
        · refine (r.sl j t ht).same (Sm.upd c) fun q w z => ⟨fun u z => z, fun y => ?_⟩
          rw [upd_ne]; exact y
          rintro rfl
          exact r.ne j i t _ hj ht hd w rfl (z.trans h.symm)
      · rcases set_get_cases hs with ⟨rfl, rfl⟩ | ⟨hj, hs⟩
        · cases os
        · rcases set_get_cases ht with ⟨rfl, rfl⟩ | ⟨hk, ht⟩
          · cases ot
          · exact r.ne j k s t hjk hs ht os ot
    · cases e

/-! ### stores -/
theorem Rel.store (r : Rel K tb pa B F σ H ρ) (h : Rp K F x d) (hi : i < ρ.length) : Rel K tb pa B F (σ.set i (some x)) H (ρ.set i (.v d)) := by
  have hσ : i < σ.length := by rw [r.len]; exact hi
  refine ⟨r.wf, by rw [List.length_set, List.length_set]; exact r.len, fun j t ht => ?_, fun j k s t hjk hs ht os ot => ?_⟩
  · rcases set_get_cases ht with ⟨rfl, rfl⟩ | ⟨hj, ht⟩
    · exact ⟨x, by rw [List.getElem?_set_self hσ], h⟩
    · have q := r.sl j t ht
      cases t with
      | u => trivial
      | v d' => obtain ⟨y, a, b⟩ := q; exact ⟨y, by rw [List.getElem?_set_ne (Ne.symm hj)]; exact a, b⟩
      | o mt ds => obtain ⟨p, vs, a, b⟩ := q; exact ⟨p, vs, by rw [List.getElem?_set_ne (Ne.symm hj)]; exact a, b⟩
  · rcases set_get_cases hs with ⟨rfl, rfl⟩ | ⟨hj, hs⟩
    · cases os
    · rcases set_get_cases ht with ⟨rfl, rfl⟩ | ⟨hk, ht⟩
      · cases ot
      · rw [List.getElem?_set_ne (Ne.symm hj), List.getElem?_set_ne (Ne.symm hk)]
        exact r.ne j k s t hjk hs ht os ot
theorem Rel.storeNew (r : Rel K tb pa B F σ H ρ) {vs : List V} (hp : H p = some (.lst vs)) (hf : F p = none) (hb : B p = none) (off : Off σ ρ p) (dp : RpAll K F vs ds) (hi : i < ρ.length) :
    Rel K tb pa B F (σ.set i (some (.ref p))) H (ρ.set i (.o false ds)) := by
  have hσ : i < σ.length := by rw [r.len]; exact hi
  refine ⟨r.wf, by rw [List.length_set, List.length_set]; exact r.len, fun j t ht => ?_, fun j k s t hjk hs ht os ot => ?_⟩
  · rcases set_get_cases ht with ⟨rfl, rfl⟩ | ⟨hj, ht⟩
    · exact ⟨p, vs, by rw [List.getElem?_set_self hσ], fun z => (by cases z), hp, hf, hb, dp⟩
    · have q := r.sl j t ht
      cases t with
      | u => trivial
      | v d' => obtain ⟨y, a, b⟩ := q; exact ⟨y, by rw [List.getElem?_set_ne (Ne.symm hj)]; exact a, b⟩
      | o mt ds => obtain ⟨p, vs, a, b⟩ := q; exact ⟨p, vs, by rw [List.getElem?_set_ne (Ne.symm hj)]; exact a, b⟩
  · rcases set_get_cases hs with ⟨e1, e2⟩ | ⟨hj, hs'⟩
    · rcases set_get_cases ht with ⟨e3, e4⟩ | ⟨hk, ht'⟩
      · exact absurd (e1.trans e3.symm) hjk
      · rw [e1, List.getElem?_set_self hσ, List.getElem?_set_ne (Ne.symm hk)]
        exact Ne.symm (off k t ht' ot)
    · rcases set_get_cases ht with ⟨e3, e4⟩ | ⟨hk, ht'⟩
      · rw [e3, List.getElem?_set_self hσ, List.getElem?_set_ne (Ne.symm hj)]
        exact off j s hs' os
      · rw [List.getElem?_set_ne (Ne.symm hj), List.getElem?_set_ne (Ne.symm hk)]
        exact r.ne j k s t hjk hs' ht' os ot
/-- an own list is written -/
theorem Rel.write (r : Rel K tb pa B F σ H ρ) {mt : Bool} {vs ws : List V} {es : List D} (hi : ρ[i]? = some (.o mt ds)) (hσ : σ[i]? = some (some (.ref p))) (hp : H p = some (.lst vs)) (dp : RpAll K F ws es) :
    Rel K tb pa B F σ (upd H p (.lst ws)) (ρ.set i (.o mt es)) := by
  obtain ⟨p', vs', a, m, b, c, e', f⟩ := r.sl i _ hi
  rw [hσ] at a; cases a
  refine ⟨r.wf.write hp c e', by rw [List.length_set]; exact r.len, fun j t ht => ?_, fun j k s t hjk hs ht os ot => ?_⟩
  · rcases set_get_cases ht with ⟨rfl, rfl⟩ | ⟨hj, ht⟩
    · exact ⟨p, ws, hσ, m, upd_same, c, e', dp⟩
    · refine (r.sl j t ht).same (Sm.refl _) fun q w z => ⟨fun u y => ?_, fun y => y⟩
      rw [upd_ne]; exact y
      rintro rfl
      exact r.ne j i t _ hj ht hi w rfl (z.trans hσ.symm)
  · have own : ∀ (j : Nat) (s : Sl), (ρ.set i (.o mt es))[j]? = some s → s.own = true → ∃ s', ρ[j]? = some s' ∧ s'.own = true := fun j s hs os => by
      rcases set_get_cases hs with ⟨rfl, rfl⟩ | ⟨hj, hs⟩
      · exact ⟨_, hi, rfl⟩
      · exact ⟨s, hs, os⟩
    obtain ⟨s', h1, h2⟩ := own j s hs os
    obtain ⟨t', h3, h4⟩ := own k t ht ot
    exact r.ne j k s' t' hjk h1 h3 h2 h4
/-- a slot is forgotten -/
theorem Rel.forget (r : Rel K tb pa B F σ H ρ) (i : Nat) : Rel K tb pa B F σ H (ρ.set i .u) := by
  refine ⟨r.wf, by rw [List.length_set]; exact r.len, fun j t ht => ?_, fun j k s t hjk hs ht os ot => ?_⟩
  · rcases set_get_cases ht with ⟨rfl, rfl⟩ | ⟨hj, ht⟩
    · trivial
    · exact r.sl j t ht
  · rcases set_get_cases hs with ⟨rfl, rfl⟩ | ⟨hj, hs⟩
    · cases os
    · rcases set_get_cases ht with ⟨rfl, rfl⟩ | ⟨hk, ht⟩
      · cases ot
      · exact r.ne j k s t hjk hs ht os ot
end
end Ev

set_option maxHeartbeats 1000000
namespace Ev
open PySem PySem.Spec PyProof.Rows L2

/-! ### the small language -/
mutual
inductive IE where
  | var (i : Nat)
  | cst (c : Const)
  | glb (x : Str)
  | bin (op : Operator) (a b : IE)
  | neg (a : IE)
  | not (a : IE)
  | cmp (op : CmpOp) (a b : IE)
  | cmp2 (op op2 : CmpOp) (a b c : IE)
  | and (a b : IE)
  | or (a b : IE)
  | one (a : IE)
  | ite (c a b : IE)
  | tup (es : IEs)
  | lst (es : IEs)
  | idx (a i : IE)
  | slc (a : IE) (lo hi : IC)
  /-- displays with stars: which ones are starred -/
  | tupS (fl : List Bool) (es : IEs)
  | lstS (fl : List Bool) (es : IEs)
  /-- a[lo:hi:-1] -/
  | slb (a : IE) (lo hi : IC)
  | cal (f : Str) (es : IEs)
  | calk (f : Str) (n : Nat) (es : IEs) (ks : List Str)
  | bi (f : String) (es : IEs)
  | isi (a : IE) (T : String)
  | lc (e : IE) (t : Tg) (own : List (Str × Nat)) (it : IT) (c : IC)
  /-- [e for nm in the list of a slot that goes on being changed] -/
  | lcO (e : IE) (j : Nat) (nm : Str) (i : Nat)
  | gn (f : String) (e : IE) (t : Tg) (own : List (Str × Nat)) (it : IT) (c : IC)
inductive IEs where
  | nil
  | cons (e : IE) (es : IEs)
inductive IC where
  | no
  | so (e : IE)
inductive IT where
  | ex (e : IE)
  | r1 (a : IE)
  | r2 (a b : IE)
  | r3 (es : IEs)
  | en (a : IE)
  | zp (a b : IE)
  | zp3 (es : IEs)
  | zps (e : IE)
inductive Tg where
  | nm (i : Nat)
  | sub (i : Nat) (ix : IE)
  | tup (ts : Tgs)
inductive Tgs where
  | nil
  | cons (t : Tg) (ts : Tgs)
end
mutual
inductive IS where
  | asg (t : Tg) (e : IE)
  | asgs (is : List Nat) (es : IEs)
  | aug (i : Nat) (op : Operator) (e : IE)
  | augS (i : Nat) (ix : IE) (op : Operator) (e : IE)
  | app (i : Nat) (e : IE)
  | ifs (c : IE) (a b : ISs)
  | whl (c : IE) (b : ISs)
  | fors (t : Tg) (it : IT) (b : ISs)
  | exp (e : IE)
  | ret (e : IE)
  | retM (e : IE)
  | retN
  | brk
  | cnt
  | pas
  | nev
inductive ISs where
  | nil
  | cons (s : IS) (ss : ISs)
end

/-! ### operations on data -/
def ofC : Const → Option D
  | .none => some .none
  | .bool b => some (.bool b)
  | .int i => some (.int i)
  | .str x => some (.str x)
  | _ => none
def mulOk (i j : Int) : Bool := decide (-(2 ^ 64) < i ∧ i < 2 ^ 64) || (decide (-(2 ^ 64) < j ∧ j < 2 ^ 64) || decide (i.natAbs.log2 + j.natAbs.log2 < 1000000))
def powOk (i j : Int) : Bool := decide (0 ≤ j ∧ j ≤ 1000000 ∧ i.natAbs < 2 ^ 64)
def shlOk (i j : Int) : Bool := powOk i j
def divOk (j : Int) : Bool := decide (0 < j ∧ j.natAbs.log2 < 9000)
def binI : Operator → Int → Int → Option Int
  | .Add, i, j => some (i + j)
  | .Sub, i, j => some (i - j)
  | .Mult, i, j => if mulOk i j then some (i * j) else none
  | .FloorDiv, i, j => if divOk j then some (i / j) else none
  | .Mod, i, j => if decide (0 < j) then some (i % j) else none
  | .Pow, i, j => if powOk i j then some (i ^ j.toNat) else none
  | .LShift, i, j => if powOk i j then some (i * 2 ^ j.toNat) else none
  | .RShift, i, j => if decide (0 ≤ j) then some (i / 2 ^ j.toNat) else none
  | _, _, _ => none
def lenOk (n : Nat) : Bool := decide (n ≤ sizeLine)
def binD (op : Operator) : D → D → Option Op
  | .int i, .int j => (binI op i j).map fun k => .val (.int k)
  | .list xs, .list ys => match op with
    | .Add => if lenOk (xs.length + ys.length) then some (.new (xs ++ ys)) else none
    | _ => none
  | .list xs, .int k => match op with
    | .Mult => if decide (-(2 ^ 63) ≤ k ∧ k < 2 ^ 63) && lenOk (xs.length * k.toNat) then some (.new (List.replicate k.toNat xs).flatten) else none
    | _ => none
  | .tuple xs, .tuple ys => match op with
    | .Add => if lenOk (xs.length + ys.length) then some (.val (.tuple (xs ++ ys))) else none
    | _ => none
  | _, _ => none
def cmpI : CmpOp → Int → Int → Option Bool
  | .Lt, i, j => some (decide (i < j))
  | .LtE, i, j => some (decide (i ≤ j))
  | .Gt, i, j => some (decide (j < i))
  | .GtE, i, j => some (decide (j ≤ i))
  | _, _, _ => none
def isNone : D → Bool
  | .none => true
  | _ => false
def inOk (d : D) (ds : List D) : Bool := SeqAt.shaped d && SeqAt.shaped (.list ds)
/-- a whole number among whole numbers -/
def inI (i : Int) : List D → Option Bool
  | [] => some false
  | .int j :: r => (inI i r).map fun b => (j == i) || b
  | _ => none
def cmpD (op : CmpOp) (a b : D) : Option Bool :=
  match op with
  | .Eq => if SeqAt.shaped a && SeqAt.shaped b then some (PyData.eqv a b) else none
  | .NotEq => if SeqAt.shaped a && SeqAt.shaped b then some (!PyData.eqv a b) else none
  | .Is => match a, b with
    | a, .none => some (isNone a)
    | .bool x, .bool y => some (decide (x = y))
    | _, _ => none
  | .IsNot => match a, b with
    | a, .none => some (!isNone a)
    | .bool x, .bool y => some (!decide (x = y))
    | _, _ => none
  | .In => match b with
    | .list ds => if inOk a ds then some (ds.any fun z => PyData.eqv z a) else none
    | .tuple ds => match a with
      | .int i => inI i ds
      | _ => none
    | _ => none
  | .NotIn => match b with
    | .list ds => if inOk a ds then some (!ds.any fun z => PyData.eqv z a) else none
    | .tuple ds => match a with
      | .int i => (inI i ds).map (!·)
      | _ => none
    | _ => none
  | op => match a, b with
    | .int i, .int j => cmpI op i j
    | _, _ => none
def trD : D → Option Bool
  | .none => some false
  | .bool b => some b
  | .int i => some (i != 0)
  | .list xs => some (!xs.isEmpty)
  | .tuple xs => some (!xs.isEmpty)
  | _ => none
def idxD : D → D → Option D
  | .list ds, .int i => atI ds i
  | .tuple ds, .int i => atI ds i
  | _, _ => none
def cutD (xs : List D) (lo hi : Option Int) : List D :=
  (xs.drop (HT.sIx xs.length 0 lo)).take (HT.sIx xs.length xs.length hi - HT.sIx xs.length 0 lo)
def slcD : D → Option Int → Option Int → Option Op
  | .list ds, lo, hi => some (.new (cutD ds lo hi))
  | .tuple ds, lo, hi => some (.val (.tuple (cutD ds lo hi)))
  | _, _, _ => none
/-- the places that xs[lo:hi:-1] means -/
def revIx (n : Nat) (lo hi : Option Int) : List Nat := sliceRange (sliceBounds lo hi (some (-1)) n).1 (sliceBounds lo hi (some (-1)) n).2.1 (sliceBounds lo hi (some (-1)) n).2.2
def revL {α : Type} (xs : List α) (lo hi : Option Int) : List α := (revIx xs.length lo hi).filterMap (xs[·]?)
def slbD : D → Option Int → Option Int → Option Op
  | .list ds, lo, hi => some (.new (revL ds lo hi))
  | .tuple ds, lo, hi => some (.val (.tuple (revL ds lo hi)))
  | _, _, _ => none
def itemsD : D → Option (List D)
  | .list ds => some ds
  | .tuple ds => some ds
  | _ => none
def intsD : List D → Option (List Int)
  | [] => some []
  | .int i :: r => (intsD r).map (i :: ·)
  | _ => none
def boolsD : List D → Option (List Bool)
  | [] => some []
  | .bool i :: r => (boolsD r).map (i :: ·)
  | _ => none
def reprOk (d : D) : Bool := d.showable && !d.hasDict && decide (d.depth ≤ 20) && decide (d.shown.length + 64 ≤ sizeLine)
def sortI (ns : List Int) : List Int := ns.mergeSort fun a b => decide (a ≤ b)
def biD (f : String) (ds : List D) : Option Op :=
  match f, ds with
  | "len", [.list xs] => some (.val (.int xs.length))
  | "len", [.tuple xs] => some (.val (.int xs.length))
  | "abs", [.int i] => some (.val (.int (if i < 0 then -i else i)))
  | "int", [.int i] => some (.val (.int i))
  | "int", [.bool b] => some (.val (.int (if b then 1 else 0)))
  | "max", [.int i, .int j] => some (.val (.int (if j > i then j else i)))
  | "min", [.int i, .int j] => some (.val (.int (if j < i then j else i)))
  | "divmod", [.int i, .int j] => if decide (0 < j ∧ j < 1073741824) then some (.val (.tuple [.int (i / j), .int (i % j)])) else none
  | "tuple", [.list xs] => some (.val (.tuple xs))
  | "tuple", [.tuple xs] => some (.val (.tuple xs))
  | "list", [.list xs] => some (.new xs)
  | "list", [.tuple xs] => some (.new xs)
  | "sum", [.list xs] => (intsD xs).map fun ns => .val (.int ns.sum)
  | "sum", [.tuple xs] => (intsD xs).map fun ns => .val (.int ns.sum)
  | "sorted", [.list xs] => (intsD xs).map fun ns => .new ((sortI ns).map .int)
  | "sorted", [.tuple xs] => (intsD xs).map fun ns => .new ((sortI ns).map .int)
  | "all", [.list xs] => (boolsD xs).map fun bs => .val (.bool (bs.all id))
  | "any", [.list xs] => (boolsD xs).map fun bs => .val (.bool (bs.any id))
  | "any", [.tuple xs] => (intsD xs).map fun ns => .val (.bool (ns.any (· != 0)))
  | "min", [.list xs] => (intsD xs).bind fun ns => ns.min?.map fun m => .val (.int m)
  | "max", [.list xs] => (intsD xs).bind fun ns => ns.max?.map fun m => .val (.int m)
  | "repr", [d] => if reprOk d then some (.val (.str d.shown)) else none
  | _, _ => none
def tyD : D → String
  | .none => "NoneType"
  | .bool _ => "bool"
  | .int _ => "int"
  | .str _ => "str"
  | .list _ => "list"
  | .tuple _ => "tuple"
  | .dict _ => "dict"

/-! ### what the defs do -/
inductive FS where
  /-- of data -/
  | p (n : Nat) (f : List D → Option D)
  /-- of a list that it changes, and of data -/
  | w (n : Nat) (f : List D → List D → Option (D × List D))
  /-- of data, and makes a new list -/
  | m (n : Nat) (f : List D → Option (List D))
abbrev FT := Str → Option FS
/-- a def called with keywords: which places its parameters take -/
abbrev KT := Str → List Str → Option (List Nat)
structure Tb where
  fs : FT
  ks : Str → Nat → List Str → Option (List Nat)
  gl : Str → Option D

def permL {α : Type} (pm : List Nat) (xs : List α) : List α := pm.filterMap fun i => xs[i]?
def setE (ρ : En) (i : Nat) (s : Sl) : Option En := if decide (i < ρ.length) then some (ρ.set i s) else none
/-- the values as they are now -/
def viewL (ρ : En) : List Op → Option (List D)
  | [] => some []
  | o :: r => (viewOp ρ o).bind fun d => (viewL ρ r).map (d :: ·)
def keepL (ρ : En) : List Op → Option (List D × En)
  | [] => some ([], ρ)
  | o :: r => (keepL ρ r).bind fun q => (keepOp q.2 o).map fun p => (p.1 :: q.1, p.2)
def callP (f : List D → Option D) (ops : List Op) (ρ : En) : Option (Op × En) :=
  (viewL ρ ops).bind fun ds => (f ds).bind fun r =>
    if flat r then some (.val r, ρ) else (keepL ρ ops).map fun p => (.val r, p.2)
def callW (f : List D → List D → Option (D × List D)) (ops : List Op) (ρ : En) : Option (Op × En) :=
  match ops with
  | .slot i :: r => match ρ[i]? with
    | some (.o mt ds) => (keepL ρ r).bind fun p => match p.2[i]? with
      | some (.o mt2 es) => if mt == mt2 then (f es p.1).map fun q => (.val q.1, p.2.set i (.o mt q.2)) else none
      | _ => none
    | _ => none
  | .new ds0 :: r => (keepL ρ r).bind fun p => (f ds0 p.1).map fun q => (.val q.1, p.2)
  | _ => none
def callM (f : List D → Option (List D)) (ops : List Op) (ρ : En) : Option (Op × En) :=
  (keepL ρ ops).bind fun p => (f p.1).map fun r => (.new r, p.2)
def callF (fs : FS) (ops : List Op) (ρ : En) : Option (Op × En) :=
  match fs with
  | .p n f => if ops.length == n then callP f ops ρ else none
  | .w n f => if ops.length == n then callW f ops ρ else none
  | .m n f => if ops.length == n then callM f ops ρ else none

/-! ### loops -/
def rngD (lo : Int) (n : Nat) : List D := (List.range n).map fun i => .int (lo + (i : Nat))
def rngC (lo c : Int) (n : Nat) : List D := (List.range n).map fun i => .int (lo + (i : Nat) * c)
def enumD (ds : List D) : List D := (List.range ds.length).zipWith (fun i d => .tuple [.int (i : Nat), d]) ds
def zipD3 (xs ys zs : List D) : List D := xs.zipWith (fun a p => .tuple [a, p.1, p.2]) (ys.zip zs)
def zipD (xs ys : List D) : List D := xs.zipWith (fun a b => .tuple [a, b]) ys
def rngOk (i : Int) : Bool := decide (-(2 ^ 62) ≤ i ∧ i < 2 ^ 62)

def evComp (f : D → En → Option (Option D × En)) : List D → List D → En → Option (List D × En)
  | [], acc, ρ => some (acc, ρ)
  | x :: xs, acc, ρ => match f x ρ with
    | some (some d, ρ') => evComp f xs (acc ++ [d]) ρ'
    | some (none, ρ') => evComp f xs acc ρ'
    | none => none
/-- a generator's items, up to the one at which its consumer stops -/
def evGen (st : D → Bool) (f : D → En → Option (Option D × En)) : List D → List D → En → Option (List D × En)
  | [], acc, ρ => some (acc, ρ)
  | x :: xs, acc, ρ => match f x ρ with
    | some (some d, ρ') => if st d then some (acc ++ [d], ρ') else evGen st f xs (acc ++ [d]) ρ'
    | some (none, ρ') => evGen st f xs acc ρ'
    | none => none
def gnSt : String → D → Bool
  | "all", .bool b => !b
  | "any", .bool b => b
  | _, _ => false
def gnD (f : String) (out : List D) : Option D :=
  match f with
  | "all" => (boolsD out).map fun bs => .bool (bs.all id)
  | "any" => (boolsD out).map fun bs => .bool (bs.any id)
  | "sum" => (intsD out).map fun ns => .int ns.sum
  | "tuple" => if lenOk out.length then some (.tuple out) else none
  | _ => none
def wipeE (ρ : En) : List Nat → En
  | [] => ρ
  | v :: vs => (wipeE ρ vs).set v .u
/-- behind a block: its own slots are as they were -/
def backE (ρ ρ' : En) : List Nat → En
  | [] => ρ'
  | v :: vs => (backE ρ ρ' vs).set v (match ρ[v]? with | some (.v d) => .v d | _ => .u)

/-- a value is stored -/
def stOp (ρ : En) (i : Nat) : Op → Option En
  | .val d => setE ρ i (.v d)
  | .new ds => setE ρ i (.o false ds)
  | .slot j => (keepOp ρ (.slot j)).bind fun p => setE p.2 i (.v p.1)
/-- slots become values -/
def settle1 (ρ : En) : Op → Option (Op × En)
  | .slot j => (keepOp ρ (.slot j)).map fun p => (.val p.1, p.2)
  | o => some (o, ρ)
def settle (ρ : En) : List Op → Option (List Op × En)
  | [] => some ([], ρ)
  | o :: r => (settle ρ r).bind fun q => (settle1 q.2 o).map fun p => (p.1 :: q.1, p.2)

mutual
def evE (T : Tb) (ρ : En) : IE → Option (Op × En)
  | .var i => match ρ[i]? with
    | some .u => none
    | some _ => some (.slot i, ρ)
    | none => none
  | .cst c => (ofC c).map fun d => (.val d, ρ)
  | .glb x => (T.gl x).map fun d => (.val d, ρ)
  | .bin op a b => (evE T ρ a).bind fun p => (evE T p.2 b).bind fun q =>
    (viewOp q.2 p.1).bind fun x => (viewOp q.2 q.1).bind fun y => (binD op x y).map fun r => (r, q.2)
  | .neg a => (evE T ρ a).bind fun p => match viewOp p.2 p.1 with
    | some (.int i) => some (.val (.int (-i)), p.2)
    | _ => none
  | .not a => (evE T ρ a).bind fun p => match viewOp p.2 p.1 with
    | some (.bool b) => some (.val (.bool (!b)), p.2)
    | _ => none
  | .cmp op a b => (evE T ρ a).bind fun p => (evE T p.2 b).bind fun q =>
    (viewOp q.2 p.1).bind fun x => (viewOp q.2 q.1).bind fun y => (cmpD op x y).map fun r => (.val (.bool r), q.2)
  | .cmp2 op op2 a b c => (evE T ρ a).bind fun p => (evE T p.2 b).bind fun q =>
    (viewOp q.2 p.1).bind fun x => (viewOp q.2 q.1).bind fun y => (cmpD op x y).bind fun r =>
      if r then (evE T q.2 c).bind fun s => (viewOp s.2 q.1).bind fun y' => (viewOp s.2 s.1).bind fun z => (cmpD op2 y' z).map fun r2 => (.val (.bool r2), s.2)
      else some (.val (.bool false), q.2)
  | .and a b => (evE T ρ a).bind fun p => match viewOp p.2 p.1 with
    | some (.bool true) => evE T p.2 b
    | some (.bool false) => some (.val (.bool false), p.2)
    | _ => none
  | .or a b => (evE T ρ a).bind fun p => match viewOp p.2 p.1 with
    | some (.bool true) => some (.val (.bool true), p.2)
    | some (.bool false) => evE T p.2 b
    | _ => none
  | .one a => evE T ρ a
  | .ite c a b => match evT T ρ c with
    | some (true, ρ1) => evE T ρ1 a
    | some (false, ρ1) => evE T ρ1 b
    | none => none
  | .tup es => (evEs T ρ es).bind fun p => (keepL p.2 p.1).bind fun q => if lenOk q.1.length then some (.val (.tuple q.1), q.2) else none
  | .lst es => (evEs T ρ es).bind fun p => (keepL p.2 p.1).bind fun q => if lenOk q.1.length then some (.new q.1, q.2) else none
  | .idx a i => (evE T ρ a).bind fun p => (evE T p.2 i).bind fun q =>
    (viewOp q.2 p.1).bind fun x => (viewOp q.2 q.1).bind fun y => (idxD x y).map fun r => (.val r, q.2)
  | .slc a lo hi => (evE T ρ a).bind fun p => (evC T p.2 lo).bind fun q => (evC T q.2 hi).bind fun r =>
    (viewOp r.2 p.1).bind fun x => (slcD x q.1 r.1).map fun z => (z, r.2)
  | .tupS fl es => (evSt T ρ fl es).bind fun q => if lenOk q.1.length then some (.val (.tuple q.1), q.2) else none
  | .lstS fl es => (evSt T ρ fl es).bind fun q => if lenOk q.1.length then some (.new q.1, q.2) else none
  | .slb a lo hi => (evE T ρ a).bind fun p => (evC T p.2 lo).bind fun q => (evC T q.2 hi).bind fun r =>
    (viewOp r.2 p.1).bind fun x => (slbD x q.1 r.1).map fun z => (z, r.2)
  | .cal f es => (evEs T ρ es).bind fun p => (T.fs f).bind fun fs => callF fs p.1 p.2
  | .calk f n es ks => (evEs T ρ es).bind fun p => (keepL p.2 p.1).bind fun q => (T.ks f n ks).bind fun pm => (T.fs f).bind fun fs => callF fs ((permL pm q.1).map .val) q.2
  | .bi f es => (evEs T ρ es).bind fun p => (viewL p.2 p.1).bind fun ds => (biD f ds).map fun r => (r, p.2)
  | .isi a t => (evE T ρ a).bind fun p => (viewOp p.2 p.1).bind fun x => (kitB (tyD x) t).map fun b => (.val (.bool b), p.2)
  | .lc e t own it c => (evIt T ρ it).bind fun p =>
    (evComp (fun x ρ1 => (bindT (wipeE ρ1 (own.map (·.2))) t x).bind fun ρ2 =>
      (evIf T ρ2 c).bind fun q => if q.1 then (evE T q.2 e).bind fun r => (keepOp r.2 r.1).map fun k => (some k.1, k.2) else some (none, q.2)) p.1 [] p.2).bind fun r =>
        if lenOk r.1.length then some (.new r.1, backE p.2 r.2 (own.map (·.2))) else none
  | .lcO e j nm i => match ρ[i]? with
    | some (.o false ds) => (evComp (fun x ρ1 => (setE (wipeE ρ1 [j]) j (.v x)).bind fun ρ2 => (evE T ρ2 e).bind fun r => match r.1 with
      | .val d => some (some d, r.2)
      | _ => none) ds [] ρ).bind fun r => if lenOk r.1.length then some (.new r.1, backE ρ r.2 [j]) else none
    | _ => none
  | .gn f e t own it c => (evIt T ρ it).bind fun p =>
    (evGen (gnSt f) (fun x ρ1 => (bindT (wipeE ρ1 (own.map (·.2))) t x).bind fun ρ2 =>
      (evIf T ρ2 c).bind fun q => if q.1 then (evE T q.2 e).bind fun r => (keepOp r.2 r.1).map fun k => (some k.1, k.2) else some (none, q.2)) p.1 [] p.2).bind fun r =>
        (gnD f r.1).map fun d => (.val d, backE p.2 r.2 (own.map (·.2)))
def evEs (T : Tb) (ρ : En) : IEs → Option (List Op × En)
  | .nil => some ([], ρ)
  | .cons e es => (evE T ρ e).bind fun p => (evEs T p.2 es).map fun q => (p.1 :: q.1, q.2)
def evSt (T : Tb) (ρ : En) (fl : List Bool) : IEs → Option (List D × En)
  | .nil => match fl with
    | [] => some ([], ρ)
    | _ => none
  | .cons e es => match fl with
    | false :: fl => (evE T ρ e).bind fun p => (keepOp p.2 p.1).bind fun q => (evSt T q.2 fl es).map fun r => (q.1 :: r.1, r.2)
    | true :: fl => (evE T ρ e).bind fun p => (keepOp p.2 p.1).bind fun q => (itemsD q.1).bind fun ds => (evSt T q.2 fl es).map fun r => (ds ++ r.1, r.2)
    | [] => none
def evC (T : Tb) (ρ : En) : IC → Option (Option Int × En)
  | .no => some (none, ρ)
  | .so e => (evE T ρ e).bind fun p => match viewOp p.2 p.1 with
    | some (.int i) => some (some i, p.2)
    | _ => none
/-- a clause's test -/
def evIf (T : Tb) (ρ : En) : IC → Option (Bool × En)
  | .no => some (true, ρ)
  | .so e => evT T ρ e
/-- a test -/
def evT (T : Tb) (ρ : En) : IE → Option (Bool × En)
  | .not a => (evT T ρ a).map fun p => (!p.1, p.2)
  | .and a b => match evT T ρ a with
    | some (true, ρ1) => evT T ρ1 b
    | some (false, ρ1) => some (false, ρ1)
    | none => none
  | .or a b => match evT T ρ a with
    | some (true, ρ1) => some (true, ρ1)
    | some (false, ρ1) => evT T ρ1 b
    | none => none
  | .one a => evT T ρ a
  | .ite _ _ _ => none
  | .var i => (viewOp ρ (.slot i)).bind fun d => (trD d).map fun b => (b, ρ)
  | .cmp op a b => (evE T ρ a).bind fun p => (evE T p.2 b).bind fun q =>
    (viewOp q.2 p.1).bind fun x => (viewOp q.2 q.1).bind fun y => (cmpD op x y).map fun r => (r, q.2)
  | .cmp2 op op2 a b c => (evE T ρ a).bind fun p => (evE T p.2 b).bind fun q =>
    (viewOp q.2 p.1).bind fun x => (viewOp q.2 q.1).bind fun y => (cmpD op x y).bind fun r =>
      if r then (evE T q.2 c).bind fun s => (viewOp s.2 q.1).bind fun y' => (viewOp s.2 s.1).bind fun z => (cmpD op2 y' z).map fun r2 => (r2, s.2)
      else some (false, q.2)
  | .cal f es => (evEs T ρ es).bind fun p => (T.fs f).bind fun fs => (callF fs p.1 p.2).bind fun r => (viewOp r.2 r.1).bind fun d => (trD d).map fun b => (b, r.2)
  | .calk f n es ks => (evEs T ρ es).bind fun p => (keepL p.2 p.1).bind fun q => (T.ks f n ks).bind fun pm => (T.fs f).bind fun fs => (callF fs ((permL pm q.1).map .val) q.2).bind fun r => (viewOp r.2 r.1).bind fun d => (trD d).map fun b => (b, r.2)
  | .bi f es => (evEs T ρ es).bind fun p => (viewL p.2 p.1).bind fun ds => (biD f ds).bind fun r => (viewOp p.2 r).bind fun d => (trD d).map fun b => (b, p.2)
  | .isi a t => (evE T ρ a).bind fun p => (viewOp p.2 p.1).bind fun x => (kitB (tyD x) t).map fun b => (b, p.2)
  | .idx a i => (evE T ρ a).bind fun p => (evE T p.2 i).bind fun q =>
    (viewOp q.2 p.1).bind fun x => (viewOp q.2 q.1).bind fun y => (idxD x y).bind fun r => (trD r).map fun b => (b, q.2)
  | .gn f e t own it c => (evIt T ρ it).bind fun p =>
    (evGen (gnSt f) (fun x ρ1 => (bindT (wipeE ρ1 (own.map (·.2))) t x).bind fun ρ2 =>
      (evIf T ρ2 c).bind fun q => if q.1 then (evE T q.2 e).bind fun r => (keepOp r.2 r.1).map fun k => (some k.1, k.2) else some (none, q.2)) p.1 [] p.2).bind fun r =>
        (gnD f r.1).bind fun d => (trD d).map fun b => (b, backE p.2 r.2 (own.map (·.2)))
  | _ => none
/-- what a loop walks -/
def evIt (T : Tb) (ρ : En) : IT → Option (List D × En)
  | .ex e => (evE T ρ e).bind fun p => (keepOp p.2 p.1).bind fun q => match q.1 with
    | .list ds => some (ds, q.2)
    | .tuple ds => some (ds, q.2)
    | _ => none
  | .r1 a => (evE T ρ a).bind fun p => match viewOp p.2 p.1 with
    | some (.int j) => if rngOk j then some (rngD 0 j.toNat, p.2) else none
    | _ => none
  | .r2 a b => (evE T ρ a).bind fun p => (evE T p.2 b).bind fun q => match viewOp q.2 p.1, viewOp q.2 q.1 with
    | some (.int i), some (.int j) => if rngOk i && rngOk j then some (rngD i (j - i).toNat, q.2) else none
    | _, _ => none
  | .r3 es => (evEs T ρ es).bind fun p => match viewL p.2 p.1 with
    | some [.int i, .int j, .int (-1)] => if rngOk i && rngOk j then some (rngC i (-1) (i - j).toNat, p.2) else none
    | _ => none
  | .en a => (evE T ρ a).bind fun p => (keepOp p.2 p.1).bind fun q => match q.1 with
    | .list ds => some (enumD ds, q.2)
    | .tuple ds => some (enumD ds, q.2)
    | _ => none
  | .zp a b => (evE T ρ a).bind fun p => (evE T p.2 b).bind fun q => (keepL q.2 [p.1, q.1]).bind fun r => match r.1 with
    | [.list xs, .list ys] => some (zipD xs ys, r.2)
    | [.tuple xs, .tuple ys] => some (zipD xs ys, r.2)
    | [.tuple xs, .list ys] => some (zipD xs ys, r.2)
    | _ => none
  | .zp3 es => (evEs T ρ es).bind fun p => (keepL p.2 p.1).bind fun r => match r.1 with
    | [.tuple xs, .tuple ys, .tuple zs] => some (zipD3 xs ys zs, r.2)
    | _ => none
  | .zps e => (evE T ρ e).bind fun p => (keepOp p.2 p.1).bind fun r => match r.1 with
    | .tuple [.tuple xs, .tuple ys, .tuple zs] => some (zipD3 xs ys zs, r.2)
    | _ => none
/-- a block's target -/
def bindT (ρ : En) : Tg → D → Option En
  | .nm i, d => setE ρ i (.v d)
  | .sub _ _, _ => none
  | .tup ts, d => match d with
    | .tuple ds => bindTs ρ ts ds
    | _ => none
def bindTs (ρ : En) : Tgs → List D → Option En
  | .nil, ds => match ds with
    | [] => some ρ
    | _ => none
  | .cons t ts, ds => match ds with
    | d :: r => (bindT ρ t d).bind fun ρ1 => bindTs ρ1 ts r
    | _ => none
end
end Ev

set_option maxHeartbeats 1000000
namespace Ev
open PySem PySem.Spec PyProof.Rows L2

/-! ### statements -/
inductive Oc where
  | nx (ρ : En)
  | rt (d : D) (ρ : En)
  | rn (ds : List D) (ρ : En)
  | bk (ρ : En)
  | ct (ρ : En)
mutual
def asgT (T : Tb) (ρ : En) : Tg → Op → Option En
  | .nm i, op => stOp ρ i op
  | .sub i ix, op => (keepOp ρ op).bind fun p => match p.2[i]? with
    | some (.o _ _) => (evE T p.2 ix).bind fun q => match viewOp q.2 q.1, q.2[i]? with
      | some (.int k), some (.o mt ds) => (ixN ds.length k).map fun j => q.2.set i (.o mt (ds.set j p.1))
      | _, _ => none
    | _ => none
  | .tup ts, op => (keepOp ρ op).bind fun p => match p.1 with
    | .tuple ds => asgTs T p.2 ts (ds.map .val)
    | .list ds => asgTs T p.2 ts (ds.map .val)
    | _ => none
def asgTs (T : Tb) (ρ : En) : Tgs → List Op → Option En
  | .nil, ops => match ops with
    | [] => some ρ
    | _ => none
  | .cons t ts, ops => match ops with
    | o :: r => (asgT T ρ t o).bind fun ρ1 => asgTs T ρ1 ts r
    | _ => none
end
/-- names, stored from the right -/
def asgN (ρ : En) : List Nat → List Op → Option En
  | [], ops => match ops with
    | [] => some ρ
    | _ => none
  | i :: r, ops => match ops with
    | o :: os => (asgN ρ r os).bind fun ρ1 => stOp ρ1 i o
    | _ => none
def evFor (f : D → En → Option Oc) : List D → En → Option Oc
  | [], ρ => some (.nx ρ)
  | x :: xs, ρ => match f x ρ with
    | some (.nx ρ1) => evFor f xs ρ1
    | some (.ct ρ1) => evFor f xs ρ1
    | some (.bk ρ1) => some (.nx ρ1)
    | some (.rt d ρ1) => some (.rt d ρ1)
    | some (.rn d ρ1) => some (.rn d ρ1)
    | none => none
def evWhl (c : En → Option (Bool × En)) (b : En → Option Oc) : Nat → En → Option Oc
  | 0, _ => none
  | n + 1, ρ => match c ρ with
    | some (false, ρ1) => some (.nx ρ1)
    | some (true, ρ1) => match b ρ1 with
      | some (.nx ρ2) => evWhl c b n ρ2
      | some (.ct ρ2) => evWhl c b n ρ2
      | some (.bk ρ2) => some (.nx ρ2)
      | some (.rt d ρ2) => some (.rt d ρ2)
      | some (.rn d ρ2) => some (.rn d ρ2)
      | none => none
    | none => none
def augI : Operator → Int → Int → Option Int
  | .Add, i, j => some (i + j)
  | .Sub, i, j => some (i - j)
  | .Mult, i, j => if mulOk i j then some (i * j) else none
  | .FloorDiv, i, j => if divOk j then some (i / j) else none
  | _, _, _ => none
def intE (ρ : En) (o : Op) : Option Int := match viewOp ρ o with
  | some (.int i) => some i
  | _ => none
mutual
def evS (n : Nat) (T : Tb) (ρ : En) : IS → Option Oc
  | .asg t e => (evE T ρ e).bind fun p => (asgT T p.2 t p.1).map .nx
  | .asgs is es => (evEs T ρ es).bind fun p => (settle p.2 p.1).bind fun q => (asgN q.2 is q.1).map .nx
  | .aug i op e => (intE ρ (.slot i)).bind fun a => (evE T ρ e).bind fun p => (intE p.2 p.1).bind fun b => (augI op a b).bind fun z => (setE p.2 i (.v (.int z))).map .nx
  | .augS i ix op e => match ρ[i]? with
    | some (.o _ _) => (evE T ρ ix).bind fun p => match intE p.2 p.1, p.2[i]? with
      | some k, some (.o mt ds) => (ixN ds.length k).bind fun j => match ds[j]? with
        | some (.int a) => (evE T p.2 e).bind fun q => (intE q.2 q.1).bind fun b => (augI op a b).bind fun z => match q.2[i]? with
          | some (.o mt2 ds2) => (ixN ds2.length k).map fun j2 => .nx (q.2.set i (.o mt2 (ds2.set j2 (.int z))))
          | _ => none
        | _ => none
      | _, _ => none
    | _ => none
  | .app i e => match ρ[i]? with
    | some (.o _ _) => (evE T ρ e).bind fun p => (keepOp p.2 p.1).bind fun q => match q.2[i]? with
      | some (.o mt ds) => if decide (ds.length < sizeLine) then some (.nx (q.2.set i (.o mt (ds ++ [q.1])))) else none
      | _ => none
    | _ => none
  | .ifs c a b => match evT T ρ c with
    | some (true, ρ1) => evSs n T ρ1 a
    | some (false, ρ1) => evSs n T ρ1 b
    | none => none
  | .whl c b => evWhl (fun ρ1 => evT T ρ1 c) (fun ρ1 => evSs n T ρ1 b) n ρ
  | .fors t it b => (evIt T ρ it).bind fun p => evFor (fun x ρ1 => (bindT ρ1 t x).bind fun ρ2 => evSs n T ρ2 b) p.1 p.2
  | .exp e => (evE T ρ e).map fun p => .nx p.2
  | .ret e => (evE T ρ e).bind fun p => (keepOp p.2 p.1).map fun q => .rt q.1 q.2
  | .retM e => (evE T ρ e).bind fun p => match p.1 with
    | .new ds => some (.rn ds p.2)
    | _ => none
  | .retN => some (.rt .none ρ)
  | .brk => some (.bk ρ)
  | .cnt => some (.ct ρ)
  | .pas => some (.nx ρ)
  | .nev => none
def evSs (n : Nat) (T : Tb) (ρ : En) : ISs → Option Oc
  | .nil => some (.nx ρ)
  | .cons s ss => match evS n T ρ s with
    | some (.nx ρ1) => evSs n T ρ1 ss
    | o => o
end
/-- a def's run -/
def entP (N : Nat) (ds : List D) : En := ds.map .v ++ List.replicate (N - ds.length) .u
def entW (N : Nat) (ds0 : List D) (ds : List D) : En := Sl.o true ds0 :: (ds.map .v ++ List.replicate (N - 1 - ds.length) .u)
def runP (n : Nat) (T : Tb) (N : Nat) (b : ISs) (ds : List D) : Option D :=
  match evSs n T (entP N ds) b with
  | some (.rt d _) => some d
  | some (.nx _) => some .none
  | _ => none
def runM (n : Nat) (T : Tb) (N : Nat) (b : ISs) (ds : List D) : Option (List D) :=
  match evSs n T (entP N ds) b with
  | some (.rn r _) => some r
  | _ => none
def runW (n : Nat) (T : Tb) (N : Nat) (b : ISs) (ds0 ds : List D) : Option (D × List D) :=
  match evSs n T (entW N ds0 ds) b with
  | some (.rt d ρ) => match ρ[(0 : Nat)]? with
    | some (.o true es) => some (d, es)
    | _ => none
  | some (.nx ρ) => match ρ[(0 : Nat)]? with
    | some (.o true es) => some (.none, es)
    | _ => none
  | _ => none

mutual
def tgIx : Tg → List Nat
  | .nm i => [i]
  | .sub _ _ => []
  | .tup ts => tgsIx ts
def tgsIx : Tgs → List Nat
  | .nil => []
  | .cons t ts => tgIx t ++ tgsIx ts
end
def tyNames : List String := ["int", "bool", "str", "tuple", "list", "dict", "float"]
/-! ### the text is this -/
structure Sc where
  N : List Str
  sc : Scope
  fn : Str → Bool
  /-- generator expressions may stand here -/
  gd : Bool := false
def visB (s : Scope) (x : Str) : Bool := match s.names.lookup x with
  | some .local => true
  | some .cell => true
  | some .free => true
  | _ => false
def glB (s : Scope) (x : Str) : Bool := match s.names.lookup x with
  | some .globalImplicit => true
  | _ => false
def okN (x : Str) : Bool := !(x == ("__debug__" : Str)) && !(x == ("__classdict__" : Str)) && !(x == ("__name__" : Str))
def stB (s : Sc) (x : Str) : Bool := match s.sc.names.lookup x with
  | some .local => true
  | some .cell => s.fn x
  | _ => false
def isName (f : Str) : Expr → Bool
  | .Name x _ => x == f
  | _ => false
def nm? : Expr → Option Str
  | .Name x _ => some x
  | _ => none
def blkS (s : Sc) (scope : Scope) : Sc := ⟨s.N, relS scope s.sc, fun x => scope.names.lookup x == some .cell, s.gd⟩
def gnS (s : Sc) (scope : Scope) : Sc := ⟨s.N, scope, fun _ => false, false⟩
def gnC (N : List Str) (sc scope : Scope) (own : List (Str × Nat)) : Bool :=
  blkC N sc scope own && (scope.names.all fun y => decide (y.2 ≠ .cell)) && decide (scope.names.lookup (".0" : Str) = some NameKind.local) && !scope.isCoroutine
def noLst : Expr → Bool
  | .List .. => false
  | _ => true
def plainC : Expr → Bool
  | .ListComp .. => false
  | .SetComp .. => false
  | .DictComp .. => false
  | _ => true
/-- the step -1 -/
def isM1 : Expr → Bool
  | .UnaryOp .USub (.Constant (.int 1) _ _) _ => true
  | _ => false
/-- numbers out of one name -/
def smp (j : Nat) : IE → Bool
  | .var i => decide (i = j)
  | .cst _ => true
  | .bin _ a b => smp j a && smp j b
  | .idx a b => smp j a && smp j b
  | _ => false
mutual
def chE (s : Sc) : IE → Expr → Bool
  | .var i, e => match e with
    | .Name x _ => decide (s.N[i]? = some x) && visB s.sc x && okN x
    | _ => false
  | .cst c, e => match e with
    | .Constant c' _ _ => decide (c = c')
    | _ => false
  | .glb x, e => match e with
    | .Name y _ => decide (x = y) && glB s.sc y && okN y
    | _ => false
  | .bin op a b, e => match e with
    | .BinOp a' op' b' _ => decide (op = op') && chE s a a' && chE s b b'
    | _ => false
  | .neg a, e => match e with
    | .UnaryOp .USub a' _ => chE s a a'
    | _ => false
  | .not a, e => match e with
    | .UnaryOp .Not a' _ => chE s a a'
    | _ => false
  | .cmp op a b, e => match e with
    | .Compare a' [op'] [b'] _ => decide (op = op') && chE s a a' && chE s b b'
    | _ => false
  | .cmp2 op op2 a b c, e => match e with
    | .Compare a' [op', op2'] [b', c'] _ => decide (op = op') && decide (op2 = op2') && chE s a a' && chE s b b' && chE s c c'
    | _ => false
  | .and a b, e => match e with
    | .BoolOp .And (a' :: b' :: r) pos => chE s a a' && chE s b (.BoolOp .And (b' :: r) pos)
    | _ => false
  | .or a b, e => match e with
    | .BoolOp .Or (a' :: b' :: r) pos => chE s a a' && chE s b (.BoolOp .Or (b' :: r) pos)
    | _ => false
  | .one a, e => match e with
    | .BoolOp _ [a'] _ => chE s a a'
    | _ => false
  | .ite c a b, e => match e with
    | .IfExp c' a' b' _ => chE s c c' && chE s a a' && chE s b b'
    | _ => false
  | .tup es, e => match e with
    | .Tuple es' _ _ => chEs s es es'
    | _ => false
  | .lst es, e => match e with
    | .List es' _ => chEs s es es'
    | _ => false
  | .idx a i, e => match e with
    | .Subscript a' i' _ => chE s a a' && chE s i i'
    | _ => false
  | .slc a lo hi, e => match e with
    | .Subscript a' (.Slice lo' hi' none _) _ => chE s a a' && chC s lo lo' && chC s hi hi'
    | _ => false
  | .tupS fl es, e => match e with
    | .Tuple es' _ _ => chSt s fl es es'
    | _ => false
  | .lstS fl es, e => match e with
    | .List es' _ => chSt s fl es es'
    | _ => false
  | .slb a lo hi, e => match e with
    | .Subscript a' (.Slice lo' hi' (some st) _) _ => isM1 st && chE s a a' && chC s lo lo' && chC s hi hi'
    | _ => false
  | .cal f es, e => match e with
    | .Call (.Name x _) es' [] _ => decide (x = f) && glB s.sc x && okN x && chEs s es es'
    | _ => false
  | .calk f n es ks, e => match e with
    | .Call (.Name x _) es' kws _ => decide (x = f) && glB s.sc x && okN x && chEs s es (es' ++ kws.map (·.value)) && decide (es'.length = n) && decide (kws.map (·.arg) = ks.map some) && !kws.isEmpty
    | _ => false
  | .bi f es, e => match e with
    | .Call (.Name x _) es' [] _ => decide (x = Str.ofString f) && glB s.sc x && okN x && chEs s es es'
    | _ => false
  | .isi a t, e => match e with
    | .Call (.Name x _) [a', .Name y _] [] _ => decide (x = Str.ofString "isinstance") && glB s.sc x && decide (y = Str.ofString t) && glB s.sc y && okN y && chE s a a' && decide (t ∈ tyNames)
    | _ => false
  | .lc elt t own it c, e => match e with
    | .ListComp elt' [⟨tg, iter, ifs, 0⟩] scope _ => blkC s.N s.sc scope own && chIt s it tg iter && chT (blkS s scope) t tg && chIf (blkS s scope) c ifs && chE (blkS s scope) elt elt' && (tgIx t).all fun i => (own.map (·.2)).contains i
    | _ => false
  | .lcO elt j nm i, e => match e with
    | .ListComp elt' [⟨.Name y _, .Name x _, [], 0⟩] scope _ => blkC s.N s.sc scope [(nm, j)] && decide (s.N[i]? = some x) && visB s.sc x && okN x && (decide ((blkS s scope).N[j]? = some y) && stB (blkS s scope) y) && chE (blkS s scope) elt elt' && smp j elt && decide (i ≠ j)
    | _ => false
  | .gn f elt t own it c, e => match e with
    | .Call (.Name x _) [.GeneratorExp elt' [⟨tg, iter, ifs, 0⟩] scope _] [] _ => decide (x = Str.ofString f) && glB s.sc x && okN x && s.gd && gnC s.N s.sc scope own && noLst iter && chIt s it tg iter && chT (gnS s scope) t tg && chIf (gnS s scope) c ifs && chE (gnS s scope) elt elt' && (tgIx t).all fun i => (own.map (·.2)).contains i
    | _ => false
def chEs (s : Sc) : IEs → List Expr → Bool
  | .nil, l => match l with
    | [] => true
    | _ => false
  | .cons e es, l => match l with
    | e' :: es' => chE s e e' && chEs s es es'
    | _ => false
def chSt (s : Sc) (fl : List Bool) : IEs → List Expr → Bool
  | .nil, l => match l with
    | [] => true
    | _ => false
  | .cons e es, l => match fl, l with
    | true :: fl, .Starred e' _ :: es' => chE s e e' && chSt s fl es es'
    | false :: fl, e' :: es' => chE s e e' && chSt s fl es es'
    | _, _ => false
def chC (s : Sc) : IC → Option Expr → Bool
  | .no, l => match l with
    | none => true
    | _ => false
  | .so e, l => match l with
    | some e' => chE s e e'
    | _ => false
def chIf (s : Sc) : IC → List Expr → Bool
  | .no, l => match l with
    | [] => true
    | _ => false
  | .so e, l => match l with
    | [e'] => chE s e e'
    | _ => false
def chIt (s : Sc) : IT → Expr → Expr → Bool
  | .ex e, _, x => chE s e x
  | .r1 a, _, x => match x with
    | .Call (.Name f _) [a'] [] _ => decide (f = Str.ofString "range") && glB s.sc f && chE s a a'
    | _ => false
  | .r2 a b, _, x => match x with
    | .Call (.Name f _) [a', b'] [] _ => decide (f = Str.ofString "range") && glB s.sc f && chE s a a' && chE s b b'
    | _ => false
  | .r3 es, _, x => match x with
    | .Call (.Name f _) [a', b', c'] [] _ => decide (f = Str.ofString "range") && glB s.sc f && chEs s es [a', b', c']
    | _ => false
  | .en a, tg, x => match tg, x with
    | .Tuple _ _ _, .Call (.Name f _) [a'] [] _ => decide (f = Str.ofString "enumerate") && glB s.sc f && chE s a a'
    | _, _ => false
  | .zp a b, tg, x => match tg, x with
    | .Tuple _ _ _, .Call (.Name f _) [a', b'] [] _ => decide (f = Str.ofString "zip") && glB s.sc f && chE s a a' && chE s b b'
    | _, _ => false
  | .zp3 es, tg, x => match tg, x with
    | .Tuple _ _ _, .Call (.Name f _) [a', b', c'] [] _ => decide (f = Str.ofString "zip") && glB s.sc f && chEs s es [a', b', c']
    | _, _ => false
  | .zps a, tg, x => match tg, x with
    | .Tuple _ _ _, .Call (.Name f _) [.Starred a' _] [] _ => decide (f = Str.ofString "zip") && glB s.sc f && chE s a a'
    | _, _ => false
def chT (s : Sc) : Tg → Expr → Bool
  | .nm i, e => match e with
    | .Name x _ => decide (s.N[i]? = some x) && stB s x
    | _ => false
  | .sub i ix, e => match e with
    | .Subscript (.Name x _) ix' _ => decide (s.N[i]? = some x) && visB s.sc x && okN x && chE s ix ix'
    | _ => false
  | .tup ts, e => match e with
    | .Tuple es _ _ => chTs s ts es
    | _ => false
def chTs (s : Sc) : Tgs → List Expr → Bool
  | .nil, l => match l with
    | [] => true
    | _ => false
  | .cons t ts, l => match l with
    | e' :: es' => chT s t e' && chTs s ts es'
    | _ => false
end
end Ev

set_option maxHeartbeats 2000000
namespace Ev
open PySem PySem.Spec PyProof.Rows L2
/-! ### sorted, of a list or a tuple -/
section
variable {prog : Program} {w : World} {A : Around} {E : Value → Shared → Prop} {s : Shared}
/-- the heap behind a collection -/
abbrev colH (h : Heap) (vs : List Value) : Heap := (h.push (seqObj "list" #[] 0)).update h.objs.size (Obj.mapSeq (· ++ vs.toArray))
theorem collect_tup {l : Addr} {vs : List Value} {Q : List Value → Shared → Prop} (hl : IsTup s.heap l vs.toArray) (hz : vs.length ≤ sizeLine) (h : Q vs { s with heap := colH s.heap vs }) : wpAny (model prog w) A (collect (.ref l)) Q E s := by
  obtain ⟨o, ho, hc, n, hd⟩ := id hl
  unfold collect
  refine wpAny_bind (wpAny_runValue (codeAny_builtin entry_proto_collect' ?_))
  show wpAny _ _ (do again (.builtin "list.__iadd__" ⟨[← newList [], .ref l], []⟩)) _ _ s
  refine wpAny_bind (wpAny_newList (wpAny_pure ⟨Code.quiet_builtin _ (by decide +kernel), codeAny_builtin entry_list_iadd' ?_⟩))
  show wpAny _ _ (Builtin.List.listExtendWith (.ref s.heap.objs.size) (.ref l) (.ref s.heap.objs.size)) _ _ { s with heap := s.heap.push (seqObj "list" #[] 0) }
  have hn : (s.heap.push (seqObj "list" #[] 0)).get? s.heap.objs.size = some (seqObj "list" #[] 0) := Heap.get?_push_size _ rfl
  unfold Builtin.List.listExtendWith
  refine wpAny_bind (wpAny_typeOf (T := "tuple") ⟨o, Heap.get?_push_of_some _ ho, hc⟩ ?_)
  have ht : (Value.type "tuple" == Value.type "tuple") = true := by rfl
  rw [if_pos (by simp [ht])]
  refine wpAny_bind (listItems_at (Heap.get?_push_of_some _ ho) hd (wpAny_bind (listItems_at hn rfl ?_)))
  rw [if_neg (by simp)]
  refine wpAny_bind (listUpdate_at hn rfl (wpAny_pure ?_) (Nat.zero_le _) (by simp only [Array.size_append, List.size_toArray, List.length_nil]; omega))
  have he : ((#[] : Array Value) ++ vs.toArray).toList = vs := by simp
  refine wpAny_bind (wpAny_load (get?_update_seq hn _) ?_)
  show wpAny _ _ (pure ((#[] : Array Value) ++ vs.toArray).toList) Q E _
  rw [he]
  exact wpAny_pure h
theorem sorted_by {x : Value} {vs : List Value} {ltv : Value → Value → Bool} {Q : Value → Shared → Prop} (O : SrtO.Swo ltv) (hz : vs.length ≤ sizeLine) (ha : argsOk "sorted" ⟨[x], []⟩)
    (hx : ∀ (A : Around) (E : Value → Shared → Prop) (Q : List Value → Shared → Prop), Q vs { s with heap := colH s.heap vs } → wpAny (model prog w) A (collect x) Q E s)
    (hS : 2 ≤ vs.length → ∀ (h : Heap) (a : Addr), (∀ b o, s.heap.get? b = some o → h.get? b = some o) → SrtO.SortableO prog w A.in1.in1 { s with heap := h } a vs ltv)
    (h : ∀ out : List Value, SrtO.Srtd ltv out → SrtO.Stb ltv out vs → Q (.ref (s.heap.objs.size + 1)) { s with heap := sortedAll s.heap vs out.toArray }) : wpAny (model prog w) A (call (.builtin "sorted") [x]) Q E s := by
  refine Calls.call_function_entry kind_sorted plain_sorted entry_sorted ha ?_
  unfold Builtin.«sorted»
  refine wpAny_bind (m := checkCount "sorted" 1 1 _) (wpAny_pure ?_)
  refine wpAny_bind (hx _ _ _ (wpAny_bind (wpAny_newList ?_ hz)))
  have hsz : (colH s.heap vs).objs.size = s.heap.objs.size + 1 := by rw [Heap.size_update, size_push']
  have hnew : ((colH s.heap vs).push (seqObj "list" vs.toArray 0)).get? (s.heap.objs.size + 1) = some (seqObj "list" vs.toArray 0) := by
    rw [← hsz]; exact Heap.get?_push_size _ rfl
  have hold : ∀ b o, s.heap.get? b = some o → ((colH s.heap vs).push (seqObj "list" vs.toArray 0)).get? b = some o := fun b o q => by
    refine Heap.get?_push_of_some _ ?_
    show ((s.heap.push _).update _ _).get? b = _
    rw [Heap.get?_update_ne _ _ _ _ (Nat.ne_of_lt (Heap.lt_size q))]
    exact Heap.get?_push_of_some _ q
  show wpAny _ _ _ _ _ { s with heap := (colH s.heap vs).push (seqObj "list" vs.toArray 0) }
  rw [hsz]
  refine wpAny_bind (wpAny_holding (wpAny_call_entry slot_list_sort ⟨_, hnew, rfl⟩ entry_list_sort (SrtO.list_sort_ord O hnew hz (fun h2 => hS h2 _ _ hold) fun out hs hb => ⟨_, rfl, ?_⟩) (args_list_sort _)))
  exact wpAny_pure ⟨_, rfl, h out hs hb⟩
end
theorem sortI_perm (ns : List Int) : (sortI ns).Perm ns := List.mergeSort_perm _ _
theorem sortI_le (ns : List Int) : (sortI ns).Pairwise (· ≤ ·) := by
  have := List.pairwise_mergeSort (le := fun a b : Int => decide (a ≤ b)) (fun a b c h1 h2 => by simp only [decide_eq_true_eq] at *; omega) (fun a b => by simp only [Bool.or_eq_true, decide_eq_true_eq]; omega) ns
  exact this.imp fun h => of_decide_eq_true h
theorem sortI_eq {ns ms : List Int} (h : ms.Perm ns) (h2 : ms.Pairwise (· ≤ ·)) : ms = sortI ns :=
  List.Perm.eq_of_pairwise (le := (· ≤ ·)) (fun a b _ _ h1 h2 => Int.le_antisymm h1 h2) h2 (sortI_le ns) (h.trans (sortI_perm ns).symm)
def rSortedLT (K : PySem.W.Frag) : List V → Hp → VK → Prop := fun vs H Q => ∃ (a : Addr) (ns : List Int), vs = [V.ref a] ∧ (SqL K H a (ns.map V.int) ∨ SqT K H a (ns.map V.int)) ∧ ∀ p, H p = none → Q (.ref p) (upd H p (.lst ((sortI ns).map V.int)))
theorem cr_sortedLT {X : Cx} : CallR X (.builtin "sorted") (rSortedLT X.K) := by
  intro pins s σ H vs us Q I r h
  obtain ⟨a, ns, rfl, hs, q⟩ := h
  rw [Vals.ref1 r]
  have core : ∀ its : List Value, Vals (ns.map V.int) its → its.length ≤ sizeLine → (∀ (A : Around) (E : Value → Shared → Prop) (Q : List Value → Shared → Prop), Q its { s with heap := colH s.heap its } → wpAny (model X.prog X.w) A (collect (.ref a)) Q E s) → wpAny (model X.prog X.w) X.A (call (.builtin "sorted") [.ref a]) (EP X pins σ Q) X.xe s := fun its rv hz hx => by
    have hi := rv.ints
    refine sorted_by SrtO.swo_int hz (args_sorted1 _) hx (fun h2 h₁ a' _ => SrtO.ints_sortable hi h2) fun out h1 h2 => ?_
    obtain ⟨k1, k2, k3⟩ := SrtO.ints_out hi h1 h2
    have e := sortI_eq k2 k3
    obtain ⟨ep, he'⟩ := PyProof.Rows.sortedAll_at s.heap its out.toArray
    have hlen : ((sortI ns).map V.int).length ≤ sizeLine := by
      have h1 := rv.length
      rw [List.length_map] at h1
      rw [List.length_map, (sortI_perm ns).length_eq]
      omega
    rw [e] at k1
    exact ⟨.ref _, upd H (s.heap.objs.size + 1) (.lst ((sortI ns).map V.int)), I.laid (t' := s.toks) (fun _ _ => PyProof.Rows.sortedAll_old) (Nat.le_succ _) ⟨hlen, out, ep, vals_of_ints k1, he'⟩, rfl, q _ (I.hok.fresh (Nat.le_succ _))⟩
  rcases hs with hs | hs
  · obtain ⟨its, rv, hl, hz⟩ := I.list hs
    have hz' : its.length ≤ sizeLine := by rw [← rv.length]; exact hz
    exact core its rv hz' fun A E Q hQ => PyProof.Rows.collect_list hl.isList hQ hz'
  · obtain ⟨its, rv, hl, hz⟩ := I.tuple hs
    have hz' : its.length ≤ sizeLine := by rw [← rv.length]; exact hz
    exact core its rv hz' fun A E Q hQ => collect_tup hl hz' hQ
end Ev
namespace Ev
open PySem PySem.Spec PyProof.Rows L2
section
variable {prog : Program} {w : World} {A : Around} {E : Value → Shared → Prop} {s : Shared}
theorem sum_tup {l : Addr} {its : List Value} {ns : List Int} {Q : Value → Shared → Prop} (hh : A.handled = none) (hl : IsTup s.heap l its.toArray) (hi : IntsAre its ns)
    (h : ∀ h' tk t', (∀ b o, s.heap.get? b = some o → h'.get? b = some o) → Q (.int ns.sum t') { s with heap := h', toks := tk }) : wpAny (model prog w) A (call (.builtin "sum") [.ref l]) Q E s := by
  obtain ⟨xs, e⟩ := hi.allInts.items
  have hn : numsOf (intItems xs).toList = ns := by rw [← e]; exact hi.numsOf
  rw [nums_intItems] at hn
  rw [e] at hl
  have hlt : l < s.heap.objs.size := by obtain ⟨_, q, _⟩ := id hl; exact Heap.lt_size q
  refine call_sum_walkG (wpAny_pyIter_tuple (show s.heap.IsTuple l (intItems xs) from hl) ?_)
  have ht : s.heap.IsTuple l (intItems xs) := hl
  refine ⟨_, _, _, _, _, _, numAt xs, rfl, Walks.tuple (A := A.in1) hh s.heap.objs.size l (Nat.ne_of_lt hlt) (intItems xs), ⟨⟨_, Heap.get?_push_size _ rfl, rfl, rfl⟩, ht.push _⟩, fun b hb => ?_, (fun _ _ => intItems_at), fun h' tk t' hk => ?_⟩
  · show b < (s.heap.push _).objs.size
    rw [Heap.size_push]
    simp only [List.mem_cons, List.not_mem_nil, or_false] at hb
    rcases hb with rfl | rfl
    · exact Nat.lt_succ_self _
    · exact Nat.lt_succ_of_lt hlt
  · have := h h' tk t' fun b o q => hk b o (fun hm => by
      rw [List.mem_singleton.mp hm] at q
      exact Nat.lt_irrefl _ (Heap.lt_size q)) (Heap.get?_push_of_some _ q)
    rw [show (intItems xs).size = xs.size by simp [intItems], preSum_eq, List.take_of_length_le (by simp), hn]
    exact this
end
def rSumT (K : PySem.W.Frag) : List V → Hp → VK → Prop := fun vs H Q => ∃ (a : Addr) (ns : List Int), vs = [V.ref a] ∧ SqT K H a (ns.map V.int) ∧ Q (.int ns.sum) H
theorem cr_sumT {X : Cx} (hc : X.calm = true) : CallR X (.builtin "sum") (rSumT X.K) := by
  intro pins s σ H vs us Q I r h
  obtain ⟨a, ns, rfl, hs, q⟩ := h
  obtain ⟨its, rv, hl, _⟩ := I.tuple hs
  rw [Vals.ref1 r]
  exact sum_tup (I.ok.hd hc) hl rv.ints fun h' tk t' hk => ⟨.int _, H, I.kept hk, ⟨_, rfl⟩, q⟩
end Ev

/-! ### any(t) of a tuple of whole numbers -/
namespace Ev
open PySem PySem.Spec PyProof.Rows L2
theorem intsAre_get : ∀ {its : List Value} {ns : List Int} {i : Nat} {v : Value}, IntsAre its ns → its[i]? = some v → ∃ t, v = .int (ns.getD i 0) t
  | _, _, i, v, .nil, h => by simp at h
  | _, _, 0, v, .cons n t r, h => by simp at h; exact ⟨t, h.symm⟩
  | _, _, i + 1, v, .cons n t r, h => by
    simp at h
    obtain ⟨u, e⟩ := intsAre_get r h
    exact ⟨u, by simpa using e⟩
theorem intsAre_len : ∀ {its : List Value} {ns : List Int}, IntsAre its ns → its.length = ns.length
  | _, _, .nil => rfl
  | _, _, .cons _ _ r => by simp [intsAre_len r]
theorem any_rangeI : ∀ ns : List Int, (List.range ns.length).any (fun i => ns.getD i 0 != 0) = ns.any (· != 0)
  | [] => rfl
  | n :: ns => by
    rw [List.length_cons, List.range_succ_eq_map, List.any_cons, List.any_map, List.any_cons, ← any_rangeI ns]
    all_goals rfl
theorem any_tup {prog : Program} {w : World} {A : Around} {E : Value → Shared → Prop} {s : Shared} {l : Addr} {its : List Value} {ns : List Int} {Q : Value → Shared → Prop} (hh : A.handled = none) (hl : IsTup s.heap l its.toArray) (hi : IntsAre its ns)
    (h : ∀ h' tk, (∀ b o, s.heap.get? b = some o → h'.get? b = some o) → Q (.bool (ns.any (· != 0))) { s with heap := h', toks := tk }) : wpAny (model prog w) A (call (.builtin "any") [.ref l]) Q E s := by
  obtain ⟨xs, e⟩ := hi.allInts.items
  have hn : numsOf (intItems xs).toList = ns := by rw [← e]; exact hi.numsOf
  have hia := hi
  rw [e] at hl
  have hits : its.toArray = intItems xs := e
  have hlt : l < s.heap.objs.size := by obtain ⟨_, q, _⟩ := id hl; exact Heap.lt_size q
  refine call_any_walk (wpAny_pyIter_tuple (show s.heap.IsTuple l (intItems xs) from hl) ?_)
  have ht : s.heap.IsTuple l (intItems xs) := hl
  refine ⟨_, _, _, _, _, _, (fun i => ns.getD i 0 != 0), rfl, Walks.tuple (A := A.in1) hh s.heap.objs.size l (Nat.ne_of_lt hlt) (intItems xs), ⟨⟨_, Heap.get?_push_size _ rfl, rfl, rfl⟩, ht.push _⟩, (fun i v s' Q' E' hv hq => ?_), fun h' tk hk => ?_⟩
  · have hv' : its[i]? = some v := by
      have : (intItems xs)[i]? = some v := hv
      rw [← hits] at this
      simpa using this
    obtain ⟨t, rfl⟩ := intsAre_get hia hv'
    exact PySem.P.truthy_int hq
  · have := h h' tk fun b o q => hk b o (fun hm => by
      rw [List.mem_singleton.mp hm] at q
      exact Nat.lt_irrefl _ (Heap.lt_size q)) (Heap.get?_push_of_some _ q)
    rw [show (intItems xs).size = ns.length by rw [← hits, List.size_toArray, intsAre_len hia], any_rangeI]
    exact this
def rAnyT (K : PySem.W.Frag) : List V → Hp → VK → Prop := fun vs H Q => ∃ (a : Addr) (ns : List Int), vs = [V.ref a] ∧ SqT K H a (ns.map V.int) ∧ Q (.bl (ns.any (· != 0))) H
theorem cr_anyT {X : Cx} (hc : X.calm = true) : CallR X (.builtin "any") (rAnyT X.K) := by
  intro pins s σ H vs us Q I r h
  obtain ⟨a, ns, rfl, hs, q⟩ := h
  obtain ⟨its, rv, hl, _⟩ := I.tuple hs
  rw [Vals.ref1 r]
  exact any_tup (I.ok.hd hc) hl rv.ints fun h' tk hk => ⟨.bl _, H, I.kept hk, rfl, q⟩
end Ev

set_option maxHeartbeats 2000000
namespace Ev
open PySem PySem.Spec PyProof.Rows L2

/-! ### a def's promise where nothing is being shown -/
structure FnG (P : Program) (w : World) (K : PySem.W.Frag) (mg : Str → Option Value) (base : Heap) (k : Nat) (f : Addr) (fd : FuncData) (ps : List Str) (sp : Sp) : Prop where
  len : ∀ vs H Q E, sp vs H Q E → vs.length = ps.length
  run : ∀ (A : Around) (outer : List Env) (s : Shared) (H : Hp) (args : Args) (us : List Value) (vs : List V) (Q : VK) (E : XK), A.guards = some [] → Room k A → Env0 P w K mg base A outer s H → BindsTo s fd args (ps.zip us) → Vals vs us → sp vs H Q E →
    codeAny (model P w) A (.call (.ref f) args) (CR CX0 outer P w H s Q E) s
theorem FnG.mono {P : Program} {w : World} {K : PySem.W.Frag} {mg : Str → Option Value} {base : Heap} {j k : Nat} {f : Addr} {fd : FuncData} {ps : List Str} {sp : Sp} (F : FnG P w K mg base j f fd ps sp) (h : j ≤ k) : FnG P w K mg base k f fd ps sp :=
  ⟨F.len, fun A outer s H args us vs Q E hg hr => F.run A outer s H args us vs Q E hg (hr.mono h)⟩
section
variable {X : Cx} {k : Nat} {f : Addr} {fd : FuncData} {ps : List Str} {sp : Sp} {x : Str} {p pos : Pos} {e : Expr} {es : List Expr} {t : TA}
theorem runG {pins : List (Addr × Obj)} {σ : L2.St} {H : Hp} {s : Shared} {Q : VK} {us : List Value} {vs : List V} (F : FnG X.prog X.w X.K X.mg X.base k f fd ps sp) (hg : X.A.guards = some []) (hr : Room k X.A) (hb : Binds X.K fd ps [])
    (I : Inv X pins σ H s) (r : Vals vs us) (h : sp vs H Q E0) : wpAny (model X.prog X.w) X.A (call (.ref f) us) (EP X pins σ Q) X.xe s := by
  have hl : (us ++ []).length = ps.length := by rw [List.append_nil, ← r.length]; exact F.len _ _ _ _ h
  have hbb := hb s us I.kIn hl
  rw [List.append_nil] at hbb
  refine wpAny_call (codeAny_mono (F.run X.A X.stack s H ⟨us, []⟩ us vs Q E0 hg hr I.env0 hbb r h) fun res s' hq => ?_)
  match res, hq with
  | .ok (.ret u), hq => exact I.after hq
  | .error e, hq => exact False.elim hq
theorem pe_callG (F : FnG X.prog X.w X.K X.mg X.base k f fd ps sp) (hgu : X.A.guards = some []) (hr : Room k X.A) (hg : Gl X x) (hm : X.mg x = some (.ref f)) (hk : PySem.W.keepIn X.K (.ref f) = true) (hb : Binds X.K fd ps []) (ha : PA X (e :: es) t)
    (hdb : (x == ("__debug__" : Str)) = false) (he : starEach (e :: es) X.env = (false, eval e X.env) :: starEach es X.env) (hpl : (backTo pos (starEach es X.env)).any (·.1) = false) :
    PE X (.Call (.Name x p) (e :: es) [] pos) (fun σ H Q => t σ H fun vs H1 => sp vs H1 Q E0) :=
  ⟨fun pins s σ H Q I h => wpAny_Call_Name_kw (ld_glob I hg hm (PySem.W.callWith_K (h₀ := X.base) I.ok.mod.kin hk
    (thn (ha.run pos pins s σ H _ I h) fun us s1 ⟨vs, H1, I1, r, q⟩ => ⟨I1.kIn, runG F hgu hr hb I1 r q⟩) he hpl) hdb)⟩
theorem pe_callG0 (F : FnG X.prog X.w X.K X.mg X.base k f fd ps sp) (hgu : X.A.guards = some []) (hr : Room k X.A) (hg : Gl X x) (hm : X.mg x = some (.ref f)) (hk : PySem.W.keepIn X.K (.ref f) = true) (hb : Binds X.K fd ps [])
    (hdb : (x == ("__debug__" : Str)) = false) : PE X (.Call (.Name x p) [] [] pos) (fun σ H Q => sp [] H Q E0) :=
  ⟨fun pins s σ H Q I h => wpAny_Call_Name_kw (ld_glob I hg hm (PySem.W.callWith_K0 I.kIn hk (runG (us := []) F hgu hr hb I .nil h)) hdb)⟩
end

/-- a def by its body -/
theorem fnG_of {P : Program} {w : World} {K : PySem.W.Frag} {mg : Str → Option Value} {base : Heap} {k : Nat} {x qual : Str} {st : Stmt} {f : Addr} {fd : FuncData} {N ps : List Str} {sp : Sp} (F : Fun K x qual st f fd) (S : FnScope N ps (defScope st)) (len : ∀ vs H Q E, sp vs H Q E → vs.length = ps.length)
    (hbody : ∀ (cdv : Value) (A : Around) (outer : List Env) (s : Shared) (H : Hp) (vs : List V) (Q : VK) (E : XK), fd.code = cdv → A.guards = some [] → Room k (A.deeper (envOfC qual (defScope st) s.heap.objs.size f cdv)) → sp vs H Q E →
      PSs (cxOf CX0 P w K mg base N qual (defScope st) f cdv A outer s H E).nox (defBody st) (fun D σ H' => σ = start N vs ∧ H' = H ∧ D.rt = Q ∧ D.nx = fun _ H' => Q .non H')) : FnG P w K mg base (k + 1) f fd ps sp := by
  obtain ⟨oc, od, kV, doc, pm, an, cdv, ct, osl, rfl, lk, hcd⟩ := F.ex
  refine ⟨len, fun A outer s H args us vs Q E hgu hr e0 hb r hsp => ?_⟩
  have hl := len _ _ _ _ hsp
  have KX : K.In s.heap := e0.mod.kin.keeps fun b o e => (e0.bs b o e).1
  have lim : s.heap.NoLimit := e0.mod.nolimit.keeps fun b o e => (e0.bs b o e).1
  refine codeAny_call_function hr.depth (KX _ _ lk) rfl S.co S.gen rfl (PySem.W.codeRec_of KX hcd) (hb _ _ _ _ ?_)
  refine wpAny_newFunctionEnv_cells S.kind (fun ⟨n, v⟩ hy => ?_) fun env he s1 xx => ?_
  · exact (S.par n (List.of_mem_zip hy).1).imp id fun q => ⟨q, PySem.W.cellsFrom_some _ _ _ (.inl q)⟩
  subst he
  refine ⟨lim.keeps xx.toInCall.keep, codeAny_func ?_⟩
  have ht := (hbody cdv A outer s H vs Q E rfl hgu (hr.deeper _) hsp).nox
  have I : Inv (cxOf CX0 P w K mg base N qual (defScope st) f cdv A outer s H E) [] (start N vs) H s1 := inv_start S hr.hd e0 hl r xx
  refine wpAny_mono (ht.run [] s1 (start N vs) H { nx := fun _ H' => Q .non H', rt := Q } I ⟨rfl, rfl, rfl, rfl⟩) (fun fl s' hs => ?_) fun e s' hs => hs
  match fl, hs with
  | .ret u, ⟨v, σ', H', J, rv, q⟩ => exact ⟨v, H', J.os, J.bare, J.base, J.hok, rv, q⟩
  | .next, ⟨σ', H', J, q⟩ => exact ⟨V.non, H', J.os, J.bare, J.base, J.hok, rfl, q⟩
  | .brk, ⟨_, _, _, q⟩ => exact False.elim q
  | .cont, ⟨_, _, _, q⟩ => exact False.elim q
end Ev

namespace Ev
open PySem PySem.Spec PyProof.Rows L2
/-! ### the law's own call -/
theorem lawG {P : Program} {w : World} {K : PySem.W.Frag} {mg mb : Str → Option Value} {k : Nat} {fa a : Addr} {fd : FuncData} {x : Str} {sp : Sp} {s₁ : Shared} {vs : List Value} {ns : List Int}
    (KX : K.In s₁.heap) (hns : s₁.heap.Ns mainGlobals mg) (hb : s₁.heap.Ns builtinsNs mb) (hbb : ∀ x : Str, x ≠ "__name__" → mb x = bootBuiltins x) (hlim : s₁.heap.NoLimit) (hg : s₁.gens = #[])
    (ha : s₁.heap.get? a = some { cls := .type "list", data := .seq vs.toArray }) (hi : IntsAre vs ns) (hl : ns.length ≤ sizeLine) (hr : Room k callerA)
    (F : ∀ base : Heap, K.In base → base.Ns mainGlobals mg → FnG P w K mg base k fa fd [x] sp) (hbind : ∀ (s : Shared) (u : Value), BindsTo s fd ⟨[u], []⟩ [(x, u)])
    (hK : K.lookup a = none)
    (hsp : ∀ H : Hp, (∀ b u, H b = some u → b = a ∧ ∃ o, u = .frz o (.lst (ns.map V.int))) → Rd H a (.lst (ns.map V.int)) → sp [.ref a] H (fun v _ => v = .bl true) E0) :
    codeAny (model P w) callerA (.call (.ref fa) ⟨[.ref a], []⟩) (fun r s' => r = .ok (.ret (.bool true)) ∧ OldK s₁.heap s'.heap ∧ s'.os = s₁.os ∧ AllBare s'.gens) s₁ := by
  obtain ⟨G, hG⟩ : ∃ G : HO, G = .frz { cls := .type "list", data := .seq vs.toArray } (.lst (ns.map V.int)) := ⟨_, rfl⟩
  obtain ⟨H, hH⟩ : ∃ H : Hp, H = upd (fun _ => none) a G := ⟨_, rfl⟩
  have hHa : H a = some G := by rw [hH, upd_same]
  have hHb : ∀ b, b ≠ a → H b = none := fun b e => by rw [hH, upd_ne e]
  have hok : HOk P w H s₁.heap := fun b u e => by
    have hba : b = a := Classical.byContradiction fun z => by rw [hHb b z] at e; cases e
    subst hba
    rw [hHa, hG] at e
    cases e
    exact ⟨ha, by rw [List.length_map]; exact hl, vs, _, vals_ints hi, ha⟩
  have lend : ∀ {b : Addr} {o : Obj} {es : Array DictEntry} {ep : Nat}, s₁.heap.get? b = some o → o.data = .dict es ep → H b = none := fun {b o es ep} e d => by
    refine hHb b fun z => ?_
    rw [z, ha] at e
    cases e
    cases (show Data.seq vs.toArray _ = Data.dict es ep from d)
  have nsK : ∀ {b : Addr} {m : Str → Option Value}, s₁.heap.Ns b m → (hidT s₁.heap H).Ns b m := fun {b m} ⟨o, es, ep, e, d, r⟩ => ⟨o, es, ep, hidT_get e (lend e d), d, r⟩
  have hKb : K.In (hidT s₁.heap H) := fun b o e => hidT_get (KX b o e) (hHb b fun z => by rw [z, hK] at e; cases e)
  have hM : Mod K mg (hidT s₁.heap H) := ⟨hKb, nsK hns, ⟨mb, nsK hb, hbb⟩, let ⟨mc, h1, h2⟩ := hlim; ⟨mc, nsK h1, h2⟩⟩
  have e0 : Env0 P w K mg (hidT s₁.heap H) callerA [] s₁ H :=
    { frames := rfl, mod := hM, bs := fun b o e => of_hidT e, bsz := Nat.le_of_eq (hidT_size _ _), funs := trivial, frf := (fun b hb => by simp [frs] at hb), hok := hok, bare := .of_eq hg }
  have hrd : Rd H a (.lst (ns.map V.int)) := .inr ⟨_, by rw [hHa, hG]⟩
  have hall : ∀ b u, H b = some u → b = a ∧ ∃ o, u = .frz o (.lst (ns.map V.int)) := fun b u e => by
    have hba : b = a := Classical.byContradiction fun z => by rw [hHb b z] at e; cases e
    subst hba
    rw [hHa, hG] at e
    cases e
    exact ⟨rfl, _, rfl⟩
  refine codeAny_mono ((F _ hKb (nsK hns)).run callerA [] s₁ H ⟨[.ref a], []⟩ [.ref a] [.ref a] _ _ rfl hr e0 (hbind s₁ (.ref a)) (.cons rfl .nil) (hsp H hall hrd)) fun r s' h => ?_
  match r, h with
  | .error e, h => exact False.elim h
  | .ok (.ret u), ⟨v, H', os, bare, un, hok', r', q⟩ =>
    obtain rfl : v = .bl true := q
    obtain rfl : u = Value.bool true := r'
    refine ⟨rfl, OldK.of_keep fun b o e => ?_, os, bare⟩
    by_cases z : b = a
    · subst z
      rw [ha] at e
      cases e
      have z2 := un.frzs b _ _ (hHa.trans (by rw [hG]))
      exact (hok' b _ z2).1
    · exact un.keep b o e (hHb b z) (by simp [frs]) (by simp)
/-- without what stands at a -/
def dropK (a : Addr) (K : PySem.W.Frag) : PySem.W.Frag := K.filter fun p => !(p.1 == a)
theorem dropK_lookup {a b : Addr} : ∀ {K : PySem.W.Frag}, b ≠ a → (dropK a K).lookup b = K.lookup b
  | [], _ => rfl
  | (c, o) :: K, h => by
    have ih := dropK_lookup (K := K) h
    unfold dropK at ih ⊢
    by_cases hc : c = a
    · subst hc
      rw [List.filter_cons_of_neg (by simp), ih, List.lookup_cons]
      have : (b == c) = false := by simpa using h
      rw [this]
    · rw [List.filter_cons_of_pos (by simpa using hc), List.lookup_cons, List.lookup_cons, ih]
theorem dropK_self {a : Addr} : ∀ {K : PySem.W.Frag}, (dropK a K).lookup a = none
  | [] => rfl
  | (c, o) :: K => by
    have ih := dropK_self (a := a) (K := K)
    unfold dropK at ih ⊢
    by_cases hc : c = a
    · subst hc
      rw [List.filter_cons_of_neg (by simp)]
      exact ih
    · rw [List.filter_cons_of_pos (by simpa using hc), List.lookup_cons]
      have : (a == c) = false := by simpa using fun e => hc e.symm
      rw [this]
      exact ih
theorem dropK_in {a : Addr} {K : PySem.W.Frag} {h : Heap} (X : K.In h) : (dropK a K).In h := fun b o e => by
  by_cases hb : b = a
  · subst hb
    rw [dropK_self] at e
    cases e
  · rw [dropK_lookup hb] at e
    exact X b o e
/-- the goal that the head leaves -/
theorem walkG {l : PySem.W.OpenLaw} {n k : Nat} {q : Program} {loose : List Str} {XP : (Str → Option Value) → Heap → Prop} {YP : World → Heap → Prop} {d : DefRec} {K : Params → PySem.W.Frag} {sp : PySem.W.Frag → Sp} {x : Str}
    (hn : l.most = some n) (hn2 : n ≤ sizeLine) (hdf : d.params.defaults = []) (hr : Room k callerA)
    (hY : ∀ (w : World) (h : Heap), YP w h → (K w.params).In h)
    (F : ∀ (w : World) (mg : Str → Option Value) (fa : Addr) (h : Heap), (K w.params).In h → h.Ns mainGlobals mg → mg d.name = some (.ref fa) → ∀ (a : Addr) (vs : Array Value), h.get? a = some { cls := .type "list", data := .seq vs } →
      ∃ fd : FuncData, (∀ (s : Shared) (u : Value), BindsTo s fd ⟨[u], []⟩ [(x, u)]) ∧
        ∀ base : Heap, FnG l.prog w (dropK a (K w.params)) mg base k fa fd [x] (sp (dropK a (K w.params))))
    (hsp : ∀ (K' : PySem.W.Frag) (H : Hp) (a : Addr) (ns : List Int), ns.length ≤ n → (∀ k ∈ ns, Builtin.Int.intBits k ≤ 1048576) → (∀ b u, H b = some u → b = a ∧ ∃ o, u = .frz o (.lst (ns.map V.int))) → Rd H a (.lst (ns.map V.int)) → sp K' [.ref a] H (fun v _ => v = .bl true) E0) :
    PySem.W.WalkO q loose XP YP l.row.toRowW d [] (fun f vs => PySem.call f vs) := by
  refine Att.attach_callB hn hdf fun w s₀ s₁ mg mb fa o pm cd doc a vs ns G Y ho hd hcd hmg hobj hints hlen hbits hg => ?_
  have KX := hY w _ Y
  obtain ⟨fd, hb, hF⟩ := F w mg fa _ KX G.T.g hmg a _ hobj
  exact lawG (dropK_in (a := a) KX) G.T.g G.T.b G.T.builtins G.T.nolimit hg hobj hints (Nat.le_trans hlen hn2) hr (fun base _ _ => hF base) hb dropK_self fun H h1 h2 => hsp _ H a ns hlen hbits h1 h2
end Ev

set_option maxHeartbeats 2000000
namespace Ev
open PySem PySem.Spec PyProof.Rows L2

/-! ### weakest readings -/
def WE (X : Cx) (e : Expr) : TE := fun σ H Q => ∀ (pins : List (Addr × Obj)) (s : Shared), Inv X pins σ H s → wpAny (model X.prog X.w) X.A (eval e X.env) (EP X pins σ Q) X.xe s
def WT (X : Cx) (e : Expr) : TT := fun σ H Q => ∀ (pins : List (Addr × Obj)) (s : Shared), Inv X pins σ H s → wpAny (model X.prog X.w) X.A (isTrue e X.env (eval e X.env)) (TP X pins σ Q) X.xe s
def WA (X : Cx) (es : List Expr) : TA := fun σ H Q => ∀ (pos : Pos) (pins : List (Addr × Obj)) (s : Shared), Inv X pins σ H s → wpAny (model X.prog X.w) X.A (spliced (backTo pos (starEach es X.env))) (AP X pins σ Q) X.xe s
def WS (X : Cx) (st : Stmt) : TS := fun D σ H => ∀ (pins : List (Addr × Obj)) (s : Shared), Inv X pins σ H s → wpAny (model X.prog X.w) X.A (exec st X.env) (SP X pins D) X.xe s
def WSs (X : Cx) (st : List Stmt) : TS := fun D σ H => ∀ (pins : List (Addr × Obj)) (s : Shared), Inv X pins σ H s → wpAny (model X.prog X.w) X.A (execs st X.env) (SP X pins D) X.xe s
def WG (X : Cx) (tg : Expr) : TG := fun v σ H Q => ∀ (pins : List (Addr × Obj)) (s : Shared) (u : Value), Inv X pins σ H s → RelV v u → wpAny (model X.prog X.w) X.A (assign tg X.env u) (fun _ s' => ∃ σ' H', Inv X pins σ' H' s' ∧ Q σ' H') X.xe s
section
variable {X : Cx} {e : Expr} {es : List Expr} {st : Stmt} {sts : List Stmt} {σ : St} {H : Hp}
theorem pe_we (X : Cx) (e : Expr) : PE X e (WE X e) := ⟨fun pins s σ H Q I h => h pins s I⟩
theorem pt_wt (X : Cx) (e : Expr) : PT X e (WT X e) := ⟨fun pins s σ H Q I h => h pins s I⟩
theorem pa_wa (X : Cx) (es : List Expr) : PA X es (WA X es) := ⟨fun pos pins s σ H Q I h => h pos pins s I⟩
theorem ps_ws (X : Cx) (st : Stmt) : PS X st (WS X st) := ⟨fun pins s σ H D I h => h pins s I⟩
theorem pss_wss (X : Cx) (st : List Stmt) : PSs X st (WSs X st) := ⟨fun pins s σ H D I h => h pins s I⟩
theorem pg_wg (X : Cx) (e : Expr) : PG X e (WG X e) := ⟨fun pins s σ H v u Q I r h => h pins s u I r⟩
theorem we_of {t : TE} {Q : VK} (h : PE X e t) (q : t σ H Q) : WE X e σ H Q := fun pins s I => h.run pins s σ H Q I q
theorem wt_of {t : TT} {Q : Bool → Hp → Prop} (h : PT X e t) (q : t σ H Q) : WT X e σ H Q := fun pins s I => h.run pins s σ H Q I q
theorem wa_of {t : TA} {Q : List V → Hp → Prop} (h : PA X es t) (q : t σ H Q) : WA X es σ H Q := fun pos pins s I => h.run pos pins s σ H Q I q
theorem ws_of {t : TS} {D : Ends} (h : PS X st t) (q : t D σ H) : WS X st D σ H := fun pins s I => h.run pins s σ H D I q
theorem wss_of {t : TS} {D : Ends} (h : PSs X sts t) (q : t D σ H) : WSs X sts D σ H := fun pins s I => h.run pins s σ H D I q
theorem wg_of {t : TG} {v : V} {Q : St → Hp → Prop} (h : PG X e t) (q : t v σ H Q) : WG X e v σ H Q := fun pins s u I r => h.run pins s σ H v u Q I r q
theorem WE.mono {Q Q' : VK} (h : WE X e σ H Q) (m : ∀ x H', Q x H' → Q' x H') : WE X e σ H Q' := fun pins s I => thn (h pins s I) fun u s' ⟨v, H', a, b, c⟩ => ⟨v, H', a, b, m _ _ c⟩
theorem WT.mono {Q Q' : Bool → Hp → Prop} (h : WT X e σ H Q) (m : ∀ x H', Q x H' → Q' x H') : WT X e σ H Q' := fun pins s I => thn (h pins s I) fun u s' ⟨H', a, b⟩ => ⟨H', a, m _ _ b⟩
end

/-! ### a value that is read now -/
inductive Vw (K : PySem.W.Frag) (F H : Hp) : V → D → Prop
  | non : Vw K F H .non .none
  | bl (b : Bool) : Vw K F H (.bl b) (.bool b)
  | int (i : Int) : Vw K F H (.int i) (.int i)
  | str (x : Str) : Vw K F H (.str x) (.str x)
  | lst {a : Addr} {xs : List V} {ds : List D} : Rd H a (.lst xs) → RpAll K F xs ds → Vw K F H (.ref a) (.list ds)
  | tup {a : Addr} {xs : List V} {ds : List D} : SqT K F a xs → RpAll K F xs ds → Vw K F H (.ref a) (.tuple ds)
section
variable {K : PySem.W.Frag} {tb : List Addr} {pa : Nat → Addr} {B F F' : Hp} {σ : St} {H H' : Hp} {ρ ρ' : En} {x : V} {op : Op} {d : D} {ds : List D} {i : Nat} {p : Addr}
theorem Vw.of_rp (h : Sm F H) : Rp K F x d → Vw K F H x d
  | .non => .non
  | .bl b => .bl b
  | .int i => .int i
  | .str x => .str x
  | .lst a b => .lst (Rd.mono h a) b
  | .tup a b => .tup a b
theorem Vw.rp (h : Sm F H) : Vw K F H x d → Rp K H x d
  | .non => .non
  | .bl b => .bl b
  | .int i => .int i
  | .str x => .str x
  | .lst a b => .lst a (RpAll.mono h b)
  | .tup a b => .tup (SqT.mono h a) (RpAll.mono h b)
theorem vw_ok (r : Rel K tb pa B F σ H ρ) (h : OpR K B F H σ ρ x op) (e : viewOp ρ op = some d) : Vw K F H x d := by
  cases op with
  | val d' => cases e; exact Vw.of_rp r.wf.fz h
  | new ds =>
    cases e
    obtain ⟨p, vs, rfl, hp, hf, hb, off, dp⟩ := h
    exact .lst (.inl hp) dp
  | slot i =>
    simp only [viewOp] at e
    have h : σ[i]? = some (some x) := h
    split at e
    · rename_i d' hd
      cases e
      obtain ⟨y, a, b⟩ := r.sl i _ hd
      rw [h] at a; cases a
      exact Vw.of_rp r.wf.fz b
    · rename_i mt ds hd
      cases e
      obtain ⟨p, vs, a, m, b, c, e', f⟩ := r.sl i _ hd
      rw [h] at a; cases a
      exact .lst (.inl b) f
    · cases e
theorem Vw.intE {x : V} {i : Int} (h : Vw K F H x (.int i)) : x = .int i := by cases h; rfl
theorem Vw.boolE {x : V} {b : Bool} (h : Vw K F H x (.bool b)) : x = .bl b := by cases h; rfl
theorem Vw.lstE {x : V} (h : Vw K F H x (.list ds)) : ∃ p vs, x = .ref p ∧ Rd H p (.lst vs) ∧ RpAll K F vs ds := by cases h with | lst a b => exact ⟨_, _, rfl, a, b⟩
theorem Vw.tupE {x : V} (h : Vw K F H x (.tuple ds)) : ∃ p vs, x = .ref p ∧ SqT K F p vs ∧ RpAll K F vs ds := by cases h with | tup a b => exact ⟨_, _, rfl, a, b⟩
end

/-! ### what a def promises -/
def SpP (K : PySem.W.Frag) (tb : List Addr) (n : Nat) (f : List D → Option D) : Sp := fun vs H Q _ => vs.length = n ∧ ∃ B F ds r, Wf tb B F H ∧ RpAll K F vs ds ∧ f ds = some r ∧
  ∀ v F' H', Sm F F' → Wf tb B F' H' → Rp K F' v r → Q v H'
def SpW (K : PySem.W.Frag) (tb : List Addr) (n : Nat) (f : List D → List D → Option (D × List D)) : Sp := fun vs H Q _ => vs.length = n ∧ ∃ B F p vr vs0 ds0 ds r es, vs = .ref p :: vr ∧ Wf tb B F H ∧ H p = some (.lst vs0) ∧ F p = none ∧ B p = none ∧
  RpAll K F vs0 ds0 ∧ RpAll K F vr ds ∧ f ds0 ds = some (r, es) ∧ ∀ v F' H' ws, Sm F F' → Wf tb B F' H' → H' p = some (.lst ws) → F' p = none → RpAll K F' ws es → Rp K F' v r → Q v H'
def SpM (K : PySem.W.Frag) (tb : List Addr) (n : Nat) (f : List D → Option (List D)) : Sp := fun vs H Q _ => vs.length = n ∧ ∃ B F ds r, Wf tb B F H ∧ RpAll K F vs ds ∧ f ds = some r ∧
  ∀ p ws F' H', Sm F F' → Wf tb B F' H' → H' p = some (.lst ws) → F' p = none → B p = none → RpAll K F' ws r → Q (.ref p) H'
def SpOf (K : PySem.W.Frag) (tb : List Addr) : FS → Sp
  | .p n f => SpP K tb n f
  | .w n f => SpW K tb n f
  | .m n f => SpM K tb n f
structure Can (P : Program) (w : World) (K : PySem.W.Frag) (mg : Str → Option Value) (base : Heap) (tb : List Addr) (k : Nat) (x : Str) (fs : FS) : Prop where
  ex : (∃ (f : Addr) (fd : FuncData) (ps : List Str), FnG P w K mg base k f fd ps (SpOf K tb fs) ∧ mg x = some (.ref f) ∧ PySem.W.keepIn K (.ref f) = true ∧ Binds K fd ps []) ∨
    ∃ id : String, mg x = some (.builtin id) ∧ (∀ H Q E, ¬ SpOf K tb fs [] H Q E) ∧ ∀ X : Cx, X.K = K → CallR X (.builtin id) fun vs H Q => SpOf K tb fs vs H Q E0
/-- which parameters a call's places and keywords fill -/
def KB (K : PySem.W.Frag) (fd : FuncData) (ps : List Str) (n : Nat) (ks : List Str) (pm : List Nat) : Prop := ∀ (s : Shared) (us ws : List Value), K.In s.heap → us.length = n → ws.length = ks.length → BindsTo s fd ⟨us, ks.zip ws⟩ (ps.zip (permL pm (us ++ ws)))
structure CanK (P : Program) (w : World) (K : PySem.W.Frag) (mg : Str → Option Value) (base : Heap) (tb : List Addr) (k : Nat) (x : Str) (n : Nat) (ks : List Str) (pm : List Nat) (fs : FS) : Prop where
  ex : ∃ (f : Addr) (fd : FuncData) (ps : List Str), FnG P w K mg base k f fd ps (SpOf K tb fs) ∧ mg x = some (.ref f) ∧ PySem.W.keepIn K (.ref f) = true ∧ KB K fd ps n ks pm
/-- the built-in names that the small language knows -/
def bnames : List Str := ["len", "abs", "int", "max", "min", "divmod", "tuple", "list", "sum", "repr", "all", "any", "sorted", "range", "enumerate", "zip", "isinstance", "bool", "str", "dict", "float"]
structure XOk (T : Tb) (tb : List Addr) (k : Nat) (s : Sc) (X : Cx) : Prop where
  fns : ∀ f fs, T.fs f = some fs → Can X.prog X.w X.K X.mg X.base tb k f fs
  kws : ∀ f n ks pm fs, T.ks f n ks = some pm → T.fs f = some fs → CanK X.prog X.w X.K X.mg X.base tb k f n ks pm fs
  gls : ∀ x d, T.gl x = some d → ∃ v u, X.mg x = some u ∧ RelV v u ∧ ∀ F, Rp X.K F v d
  blt : ∀ x ∈ bnames, X.mg x = none
  nm : X.N = s.N
  nd : X.N.Nodup
  sc : X.env.scope = s.sc
  fn : ∀ x, s.fn x = true → X.fn x = true
  calm : X.calm = true
  room8 : Room (if s.gd then k + 8 else k) X.A
  tab : s.gd = true → ∃ c P, X.env.code = .ref c ∧ GxR.TabB X.base X.mg c P ∧ P ∈ tb
  grd : X.A.guards = some []
  own : PassesOwn (model X.prog X.w) X.A X.env X.xe

theorem XOk.room {T : Tb} {tb : List Addr} {k : Nat} {s : Sc} {X : Cx} (o : XOk T tb k s X) : Room k X.A := by
  refine o.room8.mono ?_
  split <;> omega
theorem XOk.room5 {T : Tb} {tb : List Addr} {k : Nat} {s : Sc} {X : Cx} (o : XOk T tb k s X) (h : s.gd = true) : Room (k + 8) X.A := by
  have := o.room8
  rw [h, if_pos rfl] at this
  exact this
/-! ### the judgements -/
section
variable (T : Tb) (tb : List Addr) (X : Cx)
def SE (e : Expr) (ρ : En) (op : Op) (ρ' : En) : Prop := ∀ pa B F σ H, Rel X.K tb pa B F σ H ρ → ∀ Q : VK, (∀ x F' H', Sm F F' → Rel X.K tb pa B F' σ H' ρ' → OpR X.K B F' H' σ ρ' x op → Q x H') → WE X e σ H Q
def ST (e : Expr) (ρ : En) (b : Bool) (ρ' : En) : Prop := ∀ pa B F σ H, Rel X.K tb pa B F σ H ρ → ∀ Q : Bool → Hp → Prop, (∀ F' H', Sm F F' → Rel X.K tb pa B F' σ H' ρ' → Q b H') → WT X e σ H Q
end
/-- values held together -/
def NewIn (B1 : Hp) (x : V) (o : Op) : Prop := ∀ p ds, o = .new ds → x = .ref p → B1 p ≠ none
def OpRs (K : PySem.W.Frag) (tb : List Addr) (pa : Nat → Addr) (F H : Hp) (σ : St) (ρ : En) : Hp → List V → List Op → Prop
  | _, [], [] => True
  | B, x :: xs, o :: os => OpR K B F H σ ρ x o ∧ ∃ B1, Sm B B1 ∧ NewIn B1 x o ∧ Rel K tb pa B1 F σ H ρ ∧ OpRs K tb pa F H σ ρ B1 xs os
  | _, _, _ => False
section
variable {K : PySem.W.Frag} {tb : List Addr} {pa : Nat → Addr} {B B1 F F' : Hp} {σ : St} {H H' : Hp} {ρ ρ' ρ1 : En} {x : V} {o : Op} {os : List Op} {xs : List V} {d : D} {ds : List D} {i : Nat} {p : Addr}
theorem sm_none (h : Sm B B1) (e : B1 p = none) : B p = none := by
  cases q : B p with
  | none => rfl
  | some o => rw [h _ _ q] at e; cases e
theorem OpR.less (h : OpR K B1 F H σ ρ x o) (s : Sm B B1) : OpR K B F H σ ρ x o := by
  cases o with
  | val d => exact h
  | slot i => exact h
  | new ds =>
    obtain ⟨p, vs, a, b, c, e, f⟩ := h
    exact ⟨p, vs, a, b, c, sm_none s e, f⟩
theorem OpR.back (h : OpR K B F H σ ρ x o) (nw : NewIn B1 x o) (sB : Sm B B1) (r1 : Rel K tb pa B1 F σ H ρ) (s : Sm F F') (r' : Rel K tb pa B1 F' σ H' ρ') : OpR K B F' H' σ ρ' x o := by
  cases o with
  | val d => exact Rp.mono s h
  | slot i => exact h
  | new ds =>
    obtain ⟨p, vs, rfl, hp, hf, hb, off, dp⟩ := h
    have n1 := nw p ds rfl rfl
    obtain ⟨u, hu⟩ : ∃ u, B1 p = some u := by
      cases q : B1 p with
      | none => exact absurd q n1
      | some u => exact ⟨u, rfl⟩
    have e1 := (r1.wf.bg p u hu).1
    rw [hp] at e1; cases e1
    obtain ⟨a, b⟩ := r'.wf.bg p _ hu
    refine ⟨p, vs, rfl, a, b, hb, fun j t e ho z => ?_, RpAll.mono s dp⟩
    have q := r'.sl j t e
    cases t with
    | u => cases ho
    | v d => cases ho
    | o mt ds =>
      obtain ⟨p', vs', a', m, b', c', e', f'⟩ := q
      rw [a'] at z; cases z
      exact n1 e'
theorem OpR.hold1 (r : Rel K tb pa B F σ H ρ) (h : OpR K B F H σ ρ x o) : ∃ B1, Sm B B1 ∧ NewIn B1 x o ∧ Rel K tb pa B1 F σ H ρ := by
  cases o with
  | val d => exact ⟨B, Sm.refl _, (fun p ds e _ => by cases e), r⟩
  | slot i => exact ⟨B, Sm.refl _, (fun p ds e _ => by cases e), r⟩
  | new ds =>
    obtain ⟨p, vs, rfl, hp, hf, hb, off, dp⟩ := h
    refine ⟨upd B p (.lst vs), Sm.upd hb, fun q es _ e => ?_, r.more hp (fun ps z => by cases z) hf off⟩
    cases e
    rw [upd_same]; exact fun z => by cases z
/-- .. persist -/
theorem OpRs.hold : ∀ {xs : List V} {os : List Op} {B : Hp}, Rel K tb pa B F σ H ρ → OpRs K tb pa F H σ ρ B xs os →
    ∃ B2, Sm B B2 ∧ Rel K tb pa B2 F σ H ρ ∧ ∀ F' H' ρ', Sm F F' → Rel K tb pa B2 F' σ H' ρ' → Rel K tb pa B F' σ H' ρ' ∧ OpRs K tb pa F' H' σ ρ' B xs os
  | [], [], B, r, _ => ⟨B, Sm.refl _, r, fun F' H' ρ' _ r' => ⟨r', trivial⟩⟩
  | x :: xs, o :: os, B, r, ⟨h, B1, s1, n1, r1, hs⟩ => by
    obtain ⟨B2, s2, r2, back⟩ := OpRs.hold r1 hs
    refine ⟨B2, s1.trans s2, r2, fun F' H' ρ' s r' => ?_⟩
    obtain ⟨a, b⟩ := back F' H' ρ' s r'
    exact ⟨a.less s1, h.back n1 s1 r1 s a, B1, s1, n1, a, b⟩
  | [], _ :: _, _, _, h => h.elim
  | _ :: _, [], _, _, h => h.elim
theorem OpRs.length : ∀ {xs : List V} {os : List Op} {B : Hp}, OpRs K tb pa F H σ ρ B xs os → xs.length = os.length
  | [], [], _, _ => rfl
  | x :: xs, o :: os, _, ⟨_, B1, _, _, _, hs⟩ => by rw [List.length_cons, List.length_cons, OpRs.length hs]
  | [], _ :: _, _, h => h.elim
  | _ :: _, [], _, h => h.elim
inductive VwAll (K : PySem.W.Frag) (F H : Hp) : List V → List D → Prop
  | nil : VwAll K F H [] []
  | cons {v : V} {vs : List V} {d : D} {ds : List D} : Vw K F H v d → VwAll K F H vs ds → VwAll K F H (v :: vs) (d :: ds)
theorem viewL_ok : ∀ {xs : List V} {os : List Op} {ds : List D} {B : Hp}, Rel K tb pa B F σ H ρ → OpRs K tb pa F H σ ρ B xs os → viewL ρ os = some ds → VwAll K F H xs ds
  | [], [], ds, B, r, _, e => by cases e; exact .nil
  | x :: xs, o :: os, ds, B, r, ⟨h, B1, s1, n1, r1, hs⟩, e => by
    simp only [viewL, Option.bind_eq_some_iff, Option.map_eq_some_iff] at e
    obtain ⟨d, e1, ds', e2, rfl⟩ := e
    exact .cons (vw_ok r h e1) (viewL_ok r1 hs e2)
  | [], _ :: _, _, _, _, h, _ => h.elim
  | _ :: _, [], _, _, _, h, _ => h.elim
theorem keepL_ok : ∀ {xs : List V} {os : List Op} {ds : List D} {B : Hp} {ρ' : En}, Rel K tb pa B F σ H ρ → OpRs K tb pa F H σ ρ B xs os → keepL ρ os = some (ds, ρ') → ∃ F', Sm F F' ∧ Rel K tb pa B F' σ H ρ' ∧ RpAll K F' xs ds
  | [], [], ds, B, ρ', r, _, e => by cases e; exact ⟨F, Sm.refl _, r, .nil⟩
  | x :: xs, o :: os, ds, B, ρ', r, ⟨h, B1, s1, n1, r1, hs⟩, e => by
    simp only [keepL, Option.bind_eq_some_iff, Option.map_eq_some_iff] at e
    obtain ⟨⟨ds', ρ1⟩, e1, ⟨d, ρ2⟩, e2, e3⟩ := e
    cases e3
    obtain ⟨F1, sF, rF, dp⟩ := keepL_ok r1 hs e1
    obtain ⟨F2, sF2, rF2, dp2⟩ := keep_ok (rF.less s1) (h.back n1 s1 r1 sF rF) e2
    exact ⟨F2, sF.trans sF2, rF2, .cons dp2 (RpAll.mono sF2 dp)⟩
  | [], _ :: _, _, _, _, _, h, _ => h.elim
  | _ :: _, [], _, _, _, _, h, _ => h.elim

/-! ### all own slots go behind -/
open Classical in
noncomputable def bgAll (B : Hp) (σ : St) (H : Hp) (ρ : En) (P : Nat → Prop) : Hp := fun q => if (∃ (j : Nat) (s : Sl), P j ∧ ρ[j]? = some s ∧ s.own = true ∧ σ[j]? = some (some (.ref q))) then H q else B q
theorem bgAll_sm (r : Rel K tb pa B F σ H ρ) (P : Nat → Prop) : Sm B (bgAll B σ H ρ P) := fun q o e => by
  unfold bgAll
  rw [if_neg]
  · exact e
  · rintro ⟨j, s, _, h1, h2, h3⟩
    have z := r.sl j s h1
    cases s with
    | u => cases h2
    | v d => cases h2
    | o mt ds =>
      obtain ⟨p', vs', a', m, b', c', e', f'⟩ := z
      rw [a'] at h3; cases h3
      rw [e] at e'; cases e'
theorem bgAll_at (r : Rel K tb pa B F σ H ρ) {P : Nat → Prop} {j : Nat} {s : Sl} (hP : P j) (h : ρ[j]? = some s) (ho : s.own = true) (hσ : σ[j]? = some (some (.ref p))) : bgAll B σ H ρ P p = H p := by
  unfold bgAll
  rw [if_pos ⟨j, s, hP, h, ho, hσ⟩]
theorem bgAll_wf (r : Rel K tb pa B F σ H ρ) (P : Nat → Prop) : Wf tb (bgAll B σ H ρ P) F H := by
  refine ⟨r.wf.fz, fun q o e => ?_, fun Q hQ => ?_⟩
  · unfold bgAll at e
    split at e
    · rename_i hx
      obtain ⟨j, s, _, h1, h2, h3⟩ := hx
      have z := r.sl j s h1
      cases s with
      | u => cases h2
      | v d => cases h2
      | o mt ds =>
        obtain ⟨p', vs', a', m, b', c', e', f'⟩ := z
        rw [a'] at h3; cases h3
        exact ⟨e, c'⟩
    · exact r.wf.bg q o e
  · obtain ⟨t, b, c⟩ := r.wf.tabs Q hQ
    refine ⟨t, b, ?_⟩
    unfold bgAll
    rw [if_neg]
    · exact c
    · rintro ⟨j, s, _, h1, h2, h3⟩
      have z := r.sl j s h1
      cases s with
      | u => cases h2
      | v d => cases h2
      | o mt ds =>
        obtain ⟨p', vs', a', m, b', c', e', f'⟩ := z
        rw [a'] at h3; cases h3
        obtain ⟨ps, e2, _⟩ := t
        rw [e2] at b'; cases b'
/-- what is lent: still while the callee runs -/
theorem lend1 (r : Rel K tb pa B F σ H ρ) (h : OpR K B F H σ ρ x o) (e : viewOp ρ o = some d) : ∃ F', Sm F F' ∧ (∃ ρ', Rel K tb pa B F' σ H ρ' ∧ ρ'.length = ρ.length ∧ (∀ (j : Nat) (s : Sl), ρ[j]? = some s → s.own = true → ρ'[j]? = some s ∨ ∃ p o, σ[j]? = some (some (.ref p)) ∧ F' p = some o ∧ H p = some o)) ∧ Rp K F' x d := by
  cases o with
  | val d' => cases e; exact ⟨F, Sm.refl _, ⟨ρ, r, rfl, fun j s h _ => .inl h⟩, h⟩
  | new ds =>
    cases e
    obtain ⟨p, vs, rfl, hp, hf, hb, off, dp⟩ := h
    exact ⟨upd F p (.lst vs), Sm.upd hf, ⟨ρ, r.freeze hp (fun ps z => by cases z) hf hb off, rfl, fun j s h _ => .inl h⟩, .lst (.inl upd_same) (RpAll.mono (Sm.upd hf) dp)⟩
  | slot i =>
    simp only [viewOp] at e
    have h : σ[i]? = some (some x) := h
    split at e
    · rename_i d' hd
      cases e
      obtain ⟨y, a, b⟩ := r.sl i _ hd
      rw [h] at a; cases a
      exact ⟨F, Sm.refl _, ⟨ρ, r, rfl, fun j s h _ => .inl h⟩, b⟩
    · rename_i mt ds hd
      cases e
      obtain ⟨p, vs, a, m, b, c, e', f⟩ := r.sl i _ hd
      rw [h] at a; cases a
      have dq : Rp K (upd F p (.lst vs)) (.ref p) (.list ds) := .lst (.inl upd_same) (RpAll.mono (Sm.upd c) f)
      refine ⟨upd F p (.lst vs), Sm.upd c, ⟨ρ.set i (.v (.list ds)), ⟨r.wf.freeze b (fun ps z => by cases z) e', by rw [List.length_set]; exact r.len, fun j t ht => ?_, fun j k s t hjk hs ht os ot => ?_⟩, by rw [List.length_set], fun j s hj hs => ?_⟩, dq⟩
      · rcases set_get_cases ht with ⟨rfl, rfl⟩ | ⟨hj, ht⟩
        · exact ⟨_, h, dq⟩
        · refine (r.sl j t ht).same (Sm.upd c) fun q w z => ⟨fun u z => z, fun y => ?_⟩
          rw [upd_ne]; exact y
          rintro rfl
          exact r.ne j i t _ hj ht hd w rfl (z.trans h.symm)
      · rcases set_get_cases hs with ⟨rfl, rfl⟩ | ⟨hj, hs⟩
        · cases os
        · rcases set_get_cases ht with ⟨rfl, rfl⟩ | ⟨hk, ht⟩
          · cases ot
          · exact r.ne j k s t hjk hs ht os ot
      · by_cases z : j = i
        · subst z
          exact .inr ⟨p, .lst vs, h, upd_same, b⟩
        · exact .inl (by rw [List.getElem?_set_ne (Ne.symm z)]; exact hj)
    · cases e
end
end Ev

set_option maxHeartbeats 2000000
namespace Ev
open PySem PySem.Spec PyProof.Rows L2

section
variable {K : PySem.W.Frag} {tb : List Addr} {pa : Nat → Addr} {B B1 F F' : Hp} {σ : St} {H H' : Hp} {ρ ρ' ρ1 : En} {x : V} {o : Op} {os : List Op} {xs : List V} {d : D} {ds : List D} {i : Nat} {p : Addr}
theorem view_frozen {ρ : En} {i : Nat} {mt : Bool} {ds : List D} (h : ρ[i]? = some (.o mt ds)) (o : Op) : viewOp (ρ.set i (.v (.list ds))) o = viewOp ρ o := by
  cases o with
  | val d => rfl
  | new ds => rfl
  | slot j =>
    simp only [viewOp]
    by_cases e : j = i
    · subst e
      have hl : j < ρ.length := (List.getElem?_eq_some_iff.mp h).1
      rw [List.getElem?_set_self hl, h]
    · rw [List.getElem?_set_ne (Ne.symm e)]
/-- what is lent: still while the callee runs -/
def Lent (σ : St) (F' H : Hp) (ρ ρ' : En) : Prop := (∀ (j : Nat) (s : Sl), ρ[j]? = some s → s.own = true → ρ'[j]? = some s ∨ ∃ p o, σ[j]? = some (some (.ref p)) ∧ F' p = some o ∧ H p = some o) ∧ ∀ o, viewOp ρ' o = viewOp ρ o
theorem lend_one (r : Rel K tb pa B F σ H ρ) (h : OpR K B F H σ ρ x o) (e : viewOp ρ o = some d) : ∃ F' ρ', Sm F F' ∧ Rel K tb pa B F' σ H ρ' ∧ Lent σ F' H ρ ρ' ∧ Rp K F' x d := by
  cases o with
  | val d' => cases e; exact ⟨F, ρ, Sm.refl _, r, ⟨fun j s h _ => .inl h, fun o => rfl⟩, h⟩
  | new ds =>
    cases e
    obtain ⟨p, vs, rfl, hp, hf, hb, off, dp⟩ := h
    exact ⟨upd F p (.lst vs), ρ, Sm.upd hf, r.freeze hp (fun ps z => by cases z) hf hb off, ⟨fun j s h _ => .inl h, fun o => rfl⟩, .lst (.inl upd_same) (RpAll.mono (Sm.upd hf) dp)⟩
  | slot i =>
    simp only [viewOp] at e
    have h : σ[i]? = some (some x) := h
    split at e
    · rename_i d' hd
      cases e
      obtain ⟨y, a, b⟩ := r.sl i _ hd
      rw [h] at a; cases a
      exact ⟨F, ρ, Sm.refl _, r, ⟨fun j s h _ => .inl h, fun o => rfl⟩, b⟩
    · rename_i mt ds hd
      cases e
      obtain ⟨p, vs, a, m, b, c, e', f⟩ := r.sl i _ hd
      rw [h] at a; cases a
      have dq : Rp K (upd F p (.lst vs)) (.ref p) (.list ds) := .lst (.inl upd_same) (RpAll.mono (Sm.upd c) f)
      refine ⟨upd F p (.lst vs), ρ.set i (.v (.list ds)), Sm.upd c, ⟨r.wf.freeze b (fun ps z => by cases z) e', by rw [List.length_set]; exact r.len, fun j t ht => ?_, fun j k s t hjk hs ht os ot => ?_⟩, ⟨fun j s hj hs => ?_, view_frozen hd⟩, dq⟩
      · rcases set_get_cases ht with ⟨rfl, rfl⟩ | ⟨hj, ht⟩
        · exact ⟨_, h, dq⟩
        · refine (r.sl j t ht).same (Sm.upd c) fun q w z => ⟨fun u z => z, fun y => ?_⟩
          rw [upd_ne]; exact y
          rintro rfl
          exact r.ne j i t _ hj ht hd w rfl (z.trans h.symm)
      · rcases set_get_cases hs with ⟨rfl, rfl⟩ | ⟨hj, hs⟩
        · cases os
        · rcases set_get_cases ht with ⟨rfl, rfl⟩ | ⟨hk, ht⟩
          · cases ot
          · exact r.ne j k s t hjk hs ht os ot
      · by_cases z : j = i
        · subst z
          exact .inr ⟨p, .lst vs, h, upd_same, b⟩
        · exact .inl (by rw [List.getElem?_set_ne (Ne.symm z)]; exact hj)
    · cases e
theorem lend_all : ∀ {xs : List V} {os : List Op} {ds : List D} {B : Hp}, Rel K tb pa B F σ H ρ → OpRs K tb pa F H σ ρ B xs os → viewL ρ os = some ds → ∃ F' ρ', Sm F F' ∧ Rel K tb pa B F' σ H ρ' ∧ Lent σ F' H ρ ρ' ∧ RpAll K F' xs ds
  | [], [], ds, B, r, _, e => by cases e; exact ⟨F, ρ, Sm.refl _, r, ⟨fun j s h _ => .inl h, fun o => rfl⟩, .nil⟩
  | x :: xs, o :: os, ds, B, r, ⟨h, B1, s1, n1, r1, hs⟩, e => by
    simp only [viewL, Option.bind_eq_some_iff, Option.map_eq_some_iff] at e
    obtain ⟨d, e1, ds', e2, rfl⟩ := e
    obtain ⟨F1, ρ1, sF, rF, ⟨l1, l2⟩, dp⟩ := lend_all r1 hs e2
    have e1' : viewOp ρ1 o = some d := by rw [l2]; exact e1
    obtain ⟨F2, ρ2, sF2, rF2, ⟨m1, m2⟩, dp2⟩ := lend_one (rF.less s1) (h.back n1 s1 r1 sF rF) e1'
    refine ⟨F2, ρ2, sF.trans sF2, rF2, ⟨fun j s hj hs => ?_, fun o => (m2 o).trans (l2 o)⟩, .cons dp2 (RpAll.mono sF2 dp)⟩
    rcases l1 j s hj hs with z | ⟨p, ob, a, b, c⟩
    · rcases m1 j s z hs with z | z
      · exact .inl z
      · exact .inr z
    · exact .inr ⟨p, ob, a, sF2 _ _ b, c⟩
  | [], _ :: _, _, _, _, h, _ => h.elim
  | _ :: _, [], _, _, _, h, _ => h.elim
end

/-! ### argument lists -/
def noStar : Expr → Bool
  | .Starred .. => false
  | _ => true
theorem noStar_eq {e : Expr} (h : noStar e = true) (es : List Expr) (env : Env) : starEach (e :: es) env = (false, eval e env) :: starEach es env := by
  cases e <;> first | rfl | cases h
theorem noStar_any : ∀ {es : List Expr} (env : Env) (pos : Pos), (∀ e ∈ es, noStar e = true) → (backTo pos (starEach es env)).any (·.1) = false
  | [], _, _, _ => rfl
  | e :: es, env, pos, h => by
    rw [noStar_eq (h e List.mem_cons_self)]
    have ih := noStar_any env pos fun e' he => h e' (List.mem_cons_of_mem _ he)
    unfold backTo at ih ⊢
    rw [List.map_cons, List.any_cons, ih]
    rfl
theorem chE_ns {s : Sc} {ir : IE} {e : Expr} (h : chE s ir e = true) : noStar e = true := by
  cases e <;> first | rfl | (cases ir <;> simp [chE] at h)
theorem chEs_ns {s : Sc} : ∀ {irs : IEs} {es : List Expr}, chEs s irs es = true → ∀ e ∈ es, noStar e = true
  | .nil, [], _, e, he => by simp at he
  | .nil, _ :: _, h, _, _ => by simp [chEs] at h
  | .cons ir irs, [], h, _, _ => by simp [chEs] at h
  | .cons ir irs, e' :: es, h, e, he => by
    simp only [chEs, Bool.and_eq_true] at h
    rcases List.mem_cons.mp he with rfl | he
    · exact chE_ns h.1
    · exact chEs_ns h.2 e he

section
variable {T : Tb} {tb : List Addr} {k : Nat} {s : Sc} {X : Cx} {a b c e : Expr} {es : List Expr} {ρ ρ1 ρ2 ρ3 : En} {oa ob oc : Op} {pa : Nat → Addr} {B F H : Hp} {σ : St}
def SA (tb : List Addr) (X : Cx) (es : List Expr) (ρ : En) (ops : List Op) (ρ' : En) : Prop := ∀ pa B F σ H, Rel X.K tb pa B F σ H ρ → ∀ Q : List V → Hp → Prop, (∀ xs F' H', Sm F F' → Rel X.K tb pa B F' σ H' ρ' → OpRs X.K tb pa F' H' σ ρ' B xs ops → Q xs H') → WA X es σ H Q
theorem sa_nil : SA tb X [] ρ [] ρ := fun pa B F σ H r Q h => wa_of pa_nil (h [] F H (Sm.refl _) r trivial)
theorem sa_cons {ops : List Op} (hn : noStar e = true) (ha : SE tb X e ρ oa ρ1) (hb : SA tb X es ρ1 ops ρ2) : SA tb X (e :: es) ρ (oa :: ops) ρ2 := by
  intro pa B F σ H r Q h
  refine wa_of (pa_cons (pe_we X e) (pa_wa X es) (noStar_eq hn _ _)) ?_
  refine ha pa B F σ H r _ fun x F1 H1 s1 r1 o1 => ?_
  obtain ⟨B1, sB, nB, rB⟩ := OpR.hold1 r1 o1
  refine hb pa B1 F1 σ H1 rB _ fun xs F2 H2 s2 r2 os => ?_
  exact h (x :: xs) F2 H2 (s1.trans s2) (r2.less sB) ⟨o1.back nB sB rB s2 r2, B1, sB, nB, r2, os⟩
/-- two expressions in a row -/
theorem SE.two (ha : SE tb X a ρ oa ρ1) (hb : SE tb X b ρ1 ob ρ2) (r : Rel X.K tb pa B F σ H ρ) {R : V → V → Hp → Prop}
    (h : ∀ x y F' H' B1, Sm F F' → Sm B B1 → Rel X.K tb pa B F' σ H' ρ2 → OpR X.K B F' H' σ ρ2 x oa → NewIn B1 x oa → Rel X.K tb pa B1 F' σ H' ρ2 → OpR X.K B1 F' H' σ ρ2 y ob → R x y H') : WE X a σ H fun x H1 => WE X b σ H1 fun y H2 => R x y H2 := by
  refine ha pa B F σ H r _ fun x F1 H1 s1 r1 o1 => ?_
  obtain ⟨B1, sB, nB, rB⟩ := OpR.hold1 r1 o1
  refine hb pa B1 F1 σ H1 rB _ fun y F2 H2 s2 r2 o2 => ?_
  exact h x y F2 H2 B1 (s1.trans s2) sB (r2.less sB) (o1.back nB sB rB s2 r2) nB r2 o2
theorem SE.two' (ha : SE tb X a ρ oa ρ1) (hb : SE tb X b ρ1 ob ρ2) (r : Rel X.K tb pa B F σ H ρ) {R : V → V → Hp → Prop} {da db : D} (ea : viewOp ρ2 oa = some da) (eb : viewOp ρ2 ob = some db)
    (h : ∀ x y F' H', Sm F F' → Rel X.K tb pa B F' σ H' ρ2 → Vw X.K F' H' x da → Vw X.K F' H' y db → R x y H') : WE X a σ H fun x H1 => WE X b σ H1 fun y H2 => R x y H2 :=
  SE.two ha hb r fun x y F' H' B1 s1 sB r1 o1 nB rB o2 => h x y F' H' s1 r1 (vw_ok r1 o1 ea) (vw_ok rB o2 eb)

/-! ### names, constants -/
theorem visB_ok {sc : Scope} {x : Str} (h : visB sc x = true) : Vis sc x := by
  unfold visB at h
  split at h
  · exact .inl (by assumption)
  · exact .inr (.inl (by assumption))
  · exact .inr (.inr (by assumption))
  · cases h
theorem glB_ok (o : XOk T tb k s X) {x : Str} (h : glB s.sc x = true) : Gl X x := by
  unfold glB at h
  split at h
  · unfold Gl Env.kindOf
    rw [o.sc]; assumption
  · cases h
theorem okN_ok {x : Str} (h : okN x = true) : (x == ("__debug__" : Str)) = false ∧ (x == ("__classdict__" : Str)) = false ∧ x ≠ "__name__" := by
  unfold okN at h
  simp only [Bool.and_eq_true, Bool.not_eq_true'] at h
  refine ⟨h.1.1, h.1.2, fun e => ?_⟩
  rw [e] at h
  exact absurd h.2 (by decide)
theorem se_var (o : XOk T tb k s X) {i : Nat} {x : Str} {pos : Pos} (hN : s.N[i]? = some x) (hv : visB s.sc x = true) (hk : okN x = true) {sl : Sl} (h : ρ[i]? = some sl) (hu : sl ≠ .u) : SE tb X (.Name x pos) ρ (.slot i) ρ := by
  intro pa B F σ H r Q q
  obtain ⟨h1, h2, _⟩ := okN_ok hk
  refine we_of (pe_var (i := i) (by rw [o.nm]; exact hN) (by rw [o.sc]; exact visB_ok hv) h1 h2) ?_
  have z := r.sl i sl h
  cases sl with
  | u => exact absurd rfl hu
  | v d => obtain ⟨y, a, _⟩ := z; exact ⟨y, a, q y F H (Sm.refl _) r a⟩
  | o mt ds => obtain ⟨p, vs, a, _⟩ := z; exact ⟨.ref p, a, q _ F H (Sm.refl _) r a⟩
theorem se_cst {c : Const} {j : Nat} {pos : Pos} {d : D} (h : ofC c = some d) : SE tb X (.Constant c j pos) ρ (.val d) ρ := by
  intro pa B F σ H r Q q
  cases c with
  | none => cases h; exact we_of pe_non (q _ F H (Sm.refl _) r .non)
  | bool b => cases h; exact we_of pe_bl (q _ F H (Sm.refl _) r (.bl b))
  | int i => cases h; exact we_of pe_int (q _ F H (Sm.refl _) r (.int i))
  | str x => cases h; exact we_of pe_str (q _ F H (Sm.refl _) r (.str x))
  | _ => cases h
theorem se_glb (o : XOk T tb k s X) {x : Str} {pos : Pos} {d : D} (hg : glB s.sc x = true) (hk : okN x = true) (h : T.gl x = some d) : SE tb X (.Name x pos) ρ (.val d) ρ := by
  intro pa B F σ H r Q q
  obtain ⟨v, u, a, b, c⟩ := o.gls x d h
  exact we_of (pe_glob (glB_ok o hg) a b (okN_ok hk).1) (q v F H (Sm.refl _) r (c F))

/-! ### operators -/
theorem se_bin {op : Operator} {pos : Pos} {rr : R2} {res : Op} {da db : D} (ho : L2.OpR X (binaryOp op) rr) (ha : SE tb X a ρ oa ρ1) (hb : SE tb X b ρ1 ob ρ2) (ea : viewOp ρ2 oa = some da) (eb : viewOp ρ2 ob = some db)
    (h : ∀ pa B F σ H x y, Rel X.K tb pa B F σ H ρ2 → Vw X.K F H x da → Vw X.K F H y db → ∀ Q : VK, (∀ v F' H', Sm F F' → Rel X.K tb pa B F' σ H' ρ2 → OpR X.K B F' H' σ ρ2 v res → Q v H') → rr x y H Q) : SE tb X (.BinOp a op b pos) ρ res ρ2 := by
  intro pa B F σ H r Q q
  refine we_of (pe_op ho (pe_we X a) (pe_we X b)) ?_
  refine SE.two' ha hb r ea eb fun x y F' H' s1 r1 v1 v2 => ?_
  exact h pa B F' σ H' x y r1 v1 v2 Q fun v F2 H2 s2 r2 o2 => q v F2 H2 (s1.trans s2) r2 o2
theorem op_ints {op : Operator} {i j m : Int} (h : binI op i j = some m) : ∃ rr, L2.OpR X (binaryOp op) rr ∧ ∀ H (Q : VK), Q (.int m) H → rr (.int i) (.int j) H Q := by
  cases op with
  | Add => cases h; exact ⟨_, op_add, fun H Q q => ⟨i, j, rfl, rfl, q⟩⟩
  | Sub => cases h; exact ⟨_, op_sub, fun H Q q => ⟨i, j, rfl, rfl, q⟩⟩
  | Mult =>
    simp only [binI] at h
    split at h
    · rename_i hm
      cases h
      unfold mulOk at hm
      simp only [Bool.or_eq_true, decide_eq_true_eq] at hm
      rcases hm with z | z | z
      · exact ⟨_, op_mul, fun H Q q => ⟨i, j, rfl, rfl, .inl z, q⟩⟩
      · exact ⟨_, op_mul, fun H Q q => ⟨i, j, rfl, rfl, .inr z, q⟩⟩
      · exact ⟨_, op_mulW, fun H Q q => ⟨i, j, rfl, rfl, z, q⟩⟩
    · cases h
  | FloorDiv =>
    simp only [binI] at h
    split at h
    · rename_i hm
      cases h
      unfold divOk at hm
      have hm : 0 < j ∧ j.natAbs.log2 < 9000 := of_decide_eq_true hm
      exact ⟨_, op_fdivW, fun H Q q => ⟨i, j, rfl, rfl, hm, q⟩⟩
    · cases h
  | Mod =>
    simp only [binI] at h
    split at h
    · rename_i hm
      cases h
      exact ⟨_, op_mod, fun H Q q => ⟨i, j, rfl, rfl, of_decide_eq_true hm, q⟩⟩
    · cases h
  | Pow =>
    simp only [binI] at h
    split at h
    · rename_i hm
      cases h
      unfold powOk at hm
      have hm : 0 ≤ j ∧ j ≤ 1000000 ∧ i.natAbs < 2 ^ 64 := of_decide_eq_true hm
      exact ⟨_, op_pow, fun H Q q => ⟨i, j, rfl, rfl, hm, q⟩⟩
    · cases h
  | LShift =>
    simp only [binI] at h
    split at h
    · rename_i hm
      cases h
      unfold powOk at hm
      have hm : 0 ≤ j ∧ j ≤ 1000000 ∧ i.natAbs < 2 ^ 64 := of_decide_eq_true hm
      exact ⟨_, op_shl, fun H Q q => ⟨i, j, rfl, rfl, hm, q⟩⟩
    · cases h
  | RShift =>
    simp only [binI] at h
    split at h
    · rename_i hm
      cases h
      exact ⟨_, op_shr, fun H Q q => ⟨i, j, rfl, rfl, of_decide_eq_true hm, q⟩⟩
    · cases h
  | _ => cases h
end
end Ev

set_option maxHeartbeats 2000000
namespace Ev
open PySem PySem.Spec PyProof.Rows L2

section
variable {X : Cx} {pins : List (Addr × Obj)} {σ : St} {H : Hp} {s : Shared}
theorem lstR (I : Inv X pins σ H s) {l : Addr} {xs : List V} (hH : Rd H l (.lst xs)) : ∃ (its : List Value) (n : Nat), Vals xs its ∧ xs.length = its.length ∧ xs.length ≤ sizeLine ∧ s.heap.get? l = some { cls := .type "list", data := .seq its.toArray n } := by
  obtain ⟨z, its, n, r, e⟩ := hH.ok I.hok
  exact ⟨its, n, r, r.length, z, e⟩
def rCatR : R2 := fun x y H Q => ∃ l b xs zs, x = .ref l ∧ y = .ref b ∧ Rd H l (.lst xs) ∧ Rd H b (.lst zs) ∧ xs.length + zs.length ≤ sizeLine ∧ ∀ p, H p = none → Q (.ref p) (upd H p (.lst (xs ++ zs)))
theorem op_catR : L2.OpR X (binaryOp .Add) rCatR := by
  intro pins s σ H x y v u Q I rx ry h
  obtain ⟨l, b, xs, zs, rfl, rfl, hH, hB, hz, q⟩ := h
  cases rx
  cases ry
  obtain ⟨its, n, r, hl, z, e⟩ := lstR I hH
  obtain ⟨its2, n2, r2, hl2, z2, e2⟩ := lstR I hB
  refine PySem.P.add_list e e2 ?_ (by rw [List.size_toArray, List.size_toArray]; omega)
  have ea : its.toArray ++ its2.toArray = (its ++ its2).toArray := by simp
  rw [ea]
  exact ⟨.ref _, _, I.lnew (t' := s.toks) (r.append r2) (by rw [List.length_append]; omega), rfl, q _ I.fresh⟩
def rRepR : R2 := fun x y H Q => ∃ l k xs, x = .ref l ∧ y = .int k ∧ Rd H l (.lst xs) ∧ -(2 ^ 63) ≤ k ∧ k < 2 ^ 63 ∧ xs.length * k.toNat ≤ sizeLine ∧
  ∀ p, H p = none → Q (.ref p) (upd H p (.lst (List.replicate k.toNat xs).flatten))
theorem op_repR : L2.OpR X (binaryOp .Mult) rRepR := by
  intro pins s σ H x y v u Q I rx ry h
  obtain ⟨l, k, xs, rfl, rfl, hH, h1, h2, hz, q⟩ := h
  cases rx
  obtain ⟨t, rfl⟩ := ry
  obtain ⟨its, n, r, hl, z, e⟩ := lstR I hH
  have hlen : its.toArray.size * k.toNat ≤ sizeLine := by rw [List.size_toArray, ← hl]; exact hz
  have hcap : ¬ its.toArray.size * k.toNat > (2 ^ 63 - 1) / 8 := by
    have : (sizeLine : Nat) ≤ (2 ^ 63 - 1) / 8 := by decide
    omega
  have hfit : ¬ (!Builtin.List.listFitsIndex k) = true := by
    rw [fitsIndex_both h1 h2]
    exact Bool.false_ne_true
  have hlong : ¬ Builtin.List.listTooLong (its.toArray.size * k.toNat) = true := by
    rw [notLongL hlen]
    exact Bool.false_ne_true
  have hnew : List.foldl (fun x1 x2 => x1 ++ x2) #[] (List.replicate (if its.toArray.isEmpty = true then 0 else k.toNat) its.toArray) = (List.replicate k.toNat its).flatten.toArray := by
    have f0 : ∀ m : Nat, List.foldl (fun x1 x2 => x1 ++ x2) #[] (List.replicate m its.toArray) = (List.replicate m its).flatten.toArray := fun m => by
      have := foldl_rep its m []
      rw [List.nil_append] at this
      exact this
    rw [f0]
    cases its with
    | nil => simp
    | cons a r' => rw [if_neg (by simp)]
  refine wpAny_binaryOp_repeat_ref (T := "list") (U := "int") (by decide) ⟨_, e, rfl⟩ (fun s' => typeIs_int s' k t) noFill_list_mul F.fills_int_mul F.slot_int_rmul repeat_list F.slot_int_index.lookup
    (call_meets F.slot_int_rmul (typeIs_int s k t) F.entry_int_rmul (F.args_int_rmul_2 _ _) (int___rmul___int_list k t l its.toArray n)
      ⟨e, rfl, ⟨_, e, rfl⟩, call_meets F.slot_list_mul ⟨_, e, rfl⟩ F.entry_list_mul (F.args_list_mul_2 _ _) (AutoListH.list___mul___list_int_3 l its.toArray n k t hfit hcap hlong) ⟨e, ?_⟩⟩)
  rw [hnew]
  exact ⟨.ref _, _, I.lnew (t' := s.toks) (r.rep k.toNat) (by rw [PyProof.Rows.lm_len_rep_flat, Nat.mul_comm]; exact hz), rfl, q _ I.fresh⟩
/-- xs[i], by values -/
def gGetL (K : PySem.W.Frag) : V → V → Hp → VK → Prop := fun o i H Q => ∃ p xs k j x, o = .ref p ∧ i = .int k ∧ SqL K H p xs ∧ ixN xs.length k = some j ∧ xs[j]? = some x ∧ Q x H
theorem pget_list : PGet X (gGetL X.K) := by
  intro pins s σ H o i ov iv Q I ro ri h
  obtain ⟨p, xs, k, j, x, rfl, rfl, hq, hj, hx, q⟩ := h
  cases ro
  obtain ⟨t, rfl⟩ := ri
  obtain ⟨its, r, pl, hz⟩ := I.list hq
  obtain ⟨h1, h2, h3, h4⟩ := ixN_seq hj
  obtain ⟨w, ew, rw'⟩ := r.get hx
  have hl := r.length
  have hn := line63
  have fin : EP X pins σ Q w s := ⟨x, H, I, rw', q⟩
  by_cases h0 : 0 ≤ k
  · have hk : k.toNat = j := by
      rw [seqIndex_of h0 h4] at h1
      exact Option.some.inj h1
    exact wpAny_getItem_list pl.isList h0 (by omega) (by rw [hk]; simpa using ew) fin
  · have hk : (k + (its.toArray.size : Int)).toNat = j := by
      rw [seqIndex_neg (by omega) h3] at h1
      rw [List.size_toArray, ← hl]
      exact Option.some.inj h1
    exact wpAny_getItem_list_neg pl.isList (by omega) (by rw [List.size_toArray] <;> omega) (by omega) (by rw [hk]; simpa using ew) fin
end

section
variable {T : Tb} {tb : List Addr} {k : Nat} {s : Sc} {X : Cx} {a b c e : Expr} {es : List Expr} {ρ ρ1 ρ2 ρ3 : En} {oa ob oc : Op} {pa : Nat → Addr} {B F H : Hp} {σ : St} {pos : Pos}
/-- a new list -/
theorem new_ok (r : Rel X.K tb pa B F σ H ρ) {vs : List V} {ds : List D} (dp : RpAll X.K F vs ds) {p : Addr} (hp : H p = none) : Rel X.K tb pa B F σ (upd H p (.lst vs)) ρ ∧ OpR X.K B F (upd H p (.lst vs)) σ ρ (.ref p) (.new ds) := by
  obtain ⟨a, b⟩ := r.wf.none hp
  exact ⟨r.laid hp _, p, vs, rfl, upd_same, a, b, r.off_none hp, dp⟩
/-- a new tuple, still -/
theorem newT_ok (r : Rel X.K tb pa B F σ H ρ) {vs : List V} {ds : List D} (dp : RpAll X.K F vs ds) {p : Addr} (hp : H p = none) : ∃ F', Sm F F' ∧ Rel X.K tb pa B F' σ (upd H p (.tup vs)) ρ ∧ Rp X.K F' (.ref p) (.tuple ds) := by
  obtain ⟨a, b⟩ := r.wf.none hp
  refine ⟨upd F p (.tup vs), Sm.upd a, (r.laid hp (.tup vs)).freeze upd_same (fun ps z => by cases z) a b (r.off_none hp), .tup (SqT.of upd_same) (RpAll.mono (Sm.upd a) dp)⟩
theorem se_binD {op : Operator} {da db : D} {res : Op} (ha : SE tb X a ρ oa ρ1) (hb : SE tb X b ρ1 ob ρ2) (ea : viewOp ρ2 oa = some da) (eb : viewOp ρ2 ob = some db) (h : binD op da db = some res) : SE tb X (.BinOp a op b pos) ρ res ρ2 := by
  cases da with
  | int i =>
    cases db with
    | int j =>
      simp only [binD, Option.map_eq_some_iff] at h
      obtain ⟨m, h, rfl⟩ := h
      obtain ⟨rr, ho, hq⟩ := op_ints (X := X) h
      refine se_bin ho ha hb ea eb fun pa B F σ H x y r v1 v2 Q q => ?_
      rw [v1.intE, v2.intE]
      exact hq H Q (q _ F H (Sm.refl _) r (.int m))
    | _ => cases h
  | list xs =>
    cases db with
    | list ys =>
      cases op with
      | Add =>
        simp only [binD] at h
        split at h
        · rename_i hl
          cases h
          refine se_bin op_catR ha hb ea eb fun pa B F σ H x y r v1 v2 Q q => ?_
          obtain ⟨p, vs, rfl, a1, b1⟩ := v1.lstE
          obtain ⟨p2, ws, rfl, a2, b2⟩ := v2.lstE
          refine ⟨p, p2, vs, ws, rfl, rfl, a1, a2, ?_, fun l hl' => ?_⟩
          · rw [RpAll.length b1, RpAll.length b2]; exact of_decide_eq_true hl
          · obtain ⟨r2, o2⟩ := new_ok r (RpAll.append b1 b2) hl'
            exact q _ F _ (Sm.refl _) r2 o2
        · cases h
      | _ => cases h
    | int k =>
      cases op with
      | Mult =>
        simp only [binD] at h
        split at h
        · rename_i hl
          cases h
          simp only [Bool.and_eq_true, decide_eq_true_eq] at hl
          obtain ⟨⟨h1, h2⟩, h3⟩ := hl
          refine se_bin op_repR ha hb ea eb fun pa B F σ H x y r v1 v2 Q q => ?_
          obtain ⟨p, vs, rfl, a1, b1⟩ := v1.lstE
          rw [v2.intE]
          refine ⟨p, k, vs, rfl, rfl, a1, h1, h2, ?_, fun l hl' => ?_⟩
          · rw [RpAll.length b1]; exact of_decide_eq_true h3
          · obtain ⟨r2, o2⟩ := new_ok r (RpAll.rep b1 k.toNat) hl'
            exact q _ F _ (Sm.refl _) r2 o2
        · cases h
      | _ => cases h
    | _ => cases h
  | tuple xs =>
    cases db with
    | tuple ys =>
      cases op with
      | Add =>
        simp only [binD] at h
        split at h
        · rename_i hl
          cases h
          refine se_bin op_catA ha hb ea eb fun pa B F σ H x y r v1 v2 Q q => ?_
          obtain ⟨p, vs, rfl, a1, b1⟩ := v1.tupE
          obtain ⟨p2, ws, rfl, a2, b2⟩ := v2.tupE
          have l1 := RpAll.length b1
          have l2 := RpAll.length b2
          have m := r.wf.fz
          refine ⟨p, p2, vs, ws, rfl, rfl, SqT.mono m a1, SqT.mono m a2, by rw [l1, l2]; exact of_decide_eq_true hl, fun e => ?_, fun e e2 => ?_, fun e e2 l hl' => ?_⟩
          · subst e
            have : xs = [] := by cases b1; rfl
            subst this
            exact q _ F _ (Sm.refl _) r (show Rp X.K F _ _ from .tup a2 b2)
          · subst e2
            have : ys = [] := by cases b2; rfl
            subst this
            rw [List.append_nil] at q
            exact q _ F _ (Sm.refl _) r (show Rp X.K F _ _ from .tup a1 b1)
          · obtain ⟨F', s', r2, o2⟩ := newT_ok r (RpAll.append b1 b2) hl'
            exact q _ F' _ s' r2 o2
        · cases h
      | _ => cases h
    | _ => cases h
  | _ => cases h

/-! ### comparisons -/
theorem un_of (o : XOk T tb k s X) : X.A.units + 65 < cLine := by have := o.room.un; omega
theorem inI_ok {K : PySem.W.Frag} {F : Hp} {i : Int} : ∀ {vs : List V} {ds : List D} {b : Bool}, RpAll K F vs ds → inI i ds = some b → vs.all flatV = true ∧ inV (.int i) vs = b
  | _, _, b, .nil, h => by cases h; exact ⟨rfl, rfl⟩
  | _, _, b, .cons a r, h => by
    cases a with
    | int j =>
      simp only [inI, Option.map_eq_some_iff] at h
      obtain ⟨c, h1, rfl⟩ := h
      obtain ⟨q1, q2⟩ := inI_ok r h1
      refine ⟨by rw [List.all_cons, q1]; rfl, ?_⟩
      rw [← q2]
      rfl
    | _ => cases h
theorem cmp_ok (o : XOk T tb k s X) {op : CmpOp} {da db : D} {res : Bool} (h : cmpD op da db = some res) : ∃ rr, L2.OpR X (compareOp op) rr ∧
    ∀ pa B F σ H ρ x y, Rel X.K tb pa B F σ H ρ → Vw X.K F H x da → Vw X.K F H y db → ∀ Q : VK, Q (.bl res) H → rr x y H Q := by
  have hu := un_of o
  have hu' : X.A.units + 64 < cLine := by omega
  cases op with
  | Eq =>
    simp only [cmpD] at h
    split at h
    · rename_i hs
      cases h
      rw [Bool.and_eq_true] at hs
      exact ⟨_, op_eqD hu', fun pa B F σ H ρ x y r v1 v2 Q q => ⟨da, db, (v1.rp r.wf.fz).dp, (v2.rp r.wf.fz).dp, hs.1, hs.2, q⟩⟩
    · cases h
  | NotEq =>
    simp only [cmpD] at h
    split at h
    · rename_i hs
      cases h
      rw [Bool.and_eq_true] at hs
      exact ⟨_, op_neD hu', fun pa B F σ H ρ x y r v1 v2 Q q => ⟨da, db, (v1.rp r.wf.fz).dp, (v2.rp r.wf.fz).dp, hs.1, hs.2, q⟩⟩
    · cases h
  | Is =>
    simp only [cmpD] at h
    split at h
    · cases h
      refine ⟨_, op_isN, fun pa B F σ H ρ x y r v1 v2 Q q => ⟨by cases v2; rfl, ?_⟩⟩
      cases v1 <;> exact q
    · cases h
      exact ⟨_, op_is_bl, fun pa B F σ H ρ x y r v1 v2 Q q => ⟨_, _, v1.boolE, v2.boolE, q⟩⟩
    · cases h
  | IsNot =>
    simp only [cmpD] at h
    split at h
    · cases h
      refine ⟨_, op_notN, fun pa B F σ H ρ x y r v1 v2 Q q => ⟨by cases v2; rfl, ?_⟩⟩
      cases v1 <;> exact q
    · cases h
      exact ⟨_, op_isnot_bl, fun pa B F σ H ρ x y r v1 v2 Q q => ⟨_, _, v1.boolE, v2.boolE, q⟩⟩
    · cases h
  | In =>
    simp only [cmpD] at h
    split at h
    · split at h
      · rename_i hs
        cases h
        unfold inOk at hs
        rw [Bool.and_eq_true] at hs
        exact ⟨_, op_inD hu, fun pa B F σ H ρ x y r v1 v2 Q q => ⟨da, _, (v1.rp r.wf.fz).dp, (v2.rp r.wf.fz).dp, hs.1, hs.2, q⟩⟩
      · cases h
    · split at h
      · refine ⟨_, op_in_seq, fun pa B F σ H ρ x y r v1 v2 Q q => ?_⟩
        obtain ⟨p, vs, rfl, a1, b1⟩ := v2.tupE
        obtain ⟨q1, q2⟩ := inI_ok b1 h
        rw [v1.intE]
        refine ⟨p, vs, rfl, .inr (SqT.mono r.wf.fz a1), rfl, q1, ?_⟩
        simp only [Bool.false_eq_true, if_false]
        rw [q2]; exact q
      · cases h
    · cases h
  | NotIn =>
    simp only [cmpD] at h
    split at h
    · split at h
      · rename_i hs
        cases h
        unfold inOk at hs
        rw [Bool.and_eq_true] at hs
        exact ⟨_, op_notInD hu, fun pa B F σ H ρ x y r v1 v2 Q q => ⟨da, _, (v1.rp r.wf.fz).dp, (v2.rp r.wf.fz).dp, hs.1, hs.2, q⟩⟩
      · cases h
    · split at h
      · simp only [Option.map_eq_some_iff] at h
        obtain ⟨c, h, rfl⟩ := h
        refine ⟨_, op_notIn_seq, fun pa B F σ H ρ x y r v1 v2 Q q => ?_⟩
        obtain ⟨p, vs, rfl, a1, b1⟩ := v2.tupE
        obtain ⟨q1, q2⟩ := inI_ok b1 h
        rw [v1.intE]
        refine ⟨p, vs, rfl, .inr (SqT.mono r.wf.fz a1), rfl, q1, ?_⟩
        simp only [if_true]
        rw [q2]; exact q
      · cases h
    · cases h
  | Lt =>
    simp only [cmpD] at h
    split at h
    · cases h
      exact ⟨_, op_lt, fun pa B F σ H ρ x y r v1 v2 Q q => ⟨_, _, v1.intE, v2.intE, q⟩⟩
    · cases h
  | LtE =>
    simp only [cmpD] at h
    split at h
    · cases h
      exact ⟨_, op_le, fun pa B F σ H ρ x y r v1 v2 Q q => ⟨_, _, v1.intE, v2.intE, q⟩⟩
    · cases h
  | Gt =>
    simp only [cmpD] at h
    split at h
    · cases h
      exact ⟨_, op_gt, fun pa B F σ H ρ x y r v1 v2 Q q => ⟨_, _, v1.intE, v2.intE, q⟩⟩
    · cases h
  | GtE =>
    simp only [cmpD] at h
    split at h
    · cases h
      exact ⟨_, op_ge, fun pa B F σ H ρ x y r v1 v2 Q q => ⟨_, _, v1.intE, v2.intE, q⟩⟩
    · cases h
def noSet : Expr → Bool
  | .Set .. => false
  | _ => true
theorem chE_set {s : Sc} {ir : IE} {e : Expr} (h : chE s ir e = true) : noSet e = true := by
  cases e <;> first | rfl | (cases ir <;> simp [chE] at h)
theorem noSet_ok {op : CmpOp} {e : Expr} (h : noSet e = true) : behindInMarks op e = false := by
  cases e <;> first | rfl | cases h
theorem se_cmp (o : XOk T tb k s X) {op : CmpOp} {da db : D} {res : Bool} (hs : noSet b = true) (ha : SE tb X a ρ oa ρ1) (hb : SE tb X b ρ1 ob ρ2) (ea : viewOp ρ2 oa = some da) (eb : viewOp ρ2 ob = some db) (h : cmpD op da db = some res) :
    SE tb X (.Compare a [op] [b] pos) ρ (.val (.bool res)) ρ2 := by
  obtain ⟨rr, ho, hq⟩ := cmp_ok o h
  intro pa B F σ H r Q q
  refine we_of (pe_cmpR ho (pe_we X a) (pe_we X b) (noSet_ok hs)) ?_
  refine SE.two' ha hb r ea eb fun x y F' H' s1 r1 v1 v2 => ?_
  exact hq pa B F' σ H' ρ2 x y r1 v1 v2 Q (q _ F' H' s1 r1 (.bl res))
theorem st_cmp (o : XOk T tb k s X) {op : CmpOp} {da db : D} {res : Bool} (hs : noSet b = true) (ha : SE tb X a ρ oa ρ1) (hb : SE tb X b ρ1 ob ρ2) (ea : viewOp ρ2 oa = some da) (eb : viewOp ρ2 ob = some db) (h : cmpD op da db = some res) :
    ST tb X (.Compare a [op] [b] pos) ρ res ρ2 := by
  obtain ⟨rr, ho, hq⟩ := cmp_ok o h
  intro pa B F σ H r Q q
  refine wt_of (pt_cmpR ho (pe_we X a) (pe_we X b) (noSet_ok hs)) ?_
  refine SE.two' ha hb r ea eb fun x y F' H' s1 r1 v1 v2 => ?_
  exact hq pa B F' σ H' ρ2 x y r1 v1 v2 _ ⟨res, rfl, q F' H' s1 r1⟩
/-- a < b < c: the second one is not asked -/
theorem chain_ok (o : XOk T tb k s X) {op op2 : CmpOp} {da db : D} {res : Bool} {db' dc : D} {res2 : Bool} {Q : VK} {res' : Bool} {ρ' : En} (ha : SE tb X a ρ oa ρ1) (hb : SE tb X b ρ1 ob ρ2) (ea : viewOp ρ2 oa = some da) (eb : viewOp ρ2 ob = some db) (h : cmpD op da db = some res)
    (h2 : (res = false ∧ res' = false ∧ ρ' = ρ2) ∨ (res = true ∧ ∃ oc, SE tb X c ρ2 oc ρ3 ∧ viewOp ρ3 ob = some db' ∧ viewOp ρ3 oc = some dc ∧ cmpD op2 db' dc = some res' ∧ ρ' = ρ3)) :
    ∃ rr rr2, L2.OpR X (compareOp op) rr ∧ L2.OpR X (compareOp op2) rr2 ∧ ∀ pa B F σ H, Rel X.K tb pa B F σ H ρ → ∀ Q : VK, (∀ F' H', Sm F F' → Rel X.K tb pa B F' σ H' ρ' → Q (.bl res') H') → tChain rr rr2 (WE X a) (WE X b) (WE X c) σ H Q := by
  obtain ⟨rr, ho, hq⟩ := cmp_ok o h
  rcases h2 with ⟨rfl, rfl, rfl⟩ | ⟨rfl, oc, hc, eb', ec, h2, rfl⟩
  · refine ⟨rr, fun _ _ _ _ => False, ho, fun _ _ _ _ _ _ _ _ _ _ _ _ h => h.elim, fun pa B F σ H r Q q => ?_⟩
    refine SE.two' ha hb r ea eb fun x y F' H' s1 r1 v1 v2 => ?_
    refine hq pa B F' σ H' _ x y r1 v1 v2 _ ⟨false, rfl, ?_⟩
    rw [if_neg Bool.false_ne_true]
    exact q F' H' s1 r1
  · obtain ⟨rr2, ho2, hq2⟩ := cmp_ok o h2
    refine ⟨rr, rr2, ho, ho2, fun pa B F σ H r Q q => ?_⟩
    refine SE.two ha hb r fun x y F' H' B1 s1 sB r1 o1 nB rB o2 => ?_
    refine hq pa B F' σ H' _ x y r1 (vw_ok r1 o1 ea) (vw_ok rB o2 eb) _ ⟨true, rfl, ?_⟩
    rw [if_pos rfl]
    obtain ⟨B2, s2, n2, r2⟩ := OpR.hold1 rB o2
    refine hc pa B2 F' σ H' r2 _ fun z F3 H3 s3 r3 o3 => ?_
    have o2' := o2.back n2 s2 r2 s3 r3
    refine hq2 pa B2 F3 σ H3 _ y z r3 ?_ (vw_ok r3 o3 ec) Q (q F3 H3 (s1.trans s3) ((r3.less s2).less sB))
    exact vw_ok (r3.less s2) o2' eb'
end
end Ev

set_option maxHeartbeats 2000000
namespace Ev
open PySem PySem.Spec PyProof.Rows L2

section
variable {T : Tb} {tb : List Addr} {k : Nat} {s : Sc} {X : Cx} {a b c e : Expr} {es : List Expr} {ρ ρ1 ρ2 ρ3 : En} {oa ob oc op : Op} {pa : Nat → Addr} {B F H : Hp} {σ : St} {pos : Pos} {r1 r2 : Bool}
theorem last_ok {op op2 : CmpOp} (h : noSet c = true) : lastMarks [op, op2] [b, c] = false := noSet_ok h
theorem SE.use (ha : SE tb X a ρ oa ρ1) (r : Rel X.K tb pa B F σ H ρ) {d : D} (ea : viewOp ρ1 oa = some d) {Q : VK} (h : ∀ x F' H', Sm F F' → Rel X.K tb pa B F' σ H' ρ1 → Vw X.K F' H' x d → Q x H') : WE X a σ H Q :=
  ha pa B F σ H r Q fun x F' H' s' r' o' => h x F' H' s' r' (vw_ok r' o' ea)
theorem se_neg {i : Int} (ha : SE tb X a ρ oa ρ1) (ea : viewOp ρ1 oa = some (.int i)) : SE tb X (.UnaryOp .USub a pos) ρ (.val (.int (-i))) ρ1 := by
  intro pa B F σ H r Q q
  refine we_of (pe_un un_neg (pe_we X a)) (ha.use r ea fun x F' H' s' r' v => ⟨i, v.intE, q _ F' H' s' r' (.int _)⟩)
theorem se_not {c : Bool} (ha : SE tb X a ρ oa ρ1) (ea : viewOp ρ1 oa = some (.bool c)) : SE tb X (.UnaryOp .Not a pos) ρ (.val (.bool (!c))) ρ1 := by
  intro pa B F σ H r Q q
  refine we_of (pe_not (pe_we X a)) (ha.use r ea fun x F' H' s' r' v => ⟨c, v.boolE, q _ F' H' s' r' (.bl _)⟩)
theorem se_andT {rest : List Expr} (ha : SE tb X a ρ oa ρ1) (ea : viewOp ρ1 oa = some (.bool true)) (hb : SE tb X (.BoolOp .And (b :: rest) pos) ρ1 ob ρ2) : SE tb X (.BoolOp .And (a :: b :: rest) pos) ρ ob ρ2 := by
  intro pa B F σ H r Q q
  refine we_of (pe_and (pe_we X a) (pe_we X _)) (ha.use r ea fun x F' H' s' r' v => ⟨true, v.boolE, ?_⟩)
  rw [if_pos rfl]
  exact hb pa B F' σ H' r' Q fun y F2 H2 s2 r2 o2 => q y F2 H2 (s'.trans s2) r2 o2
theorem se_andF {rest : List Expr} (ha : SE tb X a ρ oa ρ1) (ea : viewOp ρ1 oa = some (.bool false)) : SE tb X (.BoolOp .And (a :: b :: rest) pos) ρ (.val (.bool false)) ρ1 := by
  intro pa B F σ H r Q q
  refine we_of (pe_and (pe_we X a) (pe_we X _)) (ha.use r ea fun x F' H' s' r' v => ⟨false, v.boolE, ?_⟩)
  rw [if_neg Bool.false_ne_true]
  exact q _ F' H' s' r' (.bl _)
theorem se_orF {rest : List Expr} (ha : SE tb X a ρ oa ρ1) (ea : viewOp ρ1 oa = some (.bool false)) (hb : SE tb X (.BoolOp .Or (b :: rest) pos) ρ1 ob ρ2) : SE tb X (.BoolOp .Or (a :: b :: rest) pos) ρ ob ρ2 := by
  intro pa B F σ H r Q q
  refine we_of (pe_or (pe_we X a) (pe_we X _)) (ha.use r ea fun x F' H' s' r' v => ⟨false, v.boolE, ?_⟩)
  rw [if_neg Bool.false_ne_true]
  exact hb pa B F' σ H' r' Q fun y F2 H2 s2 r2 o2 => q y F2 H2 (s'.trans s2) r2 o2
theorem se_orT {rest : List Expr} (ha : SE tb X a ρ oa ρ1) (ea : viewOp ρ1 oa = some (.bool true)) : SE tb X (.BoolOp .Or (a :: b :: rest) pos) ρ (.val (.bool true)) ρ1 := by
  intro pa B F σ H r Q q
  refine we_of (pe_or (pe_we X a) (pe_we X _)) (ha.use r ea fun x F' H' s' r' v => ⟨true, v.boolE, ?_⟩)
  rw [if_pos rfl]
  exact q _ F' H' s' r' (.bl _)
theorem se_one {op : BoolOp} (ha : SE tb X a ρ oa ρ1) : SE tb X (.BoolOp op [a] pos) ρ oa ρ1 := by
  intro pa B F σ H r Q q
  exact we_of (pe_one (pe_we X a)) (ha pa B F σ H r Q q)
theorem se_iteT (hc : ST tb X c ρ true ρ1) (ha : SE tb X a ρ1 oa ρ2) : SE tb X (.IfExp c a b pos) ρ oa ρ2 := by
  intro pa B F σ H r Q q
  refine we_of (pe_ifExp (pt_wt X c) (pe_we X a) (pe_we X b)) (hc pa B F σ H r _ fun F' H' s' r' => ?_)
  rw [if_pos rfl]
  exact ha pa B F' σ H' r' Q fun y F2 H2 s2 r2 o2 => q y F2 H2 (s'.trans s2) r2 o2
theorem se_iteF (hc : ST tb X c ρ false ρ1) (hb : SE tb X b ρ1 ob ρ2) : SE tb X (.IfExp c a b pos) ρ ob ρ2 := by
  intro pa B F σ H r Q q
  refine we_of (pe_ifExp (pt_wt X c) (pe_we X a) (pe_we X b)) (hc pa B F σ H r _ fun F' H' s' r' => ?_)
  rw [if_neg Bool.false_ne_true]
  exact hb pa B F' σ H' r' Q fun y F2 H2 s2 r2 o2 => q y F2 H2 (s'.trans s2) r2 o2
theorem se_chain (o : XOk T tb k s X) {op op2 : CmpOp} {da db db' dc : D} {res res' : Bool} {ρ' : En} (hn : noSet c = true) (ha : SE tb X a ρ oa ρ1) (hb : SE tb X b ρ1 ob ρ2) (ea : viewOp ρ2 oa = some da) (eb : viewOp ρ2 ob = some db) (h : cmpD op da db = some res)
    (h2 : (res = false ∧ res' = false ∧ ρ' = ρ2) ∨ (res = true ∧ ∃ oc, SE tb X c ρ2 oc ρ3 ∧ viewOp ρ3 ob = some db' ∧ viewOp ρ3 oc = some dc ∧ cmpD op2 db' dc = some res' ∧ ρ' = ρ3)) :
    SE tb X (.Compare a [op, op2] [b, c] pos) ρ (.val (.bool res')) ρ' := by
  obtain ⟨rr, rr2, ho, ho2, hq⟩ := chain_ok (Q := fun _ _ => True) (res2 := true) o ha hb ea eb h h2
  intro pa B F σ H r Q q
  refine we_of (pe_chain ho ho2 (pe_we X a) (pe_we X b) (pe_we X c) (last_ok hn)) ?_
  exact hq pa B F σ H r Q fun F' H' s' r' => q _ F' H' s' r' (.bl _)
theorem st_chain (o : XOk T tb k s X) {op op2 : CmpOp} {da db db' dc : D} {res res' : Bool} {ρ' : En} (hn : noSet c = true) (ha : SE tb X a ρ oa ρ1) (hb : SE tb X b ρ1 ob ρ2) (ea : viewOp ρ2 oa = some da) (eb : viewOp ρ2 ob = some db) (h : cmpD op da db = some res)
    (h2 : (res = false ∧ res' = false ∧ ρ' = ρ2) ∨ (res = true ∧ ∃ oc, SE tb X c ρ2 oc ρ3 ∧ viewOp ρ3 ob = some db' ∧ viewOp ρ3 oc = some dc ∧ cmpD op2 db' dc = some res' ∧ ρ' = ρ3)) :
    ST tb X (.Compare a [op, op2] [b, c] pos) ρ res' ρ' := by
  obtain ⟨rr, rr2, ho, ho2, hq⟩ := chain_ok (Q := fun _ _ => True) (res2 := true) o ha hb ea eb h h2
  intro pa B F σ H r Q q
  refine wt_of (pt_chain ho ho2 (pe_we X a) (pe_we X b) (pe_we X c) (last_ok hn)) ?_
  exact hq pa B F σ H r _ fun F' H' s' r' => ⟨res', rfl, q F' H' s' r'⟩

/-! ### displays -/
theorem se_tup {ops : List Op} {ds : List D} {j : Nat} (ha : SA tb X es ρ ops ρ1) (hk : keepL ρ1 ops = some (ds, ρ2)) (hl : lenOk ds.length = true) : SE tb X (.Tuple es j pos) ρ (.val (.tuple ds)) ρ2 := by
  intro pa B F σ H r Q q
  refine we_of (pe_tup (pa_wa X es)) (ha pa B F σ H r _ fun xs F' H' s' r' os => ?_)
  obtain ⟨F2, s2, r2, dp⟩ := keepL_ok r' os hk
  refine ⟨by rw [RpAll.length dp]; exact of_decide_eq_true hl, fun p hp => ?_⟩
  obtain ⟨F3, s3, r3, o3⟩ := newT_ok r2 dp hp
  exact q _ F3 _ ((s'.trans s2).trans s3) r3 o3
theorem se_lst {ops : List Op} {ds : List D} (ha : SA tb X es ρ ops ρ1) (hk : keepL ρ1 ops = some (ds, ρ2)) (hl : lenOk ds.length = true) : SE tb X (.List es pos) ρ (.new ds) ρ2 := by
  intro pa B F σ H r Q q
  refine we_of (pe_lst (pa_wa X es)) (ha pa B F σ H r _ fun xs F' H' s' r' os => ?_)
  obtain ⟨F2, s2, r2, dp⟩ := keepL_ok r' os hk
  refine ⟨by rw [RpAll.length dp]; exact of_decide_eq_true hl, fun p hp => ?_⟩
  obtain ⟨r3, o3⟩ := new_ok r2 dp hp
  exact q _ F2 _ (s'.trans s2) r3 o3

/-! ### items, slices -/
def noSlice : Expr → Bool
  | .Slice .. => false
  | _ => true
theorem plainIx {b : Expr} (h : noSlice b = true) : PlainIx b := by
  cases b <;> first | (intro o i; rfl) | cases h
theorem chE_slice {s : Sc} {ir : IE} {e : Expr} (h : chE s ir e = true) : noSlice e = true := by
  cases e <;> first | rfl | (cases ir <;> simp [chE] at h)
theorem atI_rp {K : PySem.W.Frag} {F : Hp} {xs : List V} {ds : List D} {i : Int} {d : D} (r : RpAll K F xs ds) (h : atI ds i = some d) : ∃ x, atI xs i = some x ∧ Rp K F x d := by
  unfold atI at h ⊢
  rw [RpAll.length r]
  rw [Option.bind_eq_some_iff] at h
  obtain ⟨j, h1, h2⟩ := h
  obtain ⟨x, h3, h4⟩ := RpAll.get r h2
  exact ⟨x, by rw [h1]; exact h3, h4⟩
theorem se_idx {da di d : D} (hs : noSlice b = true) (ha : SE tb X a ρ oa ρ1) (hb : SE tb X b ρ1 ob ρ2) (ea : viewOp ρ2 oa = some da) (eb : viewOp ρ2 ob = some di) (h : idxD da di = some d) : SE tb X (.Subscript a b pos) ρ (.val d) ρ2 := by
  unfold idxD at h
  split at h
  · intro pa B F σ H r Q q
    refine we_of (pe_ix ix_list (pe_we X a) (pe_we X b) (plainIx hs)) ?_
    refine SE.two' ha hb r ea eb fun x y F' H' s1 r1 v1 v2 => ?_
    obtain ⟨p, vs, rfl, a1, b1⟩ := v1.lstE
    obtain ⟨z, e1, e2⟩ := atI_rp b1 h
    exact ⟨p, vs, _, z, rfl, v2.intE, .inl a1, e1, q _ F' H' s1 r1 e2⟩
  · intro pa B F σ H r Q q
    refine we_of (pe_ix ix_tup (pe_we X a) (pe_we X b) (plainIx hs)) ?_
    refine SE.two' ha hb r ea eb fun x y F' H' s1 r1 v1 v2 => ?_
    obtain ⟨p, vs, rfl, a1, b1⟩ := v1.tupE
    obtain ⟨z, e1, e2⟩ := atI_rp b1 h
    exact ⟨p, vs, _, z, rfl, v2.intE, SqT.mono r1.wf.fz a1, e1, q _ F' H' s1 r1 e2⟩
  · cases h
def WO (X : Cx) (o : Option Expr) : TO := fun σ H Q => ∀ (pins : List (Addr × Obj)) (s : Shared), Inv X pins σ H s → wpAny (model X.prog X.w) X.A (evalPart o X.env) (fun u s' => ∃ o H', Inv X pins σ H' s' ∧ IsPart u o ∧ Q o H') X.xe s
theorem po_wo (X : Cx) (o : Option Expr) : PO X o (WO X o) := ⟨fun pins s σ H Q I h => h pins s I⟩
def SO (tb : List Addr) (X : Cx) (o : Option Expr) (ρ : En) (i : Option Int) (ρ' : En) : Prop := ∀ pa B F σ H, Rel X.K tb pa B F σ H ρ → ∀ Q : Option Int → Hp → Prop, (∀ F' H', Sm F F' → Rel X.K tb pa B F' σ H' ρ' → Q i H') → WO X o σ H Q
theorem so_no : SO tb X none ρ none ρ := fun pa B F σ H r Q q pins s I => po_none.run pins s σ H Q I (q F H (Sm.refl _) r)
theorem so_so {i : Int} (ha : SE tb X a ρ oa ρ1) (ea : viewOp ρ1 oa = some (.int i)) : SO tb X (some a) ρ (some i) ρ1 := fun pa B F σ H r Q q pins s I =>
  (po_some (pe_we X a)).run pins s σ H Q I (ha.use r ea fun x F' H' s' r' v => ⟨i, v.intE, q F' H' s' r'⟩)
theorem cut_rp {K : PySem.W.Frag} {F : Hp} {xs : List V} {ds : List D} {lo hi : Option Int} (r : RpAll K F xs ds) : RpAll K F (cutV xs lo hi) (cutD ds lo hi) := by
  unfold cutV cutD
  rw [RpAll.length r]
  exact RpAll.take _ (RpAll.drop _ r)
theorem se_slc {lo hi : Option Expr} {p2 : Pos} {da : D} {i j : Option Int} {res : Op} (ha : SE tb X a ρ oa ρ1) (hl : SO tb X lo ρ1 i ρ2) (hh : SO tb X hi ρ2 j ρ3) (ea : viewOp ρ3 oa = some da) (h : slcD da i j = some res) :
    SE tb X (.Subscript a (.Slice lo hi none p2) pos) ρ res ρ3 := by
  have key : ∀ {rr : V → Option Int → Option Int → Hp → VK → Prop}, SlR X rr → (∀ pa B F σ H x, Rel X.K tb pa B F σ H ρ3 → Vw X.K F H x da → ∀ Q : VK, (∀ v F' H', Sm F F' → Rel X.K tb pa B F' σ H' ρ3 → OpR X.K B F' H' σ ρ3 v res → Q v H') → rr x i j H Q) →
      SE tb X (.Subscript a (.Slice lo hi none p2) pos) ρ res ρ3 := by
    intro rr hr hq pa B F σ H r Q q
    refine we_of (pe_slice hr (pe_we X a) (po_wo X lo) (po_wo X hi)) ?_
    refine ha pa B F σ H r _ fun x F1 H1 s1 r1 o1 => ?_
    obtain ⟨B1, sB, nB, rB⟩ := OpR.hold1 r1 o1
    refine hl pa B1 F1 σ H1 rB _ fun F2 H2 s2 r2 => ?_
    refine hh pa B1 F2 σ H2 r2 _ fun F3 H3 s3 r3 => ?_
    have o3 := o1.back nB sB rB (s2.trans s3) r3
    have r3' := r3.less sB
    exact hq pa B F3 σ H3 x r3' (vw_ok r3' o3 ea) Q fun v F4 H4 s4 r4 o4 => q v F4 H4 (((s1.trans s2).trans s3).trans s4) r4 o4
  unfold slcD at h
  split at h
  · cases h
    refine key sl_list fun pa B F σ H x r v Q q => ?_
    obtain ⟨p, vs, rfl, a1, b1⟩ := v.lstE
    refine ⟨p, vs, rfl, .inl a1, fun l hl => ?_⟩
    obtain ⟨r3, o3⟩ := new_ok r (cut_rp (lo := i) (hi := j) b1) hl
    exact q _ F _ (Sm.refl _) r3 o3
  · cases h
    refine key sl_tupA fun pa B F σ H x r v Q q => ?_
    obtain ⟨p, vs, rfl, a1, b1⟩ := v.tupE
    refine ⟨p, vs, rfl, SqT.mono r.wf.fz a1, fun hw => ?_, fun hw l hl => ?_⟩
    · refine q _ F _ (Sm.refl _) r (show Rp X.K F _ _ from .tup a1 ?_)
      have e : cutV vs i j = vs := by
        unfold cutV
        rw [hw.1, hw.2, List.drop_zero, Nat.sub_zero, List.take_length]
      have z := cut_rp (lo := i) (hi := j) b1
      rw [e] at z
      exact z
    · obtain ⟨F2, s2, r3, o3⟩ := newT_ok r (cut_rp (lo := i) (hi := j) b1) hl
      exact q _ F2 _ s2 r3 o3
  · cases h
end
end Ev

set_option maxHeartbeats 2000000
namespace Ev
open PySem PySem.Spec PyProof.Rows L2

section
variable {T : Tb} {tb : List Addr} {k : Nat} {s : Sc} {X : Cx} {a b c e : Expr} {es : List Expr} {ρ ρ1 ρ2 ρ3 : En} {oa ob oc op : Op} {ops : List Op} {pa : Nat → Addr} {B F H : Hp} {σ : St} {pos : Pos} {r1 r2 : Bool}

/-! ### calls of defs -/
theorem we_call {x : Str} {fs : FS} {P : Pos} (o : XOk T tb k s X) (hg : glB s.sc x = true) (hk : okN x = true) (hc : Can X.prog X.w X.K X.mg X.base tb k x fs) (hn : ∀ e' ∈ e :: es, noStar e' = true) {Q : VK}
    (h : WA X (e :: es) σ H fun xs H1 => SpOf X.K tb fs xs H1 Q E0) : WE X (.Call (.Name x P) (e :: es) [] pos) σ H Q := by
  obtain ⟨h1, _, _⟩ := okN_ok hk
  rcases hc.ex with ⟨f, fd, ps, hf, hm, hkp, hb⟩ | ⟨id, hm, _, hr⟩
  · refine we_of (pe_callG hf o.grd o.room (glB_ok o hg) hm hkp hb (pa_wa X (e :: es)) h1 (noStar_eq (hn e List.mem_cons_self) _ _) (noStar_any _ _ fun e' he => hn e' (List.mem_cons_of_mem _ he))) ?_
    exact h
  · refine we_of (pe_callBfun (hr X rfl) (glB_ok o hg) hm (pa_wa X (e :: es)) h1 (noStar_eq (hn e List.mem_cons_self) _ _) (noStar_any _ _ fun e' he => hn e' (List.mem_cons_of_mem _ he))) ?_
    exact h
theorem we_call0 {x : Str} {fs : FS} {P : Pos} (o : XOk T tb k s X) (hg : glB s.sc x = true) (hk : okN x = true) (hc : Can X.prog X.w X.K X.mg X.base tb k x fs) {Q : VK}
    (h : SpOf X.K tb fs [] H Q E0) : WE X (.Call (.Name x P) [] [] pos) σ H Q := by
  obtain ⟨h1, _, _⟩ := okN_ok hk
  rcases hc.ex with ⟨f, fd, ps, hf, hm, hkp, hb⟩ | ⟨id, hm, hno, hr⟩
  · exact we_of (pe_callG0 hf o.grd o.room (glB_ok o hg) hm hkp hb h1) h
  · exact absurd h (hno _ _ _)

theorem keepOp_view {d : D} (h : keepOp ρ oa = some (d, ρ1)) : viewOp ρ oa = some d ∧ ∀ o', viewOp ρ1 o' = viewOp ρ o' := by
  cases oa with
  | val d' => cases h; exact ⟨rfl, fun _ => rfl⟩
  | new ds => cases h; exact ⟨rfl, fun _ => rfl⟩
  | slot i =>
    simp only [keepOp] at h
    simp only [viewOp]
    split at h
    · rename_i d' hd
      cases h
      rw [hd]
      exact ⟨rfl, fun _ => rfl⟩
    · rename_i ds hd
      cases h
      rw [hd]
      exact ⟨rfl, view_frozen hd⟩
    · cases h
theorem keepL_view : ∀ {ops : List Op} {ds : List D} {ρ ρ1 : En}, keepL ρ ops = some (ds, ρ1) → viewL ρ ops = some ds ∧ ∀ o', viewOp ρ1 o' = viewOp ρ o'
  | [], ds, ρ, ρ1, h => by cases h; exact ⟨rfl, fun _ => rfl⟩
  | o :: os, ds, ρ, ρ1, h => by
    simp only [keepL, Option.bind_eq_some_iff, Option.map_eq_some_iff] at h
    obtain ⟨⟨ds', ρ2⟩, h1, ⟨d, ρ3⟩, h2, e⟩ := h
    cases e
    obtain ⟨a1, a2⟩ := keepL_view h1
    obtain ⟨b1, b2⟩ := keepOp_view h2
    refine ⟨?_, fun o' => (b2 o').trans (a2 o')⟩
    simp only [viewL, a1]
    rw [← a2 o, b1]
    rfl

theorem callP_ok {n : Nat} {f : List D → Option D} {res : Op} (r : Rel X.K tb pa B F σ H ρ) {xs : List V} (os : OpRs X.K tb pa F H σ ρ B xs ops) (hl : ops.length = n) (h : callP f ops ρ = some (res, ρ1)) {Q : VK}
    (q : ∀ x F' H', Sm F F' → Rel X.K tb pa B F' σ H' ρ1 → OpR X.K B F' H' σ ρ1 x res → Q x H') : SpP X.K tb n f xs H Q E0 := by
  unfold callP at h
  simp only [Option.bind_eq_some_iff] at h
  obtain ⟨ds, hv, rr, hf, h⟩ := h
  have hlx := OpRs.length os
  split at h
  · rename_i hfl
    cases h
    obtain ⟨F1, ρc, s1, rc, ⟨l1, l2⟩, dp⟩ := lend_all r os hv
    refine ⟨by omega, bgAll B σ H ρc (fun _ => True), F1, ds, rr, bgAll_wf rc _, dp, hf, fun v F' H' s2 w2 rv => ?_⟩
    refine q v F H' (Sm.refl _) ?_ (rpFlat rv hfl)
    have sB := bgAll_sm rc (fun _ => True)
    refine ⟨⟨fun p o e => w2.fz _ _ (s2 _ _ (s1 _ _ e)), fun p o e => ⟨(w2.bg p o (sB p o e)).1, (r.wf.bg p o e).2⟩, fun P hP => ?_⟩, r.len, fun i sl hi => ?_, r.ne⟩
    · obtain ⟨a, b, c⟩ := w2.tabs P hP
      exact ⟨a, (r.wf.tabs P hP).2⟩
    · have z := r.sl i sl hi
      cases sl with
      | u => trivial
      | v d => exact z
      | o mt ds =>
        obtain ⟨p, vs, a', m, b', c', e', f'⟩ := z
        refine ⟨p, vs, a', m, ?_, c', e', f'⟩
        rcases l1 i _ hi rfl with z | ⟨p2, ob, z1, z2, z3⟩
        · have e2 := bgAll_at rc (P := fun _ => True) trivial z rfl a'
          exact (w2.bg p _ (e2.trans b')).1
        · rw [a'] at z1
          cases z1
          rw [b'] at z3
          cases z3
          exact w2.fz _ _ (s2 _ _ z2)
  · simp only [Option.map_eq_some_iff] at h
    obtain ⟨⟨ds', ρk⟩, hk, e⟩ := h
    cases e
    obtain ⟨F1, s1, rk, dp⟩ := keepL_ok r os hk
    have eds : ds' = ds := by
      have := (keepL_view hk).1
      rw [hv] at this
      cases this; rfl
    subst eds
    refine ⟨by omega, bgAll B σ H ρk (fun _ => True), F1, ds', rr, bgAll_wf rk _, dp, hf, fun v F' H' s2 w2 rv => ?_⟩
    refine q v F' H' (s1.trans s2) ?_ rv
    have sB := bgAll_sm rk (fun _ => True)
    refine ⟨⟨w2.fz, fun p o e => w2.bg p o (sB p o e), fun P hP => ?_⟩, rk.len, fun i sl hi => ?_, rk.ne⟩
    · obtain ⟨a, b, c⟩ := w2.tabs P hP
      exact ⟨a, b, (rk.wf.tabs P hP).2.2⟩
    · have z := rk.sl i sl hi
      cases sl with
      | u => trivial
      | v d => obtain ⟨y, a, b⟩ := z; exact ⟨y, a, Rp.mono s2 b⟩
      | o mt ds =>
        obtain ⟨p, vs, a', m, b', c', e', f'⟩ := z
        have e2 := bgAll_at rk (P := fun _ => True) trivial hi rfl a'
        obtain ⟨z1, z2⟩ := w2.bg p _ (e2.trans b')
        exact ⟨p, vs, a', m, z1, z2, e', RpAll.mono s2 f'⟩

theorem callW_ok {n : Nat} {f : List D → List D → Option (D × List D)} {res : Op} (r : Rel X.K tb pa B F σ H ρ) {xs : List V} (os : OpRs X.K tb pa F H σ ρ B xs ops) (hl : ops.length = n) (h : callW f ops ρ = some (res, ρ1)) {Q : VK}
    (q : ∀ x F' H', Sm F F' → Rel X.K tb pa B F' σ H' ρ1 → OpR X.K B F' H' σ ρ1 x res → Q x H') : SpW X.K tb n f xs H Q E0 := by
  have hlx := OpRs.length os
  unfold callW at h
  split at h
  · rename_i i rest
    split at h
    · rename_i mt ds0 hi
      simp only [Option.bind_eq_some_iff] at h
      obtain ⟨⟨ds', ρk⟩, hk, h⟩ := h
      dsimp only at h
      split at h
      · rename_i mt2 es hi2
        split at h
        · rename_i hmt
          have hmt : mt = mt2 := by simpa using hmt
          subst hmt
          simp only [Option.map_eq_some_iff] at h
          obtain ⟨⟨rr, es2⟩, hf, e⟩ := h
          cases e
          match xs, os with
          | x :: xr, ⟨ox, B1, sB, nB, rB, ot⟩ =>
            obtain ⟨F1, s1, rk, dp⟩ := keepL_ok rB ot hk
            have rk' := rk.less sB
            obtain ⟨p, vs0, a', m, b', c', e', f'⟩ := rk'.sl i _ hi2
            have ox : σ[i]? = some (some x) := ox
            rw [a'] at ox
            cases ox
            have sBc := bgAll_sm rk' (fun j => j ≠ i)
            have hBc : bgAll B σ H ρk (fun j => j ≠ i) p = none := by
              unfold bgAll
              rw [if_neg]
              · exact e'
              · rintro ⟨j, sl, h1, h2, h3, h4⟩
                exact rk'.ne j i sl _ h1 h2 hi2 h3 rfl (h4.trans a'.symm)
            refine ⟨by omega, bgAll B σ H ρk (fun j => j ≠ i), F1, p, xr, vs0, es, ds', rr, es2, rfl, bgAll_wf rk' _, b', c', hBc, f', dp, hf, fun v F' H' ws s2 w2 hp hfp dpw rv => ?_⟩
            refine q v F' H' (s1.trans s2) ?_ rv
            refine ⟨⟨w2.fz, fun p o e => w2.bg p o (sBc p o e), fun P hP => ?_⟩, by rw [List.length_set]; exact rk.len, fun j sl hj => ?_, fun j1 j2 t1 t2 hj h1 h2 o1 o2 => ?_⟩
            · obtain ⟨a, b, c⟩ := w2.tabs P hP
              exact ⟨a, b, (rk'.wf.tabs P hP).2.2⟩
            · rcases set_get_cases hj with ⟨rfl, rfl⟩ | ⟨hji, hj⟩
              · exact ⟨p, ws, a', m, hp, hfp, e', dpw⟩
              · have z := rk'.sl j sl hj
                cases sl with
                | u => trivial
                | v d => obtain ⟨y, a, b⟩ := z; exact ⟨y, a, Rp.mono s2 b⟩
                | o mt ds =>
                  obtain ⟨p2, vs2, a2, m2, b2, c2, e2, f2⟩ := z
                  have e3 := bgAll_at rk' (P := fun j => j ≠ i) hji hj rfl a2
                  obtain ⟨z1, z2⟩ := w2.bg p2 _ (e3.trans b2)
                  exact ⟨p2, vs2, a2, m2, z1, z2, e2, RpAll.mono s2 f2⟩
            · have own : ∀ (j : Nat) (sl : Sl), (ρk.set i (.o mt es2))[j]? = some sl → sl.own = true → ∃ s', ρk[j]? = some s' ∧ s'.own = true := fun j sl hs os => by
                rcases set_get_cases hs with ⟨rfl, rfl⟩ | ⟨hj, hs⟩
                · exact ⟨_, hi2, rfl⟩
                · exact ⟨sl, hs, os⟩
              obtain ⟨s1', x1, x2⟩ := own j1 t1 h1 o1
              obtain ⟨s2', x3, x4⟩ := own j2 t2 h2 o2
              exact rk.ne j1 j2 s1' s2' hj x1 x3 x2 x4
        · cases h
      · cases h
    · cases h
  · rename_i ds0 rest
    simp only [Option.bind_eq_some_iff, Option.map_eq_some_iff] at h
    obtain ⟨⟨ds', ρk⟩, hk, ⟨rr, es2⟩, hf, e⟩ := h
    cases e
    match xs, os with
    | x :: xr, ⟨ox, B1, sB, nB, rB, ot⟩ =>
      obtain ⟨p, vs0, rfl, hp, hfp, hbp, off, dp0⟩ := ox
      obtain ⟨F1, s1, rk, dp⟩ := keepL_ok rB ot hk
      have n1 := nB p ds0 rfl rfl
      obtain ⟨u, hu⟩ : ∃ u, B1 p = some u := by
        cases q : B1 p with
        | none => exact absurd q n1
        | some u => exact ⟨u, rfl⟩
      have e1 := (rB.wf.bg p u hu).1
      rw [hp] at e1
      cases e1
      have hF1 := (rk.wf.bg p _ hu).2
      have offk : ∀ (j : Nat) (s : Sl), ρk[j]? = some s → s.own = true → σ[j]? ≠ some (some (.ref p)) := fun j s e ho z => by
        have q := rk.sl j s e
        cases s with
        | u => cases ho
        | v d => cases ho
        | o mt ds =>
          obtain ⟨p', vs, a, _, b, _, c, _⟩ := q
          rw [a] at z; cases z; rw [hu] at c; cases c
      have rk' := rk.less sB
      have hBp : bgAll B σ H ρk (fun _ => True) p = none := by
        unfold bgAll
        rw [if_neg]
        · exact hbp
        · rintro ⟨j, sl, h1, h2, h3, h4⟩
          exact offk j sl h2 h3 h4
      have sBk := bgAll_sm rk' (fun _ => True)
      refine ⟨by omega, bgAll B σ H ρk (fun _ => True), F1, p, xr, vs0, ds0, ds', rr, es2, rfl, bgAll_wf rk' _, hp, hF1, hBp, RpAll.mono s1 dp0, dp, hf, fun v F' H' ws s2 w2 _ _ _ rv => ?_⟩
      refine q v F' H' (s1.trans s2) ?_ rv
      refine ⟨⟨w2.fz, fun p o e => w2.bg p o (sBk p o e), fun P hP => ?_⟩, rk.len, fun i sl hi => ?_, rk.ne⟩
      · obtain ⟨a, b, c⟩ := w2.tabs P hP
        exact ⟨a, b, (rk'.wf.tabs P hP).2.2⟩
      · have z := rk'.sl i sl hi
        cases sl with
        | u => trivial
        | v d => obtain ⟨y, a, b⟩ := z; exact ⟨y, a, Rp.mono s2 b⟩
        | o mt ds =>
          obtain ⟨p2, vs2, a2, m2, b2, c2, e2, f2⟩ := z
          have e3 := bgAll_at rk' (P := fun _ => True) trivial hi rfl a2
          obtain ⟨z1, z2⟩ := w2.bg p2 _ (e3.trans b2)
          exact ⟨p2, vs2, a2, m2, z1, z2, e2, RpAll.mono s2 f2⟩
  · cases h
theorem callM_ok {n : Nat} {f : List D → Option (List D)} {res : Op} (r : Rel X.K tb pa B F σ H ρ) {xs : List V} (os : OpRs X.K tb pa F H σ ρ B xs ops) (hl : ops.length = n) (h : callM f ops ρ = some (res, ρ1)) {Q : VK}
    (q : ∀ x F' H', Sm F F' → Rel X.K tb pa B F' σ H' ρ1 → OpR X.K B F' H' σ ρ1 x res → Q x H') : SpM X.K tb n f xs H Q E0 := by
  have hlx := OpRs.length os
  unfold callM at h
  simp only [Option.bind_eq_some_iff, Option.map_eq_some_iff] at h
  obtain ⟨⟨ds', ρk⟩, hk, rr, hf, e⟩ := h
  cases e
  obtain ⟨F1, s1, rk, dp⟩ := keepL_ok r os hk
  have sB := bgAll_sm rk (fun _ => True)
  refine ⟨by omega, bgAll B σ H ρk (fun _ => True), F1, ds', rr, bgAll_wf rk _, dp, hf, fun p ws F' H' s2 w2 hp hfp hbp rv => ?_⟩
  have own : ∀ (i : Nat) (sl : Sl), ρk[i]? = some sl → SlOk X.K pa B F' σ H' i sl := fun i sl hi => by
    have z := rk.sl i sl hi
    cases sl with
    | u => trivial
    | v d => obtain ⟨y, a, b⟩ := z; exact ⟨y, a, Rp.mono s2 b⟩
    | o mt ds =>
      obtain ⟨p, vs, a', m, b', c', e', f'⟩ := z
      have e2 := bgAll_at rk (P := fun _ => True) trivial hi rfl a'
      obtain ⟨z1, z2⟩ := w2.bg p _ (e2.trans b')
      exact ⟨p, vs, a', m, z1, z2, e', RpAll.mono s2 f'⟩
  refine q (.ref p) F' H' (s1.trans s2) ⟨⟨w2.fz, fun p o e => w2.bg p o (sB p o e), fun P hP => ?_⟩, rk.len, own, rk.ne⟩ ⟨p, ws, rfl, hp, hfp, sm_none sB hbp, fun j s hs ho hσ => ?_, rv⟩
  · obtain ⟨a, b, c⟩ := w2.tabs P hP
    exact ⟨a, b, (rk.wf.tabs P hP).2.2⟩
  · have e2 := bgAll_at rk (P := fun _ => True) trivial hs ho hσ
    rw [hbp] at e2
    have z := rk.sl j s hs
    cases s with
    | u => cases ho
    | v d => cases ho
    | o mt ds =>
      obtain ⟨p', vs, a', m, b', c', e', f'⟩ := z
      rw [a'] at hσ
      cases hσ
      rw [b'] at e2
      cases e2
theorem callF_ok {fs : FS} {res : Op} (r : Rel X.K tb pa B F σ H ρ) {xs : List V} (os : OpRs X.K tb pa F H σ ρ B xs ops) (h : callF fs ops ρ = some (res, ρ1)) {Q : VK}
    (q : ∀ x F' H', Sm F F' → Rel X.K tb pa B F' σ H' ρ1 → OpR X.K B F' H' σ ρ1 x res → Q x H') : SpOf X.K tb fs xs H Q E0 := by
  unfold callF at h
  cases fs with
  | p n f =>
    dsimp only at h
    split at h
    · rename_i hn
      exact callP_ok r os (by simpa using hn) h q
    · cases h
  | w n f =>
    dsimp only at h
    split at h
    · rename_i hn
      exact callW_ok r os (by simpa using hn) h q
    · cases h
  | m n f =>
    dsimp only at h
    split at h
    · rename_i hn
      exact callM_ok r os (by simpa using hn) h q
    · cases h
theorem se_call {x : Str} {fs : FS} {P : Pos} {res : Op} (o : XOk T tb k s X) (hg : glB s.sc x = true) (hk : okN x = true) (hf : T.fs x = some fs) (hn : ∀ e' ∈ es, noStar e' = true) (ha : SA tb X es ρ ops ρ1) (h0 : es = [] → ops = [] ∧ ρ1 = ρ) (h : callF fs ops ρ1 = some (res, ρ2)) :
    SE tb X (.Call (.Name x P) es [] pos) ρ res ρ2 := by
  intro pa B F σ H r Q q
  cases es with
  | nil =>
    obtain ⟨rfl, rfl⟩ := h0 rfl
    exact we_call0 o hg hk (o.fns x fs hf) (callF_ok (xs := []) (ops := []) r (by trivial) h q)
  | cons e es =>
    refine we_call o hg hk (o.fns x fs hf) hn (ha pa B F σ H r _ fun xs F' H' s' r' os => ?_)
    exact callF_ok r' os h fun y F2 H2 s2 r2 o2 => q y F2 H2 (s'.trans s2) r2 o2
end
end Ev

set_option maxHeartbeats 4000000
namespace Ev
open PySem PySem.Spec PyProof.Rows L2

section
variable {T : Tb} {tb : List Addr} {k : Nat} {s : Sc} {X : Cx} {a b c e : Expr} {es : List Expr} {ρ ρ1 ρ2 ρ3 : En} {oa ob oc op res : Op} {ops : List Op} {ds : List D} {pa : Nat → Addr} {B F H : Hp} {σ : St} {pos : Pos} {r1 r2 : Bool}

/-! ### built-in functions -/
theorem bi_mg (o : XOk T tb k s X) {x : Str} (h : x ∈ bnames) : X.mg x = none := o.blt x h
/-- a built-in function by its rule -/
theorem se_biB {x : Str} {id : String} {rr : List V → Hp → VK → Prop} {P : Pos} (o : XOk T tb k s X) (hx : X.mg x = none) (hc : CallR X (.builtin id) rr) (hv : bootBuiltins x = some (.builtin id)) (hg : glB s.sc x = true) (hk : okN x = true) (hn : ∀ e' ∈ e :: es, noStar e' = true)
    (ha : SA tb X (e :: es) ρ ops ρ1) (hd : viewL ρ1 ops = some ds)
    (h : ∀ pa B F σ H xs, Rel X.K tb pa B F σ H ρ1 → VwAll X.K F H xs ds → ∀ Q : VK, (∀ v F' H', Sm F F' → Rel X.K tb pa B F' σ H' ρ1 → OpR X.K B F' H' σ ρ1 v res → Q v H') → rr xs H Q) : SE tb X (.Call (.Name x P) (e :: es) [] pos) ρ res ρ1 := by
  intro pa B F σ H r Q q
  obtain ⟨h1, _, h3⟩ := okN_ok hk
  refine we_of (pe_callB hc (glB_ok o hg) hx hv (pa_wa X (e :: es)) h3 h1 (noStar_eq (hn e List.mem_cons_self) _ _) (noStar_any _ _ fun e' he => hn e' (List.mem_cons_of_mem _ he))) ?_
  refine ha pa B F σ H r _ fun xs F' H' s' r' os => ?_
  exact h pa B F' σ H' xs r' (viewL_ok r' os hd) Q fun v F2 H2 s2 r2 o2 => q v F2 H2 (s'.trans s2) r2 o2
theorem se_biT {x : Str} {id : String} {rr : List V → Hp → VK → Prop} {P : Pos} (o : XOk T tb k s X) (hx : X.mg x = none) (hc : CallR X (.type id) rr) (hv : bootBuiltins x = some (.type id)) (hg : glB s.sc x = true) (hk : okN x = true) (hn : ∀ e' ∈ e :: es, noStar e' = true)
    (ha : SA tb X (e :: es) ρ ops ρ1) (hd : viewL ρ1 ops = some ds)
    (h : ∀ pa B F σ H xs, Rel X.K tb pa B F σ H ρ1 → VwAll X.K F H xs ds → ∀ Q : VK, (∀ v F' H', Sm F F' → Rel X.K tb pa B F' σ H' ρ1 → OpR X.K B F' H' σ ρ1 v res → Q v H') → rr xs H Q) : SE tb X (.Call (.Name x P) (e :: es) [] pos) ρ res ρ1 := by
  intro pa B F σ H r Q q
  obtain ⟨h1, _, h3⟩ := okN_ok hk
  refine we_of (pe_callTy hc (glB_ok o hg) hx hv (pa_wa X (e :: es)) h3 h1 (noStar_eq (hn e List.mem_cons_self) _ _) (noStar_any _ _ fun e' he => hn e' (List.mem_cons_of_mem _ he))) ?_
  refine ha pa B F σ H r _ fun xs F' H' s' r' os => ?_
  exact h pa B F' σ H' xs r' (viewL_ok r' os hd) Q fun v F2 H2 s2 r2 o2 => q v F2 H2 (s'.trans s2) r2 o2
theorem VwAll.one {K : PySem.W.Frag} {F H : Hp} {xs : List V} {d : D} (h : VwAll K F H xs [d]) : ∃ x, xs = [x] ∧ Vw K F H x d := by
  cases h with
  | cons a r => cases r; exact ⟨_, rfl, a⟩
theorem VwAll.two {K : PySem.W.Frag} {F H : Hp} {xs : List V} {d e : D} (h : VwAll K F H xs [d, e]) : ∃ x y, xs = [x, y] ∧ Vw K F H x d ∧ Vw K F H y e := by
  cases h with
  | cons a r =>
    cases r with
    | cons b r => cases r; exact ⟨_, _, rfl, a, b⟩
theorem boot_abs : bootBuiltins "abs" = some (.builtin "abs") := by decide +kernel
theorem boot_max : bootBuiltins "max" = some (.builtin "max") := by decide +kernel
theorem boot_min : bootBuiltins "min" = some (.builtin "min") := by decide +kernel
theorem boot_divmod : bootBuiltins "divmod" = some (.builtin "divmod") := by decide +kernel
theorem boot_len : bootBuiltins "len" = some (.builtin "len") := by decide +kernel
theorem boot_sum : bootBuiltins "sum" = some (.builtin "sum") := by decide +kernel
theorem boot_int : bootBuiltins "int" = some (.type "int") := by decide +kernel
theorem boot_tuple : bootBuiltins "tuple" = some (.type "tuple") := by decide +kernel
theorem boot_list : bootBuiltins "list" = some (.type "list") := by decide +kernel
theorem boot_repr : bootBuiltins "repr" = some (.builtin "repr") := by decide +kernel
theorem boot_isi : bootBuiltins "isinstance" = some (.builtin "isinstance") := by decide +kernel
theorem boot_sorted : bootBuiltins "sorted" = some (.builtin "sorted") := by decide +kernel
theorem boot_all : bootBuiltins "all" = some (.builtin "all") := by decide +kernel
theorem boot_any : bootBuiltins "any" = some (.builtin "any") := by decide +kernel
theorem boolsD_ok {K : PySem.W.Frag} {F : Hp} : ∀ {xs : List V} {ds : List D} {ns : List Bool}, RpAll K F xs ds → boolsD ds = some ns → xs = ns.map V.bl
  | _, _, ns, .nil, e => by cases e; rfl
  | _, _, ns, .cons a r, e => by
    cases a with
    | bl i =>
      simp only [boolsD, Option.map_eq_some_iff] at e
      obtain ⟨m, e1, rfl⟩ := e
      rw [boolsD_ok r e1]; rfl
    | _ => cases e
theorem intsD_ok {K : PySem.W.Frag} {F : Hp} : ∀ {xs : List V} {ds : List D} {ns : List Int}, RpAll K F xs ds → intsD ds = some ns → xs = ns.map V.int
  | _, _, ns, .nil, e => by cases e; rfl
  | _, _, ns, .cons a r, e => by
    cases a with
    | int i =>
      simp only [intsD, Option.map_eq_some_iff] at e
      obtain ⟨m, e1, rfl⟩ := e
      rw [intsD_ok r e1]; rfl
    | _ => cases e
/-- repr(x) of data -/
def rReprD (K : PySem.W.Frag) : List V → Hp → VK → Prop := fun xs H Q => ∃ (x : V) (d : PyData), xs = [x] ∧ Dp K H x d ∧ reprOk d = true ∧ Q (.str d.shown) H
theorem call_reprD (hu : X.A.units + 100 < cLine) (hg : X.A.guards = some []) : CallR X (.builtin "repr") (rReprD X.K) := by
  intro pins s σ H xs us Q I r h
  obtain ⟨x, d, rfl, hd, ho, q⟩ := h
  obtain ⟨u, rfl, rx⟩ := vals1 r
  simp only [reprOk, Bool.and_eq_true, Bool.not_eq_true', decide_eq_true_eq] at ho
  obtain ⟨⟨⟨h1, h2⟩, h3⟩, h4⟩ := ho
  have hs : d.shown.length ≤ sizeLine := by omega
  have far : ∀ a, Dp X.K H x d → RelV x (.ref a) → wpAny (model X.prog X.w) X.A (call (.builtin "repr") [.ref a]) (EP X pins σ Q) X.xe s := fun a hd ra => by
    obtain ⟨as, rd⟩ := Dp.reads I d x _ hd ra
    refine PySem.repr_of_reads' rd h1 (PyData.noDict_hsm h2) hg (by omega) (fun b o e => e) (fun h' u tk hk => ?_) hs
    exact ⟨.str d.shown, H, I.kept hk, ⟨_, rfl⟩, q⟩
  cases hd with
  | non =>
    cases rx
    exact PySem.P.repr_of_none ⟨.str _, H, I.tok _, ⟨_, rfl⟩, by rw [← PyData.shown_none]; exact q⟩
  | bl b =>
    cases rx
    refine PySem.P.repr_of_bool ⟨.str (PyData.bool b).shown, H, I.tok _, ?_, q⟩
    cases b <;> exact ⟨_, rfl⟩
  | int i =>
    obtain ⟨t, rfl⟩ := rx
    refine PySem.P.repr_of_int ?_ ⟨.str (PyData.int i).shown, H, I.tok _, ⟨_, rfl⟩, q⟩
    simpa [PyData.showable] using h1
  | str y =>
    obtain ⟨t, rfl⟩ := rx
    refine PySem.P.repr_of_str ⟨.str (PyData.str y).shown, H, I.tok _, ⟨_, rfl⟩, q⟩ hs
  | lst a b =>
    cases rx
    exact far _ (.lst a b) rfl
  | tup a b =>
    cases rx
    exact far _ (.tup a b) rfl
end
end Ev

set_option maxHeartbeats 4000000
namespace Ev
open PySem PySem.Spec PyProof.Rows L2

section
variable {T : Tb} {tb : List Addr} {k : Nat} {s : Sc} {X : Cx} {a b c e : Expr} {es : List Expr} {ρ ρ1 ρ2 ρ3 : En} {oa ob oc op res : Op} {ops : List Op} {ds : List D} {pa : Nat → Addr} {B F H : Hp} {σ : St} {pos : Pos} {r1 r2 : Bool}

theorem viewL_len : ∀ {ops : List Op} {ds : List D}, viewL ρ ops = some ds → ops.length = ds.length
  | [], ds, h => by cases h; rfl
  | o :: os, ds, h => by
    simp only [viewL, Option.bind_eq_some_iff, Option.map_eq_some_iff] at h
    obtain ⟨d, _, ds', e2, rfl⟩ := h
    rw [List.length_cons, List.length_cons, viewL_len e2]
theorem rpInts {K : PySem.W.Frag} {F : Hp} : ∀ ns : List Int, RpAll K F (ns.map V.int) (ns.map .int)
  | [] => .nil
  | n :: ns => .cons (.int n) (rpInts ns)
def biNames : List String := ["len", "abs", "int", "max", "min", "divmod", "tuple", "list", "sum", "sorted", "all", "any", "repr"]
/-- built-in functions of data -/
theorem se_bi (o : XOk T tb k s X) {f : String} {P : Pos} (hg : glB s.sc (Str.ofString f) = true) (hk : okN (Str.ofString f) = true) (hn : ∀ e' ∈ es, noStar e' = true) (h0 : es = [] → ops = [])
    (ha : SA tb X es ρ ops ρ1) (hd : viewL ρ1 ops = some ds) (h : biD f ds = some res) : SE tb X (.Call (.Name (Str.ofString f) P) es [] pos) ρ res ρ1 := by
  cases es with
  | nil =>
    rw [h0 rfl] at hd
    cases hd
    unfold biD at h
    split at h <;> first | (rename_i q; cases q) | cases h
  | cons e es =>
    have hc := o.calm
    unfold biD at h
    split at h
    · cases h
      refine se_biB o (o.blt _ (by decide)) call_len_seq boot_len hg hk hn ha hd fun pa B F σ H xs r va Q q => ?_
      obtain ⟨x, rfl, v⟩ := va.one
      obtain ⟨p, vs, rfl, a1, b1⟩ := v.lstE
      refine ⟨p, vs, rfl, .inl (.inl a1), ?_⟩
      rw [RpAll.length b1]
      exact q _ F H (Sm.refl _) r (.int _)
    · cases h
      refine se_biB o (o.blt _ (by decide)) call_len_seq boot_len hg hk hn ha hd fun pa B F σ H xs r va Q q => ?_
      obtain ⟨x, rfl, v⟩ := va.one
      obtain ⟨p, vs, rfl, a1, b1⟩ := v.tupE
      refine ⟨p, vs, rfl, .inr (SqT.mono r.wf.fz a1), ?_⟩
      rw [RpAll.length b1]
      exact q _ F H (Sm.refl _) r (.int _)
    · cases h
      refine se_biB o (o.blt _ (by decide)) call_abs boot_abs hg hk hn ha hd fun pa B F σ H xs r va Q q => ?_
      obtain ⟨x, rfl, v⟩ := va.one
      rw [v.intE]
      exact ⟨_, rfl, q _ F H (Sm.refl _) r (.int _)⟩
    · cases h
      refine se_biT o (o.blt _ (by decide)) call_int1 boot_int hg hk hn ha hd fun pa B F σ H xs r va Q q => ?_
      obtain ⟨x, rfl, v⟩ := va.one
      rw [v.intE]
      exact .inl ⟨_, rfl, q _ F H (Sm.refl _) r (.int _)⟩
    · cases h
      refine se_biT o (o.blt _ (by decide)) call_int1 boot_int hg hk hn ha hd fun pa B F σ H xs r va Q q => ?_
      obtain ⟨x, rfl, v⟩ := va.one
      cases v
      exact .inr ⟨_, rfl, q _ F H (Sm.refl _) r (.int _)⟩
    · cases h
      refine se_biB o (o.blt _ (by decide)) (call_max2 hc) boot_max hg hk hn ha hd fun pa B F σ H xs r va Q q => ?_
      obtain ⟨x, y, rfl, v, w⟩ := va.two
      rw [v.intE, w.intE]
      exact ⟨_, _, rfl, q _ F H (Sm.refl _) r (.int _)⟩
    · cases h
      refine se_biB o (o.blt _ (by decide)) (call_min2 hc) boot_min hg hk hn ha hd fun pa B F σ H xs r va Q q => ?_
      obtain ⟨x, y, rfl, v, w⟩ := va.two
      rw [v.intE, w.intE]
      exact ⟨_, _, rfl, q _ F H (Sm.refl _) r (.int _)⟩
    · split at h
      · rename_i hj
        cases h
        refine se_biB o (o.blt _ (by decide)) call_divmod boot_divmod hg hk hn ha hd fun pa B F σ H xs r va Q q => ?_
        obtain ⟨x, y, rfl, v, w⟩ := va.two
        rw [v.intE, w.intE]
        have hj' := of_decide_eq_true hj
        refine ⟨_, _, rfl, hj', fun p hp => ?_⟩
        obtain ⟨F', s', r', o'⟩ := newT_ok r (RpAll.cons (Rp.int _) (RpAll.cons (Rp.int _) RpAll.nil)) hp
        exact q _ F' _ s' r' o'
      · cases h
    · cases h
      refine se_biT o (o.blt _ (by decide)) call_tuple_of boot_tuple hg hk hn ha hd fun pa B F σ H xs r va Q q => ?_
      obtain ⟨x, rfl, v⟩ := va.one
      obtain ⟨p, vs, rfl, a1, b1⟩ := v.lstE
      refine ⟨p, vs, rfl, .inl ⟨.inl a1, fun l hl => ?_⟩⟩
      obtain ⟨F', s', r', o'⟩ := newT_ok r b1 hl
      exact q _ F' _ s' r' o'
    · cases h
      refine se_biT o (o.blt _ (by decide)) call_tuple_of boot_tuple hg hk hn ha hd fun pa B F σ H xs r va Q q => ?_
      obtain ⟨x, rfl, v⟩ := va.one
      obtain ⟨p, vs, rfl, a1, b1⟩ := v.tupE
      exact ⟨p, vs, rfl, .inr ⟨SqT.mono r.wf.fz a1, q _ F H (Sm.refl _) r (show Rp X.K F _ _ from .tup a1 b1)⟩⟩
    · cases h
      refine se_biT o (o.blt _ (by decide)) call_list_of boot_list hg hk hn ha hd fun pa B F σ H xs r va Q q => ?_
      obtain ⟨x, rfl, v⟩ := va.one
      obtain ⟨p, vs, rfl, a1, b1⟩ := v.lstE
      refine ⟨p, vs, rfl, .inl (.inl a1), fun l hl => ?_⟩
      obtain ⟨r', o'⟩ := new_ok r b1 hl
      exact q _ F _ (Sm.refl _) r' o'
    · cases h
      refine se_biT o (o.blt _ (by decide)) call_list_of boot_list hg hk hn ha hd fun pa B F σ H xs r va Q q => ?_
      obtain ⟨x, rfl, v⟩ := va.one
      obtain ⟨p, vs, rfl, a1, b1⟩ := v.tupE
      refine ⟨p, vs, rfl, .inr (SqT.mono r.wf.fz a1), fun l hl => ?_⟩
      obtain ⟨r', o'⟩ := new_ok r b1 hl
      exact q _ F _ (Sm.refl _) r' o'
    · simp only [Option.map_eq_some_iff] at h
      obtain ⟨ns, h1, e1⟩ := h
      cases e1
      refine se_biB o (o.blt _ (by decide)) (cr_sum hc) boot_sum hg hk hn ha hd fun pa B F σ H xs r va Q q => ?_
      obtain ⟨x, rfl, v⟩ := va.one
      obtain ⟨p, vs, rfl, a1, b1⟩ := v.lstE
      rw [intsD_ok b1 h1] at a1
      exact ⟨p, ns, rfl, .inl a1, q _ F H (Sm.refl _) r (.int _)⟩
    · simp only [Option.map_eq_some_iff] at h
      obtain ⟨ns, h1, e1⟩ := h
      cases e1
      refine se_biB o (o.blt _ (by decide)) (cr_sumT hc) boot_sum hg hk hn ha hd fun pa B F σ H xs r va Q q => ?_
      obtain ⟨x, rfl, v⟩ := va.one
      obtain ⟨p, vs, rfl, a1, b1⟩ := v.tupE
      rw [intsD_ok b1 h1] at a1
      exact ⟨p, ns, rfl, SqT.mono r.wf.fz a1, q _ F H (Sm.refl _) r (.int _)⟩
    · simp only [Option.map_eq_some_iff] at h
      obtain ⟨ns, h1, e1⟩ := h
      cases e1
      refine se_biB o (o.blt _ (by decide)) cr_sortedLT boot_sorted hg hk hn ha hd fun pa B F σ H xs r va Q q => ?_
      obtain ⟨x, rfl, v⟩ := va.one
      obtain ⟨p, vs, rfl, a1, b1⟩ := v.lstE
      rw [intsD_ok b1 h1] at a1
      refine ⟨p, ns, rfl, .inl (.inl a1), fun l hl => ?_⟩
      obtain ⟨r', o'⟩ := new_ok r (rpInts (sortI ns)) hl
      exact q _ F _ (Sm.refl _) r' o'
    · simp only [Option.map_eq_some_iff] at h
      obtain ⟨ns, h1, e1⟩ := h
      cases e1
      refine se_biB o (o.blt _ (by decide)) cr_sortedLT boot_sorted hg hk hn ha hd fun pa B F σ H xs r va Q q => ?_
      obtain ⟨x, rfl, v⟩ := va.one
      obtain ⟨p, vs, rfl, a1, b1⟩ := v.tupE
      rw [intsD_ok b1 h1] at a1
      refine ⟨p, ns, rfl, .inr (SqT.mono r.wf.fz a1), fun l hl => ?_⟩
      obtain ⟨r', o'⟩ := new_ok r (rpInts (sortI ns)) hl
      exact q _ F _ (Sm.refl _) r' o'
    · simp only [Option.map_eq_some_iff] at h
      obtain ⟨bs, h1, e1⟩ := h
      cases e1
      refine se_biB o (o.blt _ (by decide)) (cr_all hc) boot_all hg hk hn ha hd fun pa B F σ H xs r va Q q => ?_
      obtain ⟨x, rfl, v⟩ := va.one
      obtain ⟨p, vs, rfl, a1, b1⟩ := v.lstE
      rw [boolsD_ok b1 h1] at a1
      exact ⟨p, bs, rfl, .inl a1, q _ F H (Sm.refl _) r (.bl _)⟩
    · simp only [Option.map_eq_some_iff] at h
      obtain ⟨bs, h1, e1⟩ := h
      cases e1
      refine se_biB o (o.blt _ (by decide)) (cr_any hc) boot_any hg hk hn ha hd fun pa B F σ H xs r va Q q => ?_
      obtain ⟨x, rfl, v⟩ := va.one
      obtain ⟨p, vs, rfl, a1, b1⟩ := v.lstE
      rw [boolsD_ok b1 h1] at a1
      exact ⟨p, bs, rfl, .inl a1, q _ F H (Sm.refl _) r (.bl _)⟩
    · simp only [Option.map_eq_some_iff] at h
      obtain ⟨ns, h1, e1⟩ := h
      cases e1
      refine se_biB o (o.blt _ (by decide)) (cr_anyT hc) boot_any hg hk hn ha hd fun pa B F σ H xs r va Q q => ?_
      obtain ⟨x, rfl, v⟩ := va.one
      obtain ⟨p, vs, rfl, a1, b1⟩ := v.tupE
      rw [intsD_ok b1 h1] at a1
      exact ⟨p, ns, rfl, SqT.mono r.wf.fz a1, q _ F H (Sm.refl _) r (.bl _)⟩
    · simp only [Option.bind_eq_some_iff, Option.map_eq_some_iff] at h
      obtain ⟨ns, h1, m, h2, e1⟩ := h
      cases e1
      refine se_biB o (o.blt _ (by decide)) (cr_min hc) boot_min hg hk hn ha hd fun pa B F σ H xs r va Q q => ?_
      obtain ⟨x, rfl, v⟩ := va.one
      obtain ⟨p, vs, rfl, a1, b1⟩ := v.lstE
      rw [intsD_ok b1 h1] at a1
      have h3 := List.min?_eq_some_iff.mp h2
      refine ⟨p, ns, rfl, .inl a1, List.length_pos_of_mem h3.1, fun m' hm' hle => ?_⟩
      have : m' = m := Int.le_antisymm (hle m h3.1) (h3.2 m' hm')
      rw [this]
      exact q _ F H (Sm.refl _) r (.int _)
    · simp only [Option.bind_eq_some_iff, Option.map_eq_some_iff] at h
      obtain ⟨ns, h1, m, h2, e1⟩ := h
      cases e1
      refine se_biB o (o.blt _ (by decide)) (cr_max hc) boot_max hg hk hn ha hd fun pa B F σ H xs r va Q q => ?_
      obtain ⟨x, rfl, v⟩ := va.one
      obtain ⟨p, vs, rfl, a1, b1⟩ := v.lstE
      rw [intsD_ok b1 h1] at a1
      have h3 := List.max?_eq_some_iff.mp h2
      refine ⟨p, ns, rfl, .inl a1, List.length_pos_of_mem h3.1, fun m' hm' hle => ?_⟩
      have : m' = m := Int.le_antisymm (h3.2 m' hm') (hle m h3.1)
      rw [this]
      exact q _ F H (Sm.refl _) r (.int _)
    · split at h
      · rename_i hj
        cases h
        have hu := o.room.un
        refine se_biB o (o.blt _ (by decide)) (call_reprD (by omega) o.grd) boot_repr hg hk hn ha hd fun pa B F σ H xs r va Q q => ?_
        obtain ⟨x, rfl, v⟩ := va.one
        exact ⟨x, _, rfl, (v.rp r.wf.fz).dp, hj, q _ F H (Sm.refl _) r (.str _)⟩
      · cases h
    · cases h

/-! ### isinstance -/
theorem tyx_ok {K : PySem.W.Frag} {x : V} {d : D} (v : Vw K F H x d) (m : Sm F H) : TyX K H x (.type (tyD d)) := by
  cases v with
  | non => exact .base .non
  | bl b => exact .base (.bl b)
  | int i => exact .base (.int i)
  | str y => exact .base (.str y)
  | lst h _ =>
    rcases h with h | ⟨o, h⟩
    · exact .base (.lst h)
    · exact .base (.frz h)
  | tup h _ =>
    rcases h with h | ⟨o, its, n, h1, h2, _⟩
    · rcases h with h | ⟨o, h⟩
      · exact .base (.tup (m _ _ h))
      · exact .fTuple (m _ _ h)
    · exact .kTuple h1 h2
theorem boot_ty {t : String} (h : t ∈ tyNames) : bootBuiltins (Str.ofString t) = some (.type t) ∧ Str.ofString t ∈ bnames := by
  simp only [tyNames, List.mem_cons, List.not_mem_nil, or_false] at h
  rcases h with rfl | rfl | rfl | rfl | rfl | rfl | rfl <;> exact ⟨by decide +kernel, by decide⟩
theorem se_isi (o : XOk T tb k s X) {t : String} {P P2 : Pos} {d : D} {r : Bool} (ht : t ∈ tyNames) (hg : glB s.sc (Str.ofString "isinstance") = true) (hg2 : glB s.sc (Str.ofString t) = true) (hk2 : okN (Str.ofString t) = true) (hn : noStar a = true)
    (ha : SE tb X a ρ oa ρ1) (hd : viewOp ρ1 oa = some d) (h : kitB (tyD d) t = some r) : SE tb X (.Call (.Name (Str.ofString "isinstance") P) [a, .Name (Str.ofString t) P2] [] pos) ρ (.val (.bool r)) ρ1 := by
  intro pa B F σ H rr Q q
  obtain ⟨b1, b2⟩ := boot_ty ht
  obtain ⟨h1, h2, h3⟩ := okN_ok hk2
  refine we_of (pe_callB call_isi (glB_ok o hg) (o.blt _ (by decide)) boot_isi (pa_cons (pe_we X a) (pa_cons (pe_bltn (glB_ok o hg2) (o.blt _ b2) b1 (show RelV (V.ty t) (.type t) from rfl) h3 h1) pa_nil (noStar_eq rfl _ _)) (noStar_eq hn _ _)) (by decide) (by decide) (noStar_eq hn _ _) (noStar_any _ _ fun e' he => by
    rcases List.mem_cons.mp he with rfl | he
    · rfl
    · cases he)) ?_
  refine ha.use rr hd fun x F' H' s' r' v => ?_
  exact ⟨x, .ty t, _, _, r, rfl, .ty t, tyx_ok v r'.wf.fz, kit_ty h, q _ F' H' s' r' (.bl _)⟩
end
end Ev

set_option maxHeartbeats 4000000
namespace Ev
open PySem PySem.Spec PyProof.Rows L2

/-! ### calls with keywords -/
def WK (X : Cx) (kws : List Keyword) : TA := fun σ H Q => ∀ (pos : Pos) (pins : List (Addr × Obj)) (s : Shared), Inv X pins σ H s → wpAny (model X.prog X.w) X.A (evalAll ((backToKw pos (keywordEach kws X.env)).map (·.2))) (AP X pins σ Q) X.xe s
section
variable {T : Tb} {tb : List Addr} {k : Nat} {s : Sc} {X : Cx} {a b c e : Expr} {es : List Expr} {ρ ρ1 ρ2 ρ3 : En} {oa ob oc op res : Op} {ops : List Op} {ds : List D} {d : D} {pa : Nat → Addr} {B F H : Hp} {σ : St} {pos : Pos} {r1 r2 : Bool}
theorem pk_wk (X : Cx) (kws : List Keyword) : PK X kws (WK X kws) := ⟨fun pos pins s σ H Q I h => h pos pins s I⟩
theorem wk_of {kws : List Keyword} {t : TA} {Q : List V → Hp → Prop} (h : PK X kws t) (q : t σ H Q) : WK X kws σ H Q := fun pos pins s I => h.run pos pins s σ H Q I q
/-- expressions in a row -/
inductive SEs (tb : List Addr) (X : Cx) : List Expr → En → List Op → En → Prop
  | nil {ρ : En} : SEs tb X [] ρ [] ρ
  | cons {e : Expr} {es : List Expr} {ρ ρ1 ρ2 : En} {o : Op} {os : List Op} : noStar e = true → SE tb X e ρ o ρ1 → SEs tb X es ρ1 os ρ2 → SEs tb X (e :: es) ρ (o :: os) ρ2
theorem sk_of : ∀ {kws : List Keyword} {ρ ρ' : En} {ops : List Op}, SEs tb X (kws.map (·.value)) ρ ops ρ' → ∀ pa B F σ H, Rel X.K tb pa B F σ H ρ → ∀ Q : List V → Hp → Prop, (∀ xs F' H', Sm F F' → Rel X.K tb pa B F' σ H' ρ' → OpRs X.K tb pa F' H' σ ρ' B xs ops → Q xs H') → WK X kws σ H Q
  | [], ρ, ρ', ops, h => by
    cases h
    exact fun pa B F σ H r Q q => wk_of pk_nil (q [] F H (Sm.refl _) r trivial)
  | ⟨nm, e, kp⟩ :: kws, ρ, ρ', ops, h => by
    cases h with
    | cons hn h1 h2 =>
      intro pa B F σ H r Q q
      refine wk_of (pk_cons (pe_we X e) (pk_wk X kws)) (h1 pa B F σ H r _ fun x F1 H1 s1 r1 o1 => ?_)
      obtain ⟨B1, sB, nB, rB⟩ := OpR.hold1 r1 o1
      refine sk_of h2 pa B1 F1 σ H1 rB _ fun xs F2 H2 s2 r2 os => ?_
      exact q (x :: xs) F2 H2 (s1.trans s2) (r2.less sB) ⟨o1.back nB sB rB s2 r2, B1, sB, nB, r2, os⟩
theorem sak_of : ∀ {es : List Expr} {kws : List Keyword} {ρ ρ' : En} {ops : List Op}, SEs tb X (es ++ kws.map (·.value)) ρ ops ρ' → ∀ pa B F σ H, Rel X.K tb pa B F σ H ρ → ∀ Q : List V → List V → Hp → Prop, (∀ xs zs F' H', xs.length = es.length → zs.length = kws.length → Sm F F' → Rel X.K tb pa B F' σ H' ρ' → OpRs X.K tb pa F' H' σ ρ' B (xs ++ zs) ops → Q xs zs H') →
    WA X es σ H fun xs H1 => WK X kws σ H1 fun zs H2 => Q xs zs H2
  | [], kws, ρ, ρ', ops, h => by
    intro pa B F σ H r Q q
    refine wa_of pa_nil (sk_of h pa B F σ H r _ fun zs F' H' s' r' os => ?_)
    have hl : zs.length = kws.length := by
      have h1 := OpRs.length os
      have h2 : ∀ {es : List Expr} {ρ ρ' : En} {ops : List Op}, SEs tb X es ρ ops ρ' → ops.length = es.length := by
        intro es ρ ρ' ops h
        induction h with
        | nil => rfl
        | cons _ _ _ ih => rw [List.length_cons, List.length_cons, ih]
      rw [h1, h2 h]; simp
    exact q [] zs F' H' rfl hl s' r' os
  | e :: es, kws, ρ, ρ', ops, h => by
    rw [List.cons_append] at h
    cases h with
    | cons hn h1 h2 =>
      intro pa B F σ H r Q q
      refine wa_of (pa_cons (pe_we X e) (pa_wa X es) (noStar_eq hn _ _)) (h1 pa B F σ H r _ fun x F1 H1 s1 r1 o1 => ?_)
      obtain ⟨B1, sB, nB, rB⟩ := OpR.hold1 r1 o1
      refine sak_of h2 pa B1 F1 σ H1 rB (fun xs zs H2 => Q (x :: xs) zs H2) fun xs zs F2 H2 l1 l2 s2 r2 os => ?_
      exact q (x :: xs) zs F2 H2 (by rw [List.length_cons, List.length_cons, l1]) l2 (s1.trans s2) (r2.less sB) ⟨o1.back nB sB rB s2 r2, B1, sB, nB, r2, os⟩
theorem permL_rp {K : PySem.W.Frag} {F : Hp} {xs : List V} {ds : List D} (h : RpAll K F xs ds) : ∀ pm : List Nat, RpAll K F (permL pm xs) (permL pm ds)
  | [] => .nil
  | i :: pm => by
    have ih := permL_rp h pm
    unfold permL at ih ⊢
    rw [List.filterMap_cons, List.filterMap_cons]
    cases hd : ds[i]? with
    | none =>
      have : xs[i]? = none := by
        rw [List.getElem?_eq_none_iff] at hd ⊢
        rw [RpAll.length h]; exact hd
      rw [this]
      exact ih
    | some d =>
      obtain ⟨x, e1, e2⟩ := RpAll.get h hd
      rw [e1]
      exact .cons e2 ih
theorem permL_vals {xs : List V} {us : List Value} (h : Vals xs us) : ∀ pm : List Nat, Vals (permL pm xs) (permL pm us)
  | [] => .nil
  | i :: pm => by
    have ih := permL_vals h pm
    unfold permL at ih ⊢
    rw [List.filterMap_cons, List.filterMap_cons]
    cases hd : xs[i]? with
    | none =>
      have : us[i]? = none := by
        rw [List.getElem?_eq_none_iff] at hd ⊢
        rw [← h.length]; exact hd
      rw [this]
      exact ih
    | some x =>
      obtain ⟨u, e1, e2⟩ := h.get hd
      rw [e1]
      exact .cons e2 ih
theorem rp_ops : ∀ {xs : List V} {ds : List D} {B : Hp}, Rel X.K tb pa B F σ H ρ → RpAll X.K F xs ds → OpRs X.K tb pa F H σ ρ B xs (ds.map .val)
  | _, _, _, r, .nil => trivial
  | _, _, _, r, .cons a rr => ⟨a, _, Sm.refl _, (fun p ds e _ => by cases e), r, rp_ops r rr⟩
theorem runGK {k : Nat} {f : Addr} {fd : FuncData} {ps ks : List Str} {sp : Sp} {n : Nat} {pm : List Nat} {pins : List (Addr × Obj)} {s : Shared} {Q : VK} {us ws : List Value} {vs zs : List V} (F : FnG X.prog X.w X.K X.mg X.base k f fd ps sp) (hg : X.A.guards = some []) (hr : Room k X.A) (hb : KB X.K fd ps n ks pm)
    (I : Inv X pins σ H s) (r : Vals vs us) (rz : Vals zs ws) (hl : vs.length = n) (hlz : zs.length = ks.length) (h : sp (permL pm (vs ++ zs)) H Q E0) : wpAny (model X.prog X.w) X.A (call (.ref f) us (ks.zip ws)) (EP X pins σ Q) X.xe s := by
  have hbb := hb s us ws I.kIn (by rw [← r.length]; exact hl) (by rw [← rz.length]; exact hlz)
  refine wpAny_call (codeAny_mono (F.run X.A X.stack s H ⟨us, ks.zip ws⟩ (permL pm (us ++ ws)) (permL pm (vs ++ zs)) Q E0 hg hr I.env0 hbb (permL_vals (r.append rz) pm) h) fun res s' hq => ?_)
  match res, hq with
  | .ok (.ret u), hq => exact I.after hq
  | .error e, hq => exact False.elim hq
theorem kw_facts : ∀ {kws : List Keyword} {ks : List Str} (pos : Pos) (env : Env), kws.map (·.arg) = ks.map some → (backToKw pos (keywordEach kws env)).all (·.1.isSome) = true ∧ (backToKw pos (keywordEach kws env)).filterMap (·.1) = ks ∧ (backToKw pos (keywordEach kws env)).any (·.1.isNone) = false
  | [], [], pos, env, h => ⟨rfl, rfl, rfl⟩
  | [], _ :: _, pos, env, h => by cases h
  | ⟨a, v, p⟩ :: kws, [], pos, env, h => by cases h
  | ⟨a, v, p⟩ :: kws, x :: ks, pos, env, h => by
    rw [List.map_cons, List.map_cons] at h
    injection h with h1 h2
    obtain ⟨q1, q2, q3⟩ := kw_facts pos env h2
    cases h1
    unfold backToKw at q1 q2 q3 ⊢
    refine ⟨?_, ?_, ?_⟩
    · show ((some x).isSome && _) = true
      rw [q1]; rfl
    · show x :: _ = x :: ks
      rw [q2]
    · show ((some x).isNone || _) = false
      rw [q3]; rfl
theorem se_calk {x : Str} {fs : FS} {P : Pos} {kws : List Keyword} {ks : List Str} {n : Nat} {pm : List Nat} (o : XOk T tb k s X) (hg : glB s.sc x = true) (hk : okN x = true) (hks : T.ks x n ks = some pm) (hf : T.fs x = some fs) (hn : ∀ e' ∈ es, noStar e' = true) (hl : es.length = n) (hkw : kws.map (·.arg) = ks.map some)
    (ha : SEs tb X (es ++ kws.map (·.value)) ρ ops ρ1) (hkp : keepL ρ1 ops = some (ds, ρ2)) (h : callF fs ((permL pm ds).map .val) ρ2 = some (res, ρ3)) :
    SE tb X (.Call (.Name x P) es kws pos) ρ res ρ3 := by
  intro pa B F σ H r Q q pins s0 I
  obtain ⟨h1, _, _⟩ := okN_ok hk
  obtain ⟨f, fd, ps, hF, hm, hkpn, hb⟩ := (o.kws x n ks pm fs hks hf).ex
  obtain ⟨k1, k2, k3⟩ := kw_facts pos X.env hkw
  have hkl : ks.length = kws.length := by
    have := congrArg List.length hkw
    simpa using this.symm
  have body : WA X es σ H fun xs H1 => WK X kws σ H1 fun zs H2 => xs.length = n ∧ zs.length = ks.length ∧ SpOf X.K tb fs (permL pm (xs ++ zs)) H2 Q E0 := by
    refine sak_of ha pa B F σ H r _ fun xs zs F1 H1 l1 l2 s1 r1 os => ⟨l1.trans hl, l2.trans hkl.symm, ?_⟩
    obtain ⟨F2, s2, r2, dp⟩ := keepL_ok r1 os hkp
    exact callF_ok r2 (rp_ops r2 (permL_rp dp pm)) h fun y F3 H3 s3 r3 o3 => q y F3 H3 ((s1.trans s2).trans s3) r3 o3
  refine wpAny_Call_Name_kw (ld_glob I (glB_ok o hg) hm ?_ h1)
  have body := body pos pins s0 I
  have hend : ∀ {vs : List V} {H1 : Hp} {us : List Value} {s1 : Shared}, Inv X pins σ H1 s1 → Vals vs us → (WK X kws σ H1 fun zs H2 => vs.length = n ∧ zs.length = ks.length ∧ SpOf X.K tb fs (permL pm (vs ++ zs)) H2 Q E0) →
      wpAny (model X.prog X.w) X.A (evalAll ((backToKw pos (keywordEach kws X.env)).map (·.2))) (fun ws s₂ => X.K.In s₂.heap ∧ wpAny (model X.prog X.w) X.A (call (.ref f) ([] ++ us) (((backToKw pos (keywordEach kws X.env)).filterMap (·.1)).zip ws)) (EP X pins σ Q) X.xe s₂) X.xe s1 := fun {vs H1 us s1} I1 rv hw => by
    refine thn (hw pos pins s1 I1) fun ws s2 ⟨zs, H2, I2, rz, l1, l2, q2⟩ => ⟨I2.kIn, ?_⟩
    rw [k2]
    exact runGK hF o.grd o.room hb I2 rv rz l1 l2 q2
  cases es with
  | nil =>
    refine PySem.W.callWith_KW0 (h₀ := X.base) I.ok.mod.kin hkpn k1 ?_ (by rw [k3]; rfl)
    refine hend I .nil ?_
    intro pos' pins' s' I'
    have b2 : WA X [] σ H fun xs H1 => WK X kws σ H1 fun zs H2 => xs.length = n ∧ zs.length = ks.length ∧ SpOf X.K tb fs (permL pm (xs ++ zs)) H2 Q E0 := by
      refine sak_of ha pa B F σ H r _ fun xs zs F1 H1 l1 l2 s1 r1 os => ⟨l1.trans hl, l2.trans hkl.symm, ?_⟩
      obtain ⟨F2, s2, r2, dp⟩ := keepL_ok r1 os hkp
      exact callF_ok r2 (rp_ops r2 (permL_rp dp pm)) h fun y F3 H3 s3 r3 o3 => q y F3 H3 ((s1.trans s2).trans s3) r3 o3
    have b3 := sk_of ha pa B F σ H r (fun zs H2 => ([] : List V).length = n ∧ zs.length = ks.length ∧ SpOf X.K tb fs (permL pm ([] ++ zs)) H2 Q E0) fun zs F1 H1 s1 r1 os => by
      have l2 : zs.length = kws.length := by
        have z1 := OpRs.length os
        have z2 : ∀ {es : List Expr} {ρ ρ' : En} {ops : List Op}, SEs tb X es ρ ops ρ' → ops.length = es.length := by
          intro es ρ ρ' ops h
          induction h with
          | nil => rfl
          | cons _ _ _ ih => rw [List.length_cons, List.length_cons, ih]
        rw [z1, z2 ha]; simp
      refine ⟨hl, l2.trans hkl.symm, ?_⟩
      obtain ⟨F2, s2, r2, dp⟩ := keepL_ok r1 os hkp
      exact callF_ok r2 (rp_ops r2 (permL_rp dp pm)) h fun y F3 H3 s3 r3 o3 => q y F3 H3 ((s1.trans s2).trans s3) r3 o3
    exact b3 pos' pins' s' I'
  | cons e es =>
    have hst := noStar_eq (hn e List.mem_cons_self) es X.env
    have hpl := noStar_any X.env pos fun e' he => hn e' (List.mem_cons_of_mem _ he)
    refine PySem.W.callWith_KW (h₀ := X.base) I.ok.mod.kin hkpn k1 (thn body fun us s1 ⟨vs, H1, I1, rv, hw⟩ => hend I1 rv hw) ?_ hst
    rw [k3, hst]
    show ((false || (backTo pos (starEach es X.env)).any (·.1)) || false) = false
    rw [hpl]; rfl
end
end Ev

set_option maxHeartbeats 4000000
namespace Ev
open PySem PySem.Spec PyProof.Rows L2

/-! ### wiping -/
section
variable {K : PySem.W.Frag} {tb : List Addr} {pa : Nat → Addr} {B B1 F F' : Hp} {σ σ' : St} {H H' : Hp} {ρ ρ' ρ0 ρ1 : En} {x : V} {op : Op} {d : D} {ds : List D} {i : Nat} {p : Addr}
theorem wipeE_length (ρ : En) : ∀ vs : List Nat, (wipeE ρ vs).length = ρ.length
  | [] => rfl
  | v :: vs => by unfold wipeE; rw [List.length_set, wipeE_length ρ vs]
theorem wipeE_out : ∀ {vs : List Nat}, i ∉ vs → (wipeE ρ vs)[i]? = ρ[i]?
  | [], _ => rfl
  | v :: vs, h => by
    simp only [List.mem_cons, not_or] at h
    unfold wipeE
    rw [List.getElem?_set_ne (fun e => h.1 e.symm), wipeE_out h.2]
theorem wipe_out : ∀ {vs : List Nat}, i ∉ vs → (wipe σ vs)[i]? = σ[i]?
  | [], _ => rfl
  | v :: vs, h => by
    simp only [List.mem_cons, not_or] at h
    unfold wipe
    rw [List.getElem?_set_ne (fun e => h.1 e.symm), wipe_out h.2]
theorem wipeE_in {s : Sl} : ∀ {vs : List Nat}, i ∈ vs → (wipeE ρ vs)[i]? = some s → s = .u
  | [], h, _ => by cases h
  | v :: vs, h, e => by
    unfold wipeE at e
    rcases set_get_cases e with ⟨_, z⟩ | ⟨hi, z⟩
    · exact z
    · rcases List.mem_cons.mp h with q | q
      · exact absurd q hi
      · exact wipeE_in q z
theorem wipe_set {v : Option V} : ∀ {vs : List Nat}, i ∈ vs → wipe (σ.set i v) vs = wipe σ vs
  | [], h => by cases h
  | w :: vs, h => by
    unfold wipe
    by_cases hi : i ∈ vs
    · rw [wipe_set hi]
    · rcases List.mem_cons.mp h with q | q
      · subst q
        have : ∀ {us : List Nat}, i ∉ us → wipe (σ.set i v) us = (wipe σ us).set i v := by
          intro us hu
          induction us with
          | nil => rfl
          | cons u us ih =>
            simp only [List.mem_cons, not_or] at hu
            unfold wipe
            rw [ih hu.2, List.set_comm _ _ hu.1]
        rw [this hi, List.set_set]
      · exact absurd q hi
theorem Rel.drop (r : Rel K tb pa B F σ H ρ) (i : Nat) : Rel K tb pa B F (σ.set i none) H (ρ.set i .u) := by
  refine ⟨r.wf, by rw [List.length_set, List.length_set]; exact r.len, fun j t ht => ?_, fun j k s t hjk hs ht os ot => ?_⟩
  · rcases set_get_cases ht with ⟨rfl, rfl⟩ | ⟨hj, ht⟩
    · trivial
    · have q := r.sl j t ht
      cases t with
      | u => trivial
      | v d' => obtain ⟨y, a, b⟩ := q; exact ⟨y, by rw [List.getElem?_set_ne (Ne.symm hj)]; exact a, b⟩
      | o mt ds => obtain ⟨p, vs, a, b⟩ := q; exact ⟨p, vs, by rw [List.getElem?_set_ne (Ne.symm hj)]; exact a, b⟩
  · rcases set_get_cases hs with ⟨rfl, rfl⟩ | ⟨hj, hs⟩
    · cases os
    · rcases set_get_cases ht with ⟨rfl, rfl⟩ | ⟨hk, ht⟩
      · cases ot
      · rw [List.getElem?_set_ne (Ne.symm hj), List.getElem?_set_ne (Ne.symm hk)]
        exact r.ne j k s t hjk hs ht os ot
theorem Rel.wipe (r : Rel K tb pa B F σ H ρ) : ∀ vs : List Nat, Rel K tb pa B F (wipe σ vs) H (wipeE ρ vs)
  | [] => r
  | v :: vs => (Rel.wipe r vs).drop v
theorem backE_length (ρ ρ' : En) : ∀ vs : List Nat, (backE ρ ρ' vs).length = ρ'.length
  | [] => rfl
  | v :: vs => by unfold backE; rw [List.length_set, backE_length ρ ρ' vs]
theorem backE_out : ∀ {vs : List Nat}, i ∉ vs → (backE ρ0 ρ1 vs)[i]? = ρ1[i]?
  | [], _ => rfl
  | v :: vs, h => by
    simp only [List.mem_cons, not_or] at h
    unfold backE
    rw [List.getElem?_set_ne (fun e => h.1 e.symm), backE_out h.2]
theorem backE_in {s : Sl} : ∀ {vs : List Nat}, i ∈ vs → (backE ρ0 ρ1 vs)[i]? = some s → s = .u ∨ ∃ d, ρ0[i]? = some (.v d) ∧ s = .v d
  | [], h, _ => by cases h
  | v :: vs, h, e => by
    unfold backE at e
    rcases set_get_cases e with ⟨z1, z⟩ | ⟨hi, z⟩
    · subst z1
      split at z
      · rename_i d hd
        exact .inr ⟨d, hd, z⟩
      · exact .inl z
    · rcases List.mem_cons.mp h with q | q
      · exact absurd q hi
      · exact backE_in q z
theorem Rel.back {F0 H0 : Hp} {vs : List Nat} (r0 : Rel K tb pa B F0 σ H0 ρ0) (m : Sm F0 F) (r : Rel K tb pa B F (L2.wipe σ vs) H (wipeE ρ1 vs)) : Rel K tb pa B F σ H (backE ρ0 ρ1 vs) := by
  have own : ∀ (j : Nat) (s : Sl), (backE ρ0 ρ1 vs)[j]? = some s → s.own = true → j ∉ vs ∧ (wipeE ρ1 vs)[j]? = some s := fun j s hs os => by
    by_cases hj : j ∈ vs
    · rcases backE_in hj hs with rfl | ⟨d, _, rfl⟩ <;> cases os
    · exact ⟨hj, by rw [wipeE_out hj, ← backE_out (ρ0 := ρ0) hj]; exact hs⟩
  refine ⟨r.wf, ?_, fun j t ht => ?_, fun j k s t hjk hs ht os ot => ?_⟩
  · have := r.len
    rw [wipe_length, wipeE_length] at this
    rw [backE_length]; exact this
  · by_cases hj : j ∈ vs
    · rcases backE_in hj ht with rfl | ⟨d, hd, rfl⟩
      · trivial
      · obtain ⟨y, a, b⟩ := r0.sl j _ hd
        exact ⟨y, a, Rp.mono m b⟩
    · have q := r.sl j t (by rw [wipeE_out hj, ← backE_out (ρ0 := ρ0) hj]; exact ht)
      cases t with
      | u => trivial
      | v d => obtain ⟨y, a, b⟩ := q; exact ⟨y, by rw [wipe_out hj] at a; exact a, b⟩
      | o mt ds => obtain ⟨p, ws, a, b⟩ := q; exact ⟨p, ws, by rw [wipe_out hj] at a; exact a, b⟩
  · obtain ⟨h1, h2⟩ := own j s hs os
    obtain ⟨h3, h4⟩ := own k t ht ot
    have := r.ne j k s t hjk h2 h4 os ot
    rw [wipe_out h1, wipe_out h3] at this
    exact this
/-- a free list beside the slots is written -/
theorem Rel.writeFree (r : Rel K tb pa B F σ H ρ) {vs ws : List V} (hp : H p = some (.lst vs)) (hf : F p = none) (hb : B p = none) (off : Off σ ρ p) : Rel K tb pa B F σ (upd H p (.lst ws)) ρ :=
  ⟨r.wf.write hp hf hb, r.len, fun i s e => (r.sl i s e).same (Sm.refl _) fun q w z => ⟨fun u y => by
    rw [upd_ne]; exact y
    rintro rfl; exact off i s e w z, fun y => y⟩, r.ne⟩
theorem Rel.off_bg (r : Rel K tb pa B F σ H ρ) {o : HO} (h : B p = some o) : Off σ ρ p := fun j s e ho z => by
  have q := r.sl j s e
  cases s with
  | u => cases ho
  | v d => cases ho
  | o mt ds =>
    obtain ⟨p', vs, a, _, b, _, c, _⟩ := q
    rw [a] at z; cases z; rw [h] at c; cases c
end

/-! ### what is walked -/
def Yld (K : PySem.W.Frag) (F H H' : Hp) (x : V) (d : D) : Prop :=
  (H' = H ∧ Rp K F x d) ∨ ∃ p vs ds', x = .ref p ∧ H p = none ∧ H' = upd H p (.tup vs) ∧ d = .tuple ds' ∧ RpAll K F vs ds'
structure Wk (K : PySem.W.Frag) (F : Hp) (J : It) (ds : List D) : Prop where
  go : ∀ i H, Sm F H → i < ds.length → J.go i H
  stop : ∀ i H, Sm F H → ds.length ≤ i → J.stop i H
  yld : ∀ i H x H' d, Sm F H → ds[i]? = some d → J.yld i H x H' → Yld K F H H' x d
def WI (X : Cx) (tg iter : Expr) : TI := fun σ H R => ∀ (pins : List (Addr × Obj)) (s : Shared), Inv X pins σ H s → wpAny (model X.prog X.w) X.A (eval iter X.env) (fun v s1 => wpAny (model X.prog X.w) X.A (pyIter v) (PIE X pins σ tg R) X.xe s1) X.xe s
theorem pi_wi (X : Cx) (tg iter : Expr) : PI X tg iter (WI X tg iter) := ⟨fun pins s σ H R I h => h pins s I⟩
theorem wi_of {X : Cx} {tg iter : Expr} {wi : TI} {σ : St} {H : Hp} {R : It → Hp → Prop} (h : PI X tg iter wi) (q : wi σ H R) : WI X tg iter σ H R := fun pins s I => h.run pins s σ H R I q
def WTs (X : Cx) (ifs : List Expr) : TT := fun σ H Q => ∀ (pins : List (Addr × Obj)) (s : Shared), Inv X pins σ H s → wpAny (model X.prog X.w) X.A (forIn ifs true fun c r => if r = true then do let ok ← isTrue c X.env (eval c X.env); pure (ForInStep.yield ok) else pure (ForInStep.yield r)) (TP X pins σ Q) X.xe s
theorem pts_wts (X : Cx) (ifs : List Expr) : PTs X ifs (WTs X ifs) := ⟨fun pins s σ H Q I h => h pins s I⟩
theorem wts_of {X : Cx} {ifs : List Expr} {t : TT} {σ : St} {H : Hp} {Q : Bool → Hp → Prop} (h : PTs X ifs t) (q : t σ H Q) : WTs X ifs σ H Q := fun pins s I => h.run pins s σ H Q I q
section
variable (tb : List Addr) (X : Cx)
def SI (tg iter : Expr) (ρ : En) (ds : List D) (ρ' : En) : Prop := ∀ pa B F σ H, Rel X.K tb pa B F σ H ρ → ∀ R : It → Hp → Prop, (∀ J F' H', Sm F F' → Rel X.K tb pa B F' σ H' ρ' → Wk X.K F' J ds → R J H') → WI X tg iter σ H R
def SG (tg : Expr) (ix : List Nat) (ρ : En) (d : D) (ρ' : En) : Prop := ∀ pa B F σ H x, Rel X.K tb pa B F σ H ρ → Rp X.K F x d → ∀ Q : St → Hp → Prop, (∀ σ', Rel X.K tb pa B F σ' H ρ' → (∀ vs : List Nat, (∀ i ∈ ix, i ∈ vs) → wipe σ' vs = wipe σ vs) → Q σ' H) → WG X tg x σ H Q
def STs (ifs : List Expr) (ρ : En) (b : Bool) (ρ' : En) : Prop := ∀ pa B F σ H, Rel X.K tb pa B F σ H ρ → ∀ Q : Bool → Hp → Prop, (∀ F' H', Sm F F' → Rel X.K tb pa B F' σ H' ρ' → Q b H') → WTs X ifs σ H Q
end
section
variable {T : Tb} {tb : List Addr} {k : Nat} {s : Sc} {X : Cx} {a b c e : Expr} {es : List Expr} {ρ ρ1 ρ2 ρ3 : En} {oa ob oc op res : Op} {ops : List Op} {ds : List D} {pa : Nat → Addr} {B F H : Hp} {σ : St} {pos : Pos} {r1 r2 : Bool}
theorem Yld.ok {K : PySem.W.Frag} {H' : Hp} {x : V} {d : D} (y : Yld K F H H' x d) (r : Rel K tb pa B F σ H ρ) : ∃ F', Sm F F' ∧ Sm H H' ∧ Rel K tb pa B F' σ H' ρ ∧ Rp K F' x d := by
  rcases y with ⟨rfl, h⟩ | ⟨p, vs, ds', rfl, hp, rfl, rfl, h⟩
  · exact ⟨F, Sm.refl _, Sm.refl _, r, h⟩
  · obtain ⟨a, b⟩ := r.wf.none hp
    exact ⟨upd F p (.tup vs), Sm.upd a, Sm.upd hp, (r.laid hp (.tup vs)).freeze upd_same (fun ps z => by cases z) a b (r.off_none hp), .tup (SqT.of upd_same) (RpAll.mono (Sm.upd a) h)⟩
theorem evComp_len {f : D → En → Option (Option D × En)} : ∀ {xs acc : List D} {ρ : En} {r : List D × En}, evComp f xs acc ρ = some r → acc.length ≤ r.1.length
  | [], acc, ρ, r, h => by cases h; exact Nat.le_refl _
  | x :: xs, acc, ρ, r, h => by
    simp only [evComp] at h
    split at h
    · have := evComp_len h
      rw [List.length_append] at this
      simp only [List.length_cons, List.length_nil] at this
      omega
    · exact evComp_len h
    · cases h
def gB (X : Cx) (scope : Scope) (tg : Expr) : TG := fun v σ H Q => ∀ s H0 C cl fp, WG (X.blk s H0 scope (compEnvC scope cl C X.env) fp) tg v σ H Q
def ttB (X : Cx) (scope : Scope) (ifs : List Expr) : TT := fun σ H Q => ∀ s H0 C cl fp, WTs (X.blk s H0 scope (compEnvC scope cl C X.env) fp) ifs σ H Q
def teB (X : Cx) (scope : Scope) (elt : Expr) : TE := fun σ H Q => ∀ s H0 C cl fp, WE (X.blk s H0 scope (compEnvC scope cl C X.env) fp) elt σ H Q
theorem pg_gB (X : Cx) (scope : Scope) (tg : Expr) (s : Shared) (H : Hp) (C : Addr) (cl : List (Str × Addr)) (fp : List Addr) : PG (X.blk s H scope (compEnvC scope cl C X.env) fp) tg (gB X scope tg) := ⟨fun pins s' σ H v u Q I r h => h s _ C cl fp pins s' u I r⟩
theorem pts_ttB (X : Cx) (scope : Scope) (ifs : List Expr) (s : Shared) (H : Hp) (C : Addr) (cl : List (Str × Addr)) (fp : List Addr) : PTs (X.blk s H scope (compEnvC scope cl C X.env) fp) ifs (ttB X scope ifs) := ⟨fun pins s' σ H Q I h => h s _ C cl fp pins s' I⟩
theorem pe_teB (X : Cx) (scope : Scope) (elt : Expr) (s : Shared) (H : Hp) (C : Addr) (cl : List (Str × Addr)) (fp : List Addr) : PE (X.blk s H scope (compEnvC scope cl C X.env) fp) elt (teB X scope elt) := ⟨fun pins s' σ H Q I h => h s _ C cl fp pins s' I⟩
def SLc (tb : List Addr) (X : Cx) (elt tg iter : Expr) (ifs : List Expr) (scope : Scope) (vs : List Nat) (ρ : En) (out : List D) (ρ' : En) : Prop := ∀ pa B F σ H, Rel X.K tb pa B F σ H ρ → ∀ Q : VK, (∀ x F' H', Sm F F' → Rel X.K tb pa B F' σ H' ρ' → OpR X.K B F' H' σ ρ' x (.new out) → Q x H') →
  tLc (WI X tg iter) (gB X scope tg) (ttB X scope ifs) (teB X scope elt) vs σ H Q
/-- [e for t in it if c] -/
theorem lc_ok (o : XOk T tb k s X) {elt tg iter : Expr} {ifs : List Expr} {scope : Scope} {own : List (Str × Nat)} {ix : List Nat} {f : D → En → Option (Option D × En)} {out : List D} {ρn : En}
    (hi : SI tb X tg iter ρ ds ρ1) (hix : ∀ i ∈ ix, i ∈ own.map (·.2))
    (hb : ∀ x ρa q, f x ρa = some q → ∃ ρ2 b ρ3, (∀ s H C cl fp, SG tb (X.blk s H scope (compEnvC scope cl C X.env) fp) tg ix (wipeE ρa (own.map (·.2))) x ρ2) ∧ (∀ s H C cl fp, STs tb (X.blk s H scope (compEnvC scope cl C X.env) fp) ifs ρ2 b ρ3) ∧
      ((b = false ∧ q = (none, ρ3)) ∨ (b = true ∧ ∃ op ρ4 d ρb, (∀ s H C cl fp, SE tb (X.blk s H scope (compEnvC scope cl C X.env) fp) elt ρ3 op ρ4) ∧ keepOp ρ4 op = some (d, ρb) ∧ q = (some d, ρb))))
    (h : evComp f ds [] ρ1 = some (out, ρn)) (hl : lenOk out.length = true) :
    SLc tb X elt tg iter ifs scope (own.map (·.2)) ρ out (backE ρ1 ρn (own.map (·.2))) := by
  obtain ⟨vs, hvs⟩ : ∃ vs, vs = own.map (·.2) := ⟨_, rfl⟩
  rw [← hvs] at hb hix
  intro pa B F σ H r Q q
  rw [← hvs] at q ⊢
  refine hi pa B F σ H r _ fun J F1 H1 s1 r1 wk D hD => ?_
  obtain ⟨hF1, hB⟩ := r1.wf.none hD
  refine ⟨fun i m H => m = ds.length - i ∧ ∃ F ρa accV accD, Sm F1 F ∧ H D = some (.lst accV) ∧ F D = none ∧ RpAll X.K F accV accD ∧ Rel X.K tb pa B F (wipe σ vs) H (wipeE ρa vs) ∧ Off (wipe σ vs) (wipeE ρa vs) D ∧ evComp f (ds.drop i) accD ρa = some (out, ρn), ⟨_, rfl, F1, ρ1, [], [], Sm.refl _, upd_same, hF1, .nil, (r1.laid hD _).wipe vs, (r1.wipe vs).off_none hD, h⟩, ?_⟩
  rintro i m H2 ⟨rfl, F2, ρa, accV, accD, s2, hD2, hF2, dp, r2, off, ev⟩
  by_cases hi2 : i < ds.length
  · have m2 : Sm F1 H2 := s2.trans r2.wf.fz
    refine .inr ⟨wk.go i H2 m2 hi2, fun H' => ∃ F ρa accV accD, Sm F1 F ∧ H' D = some (.lst accV) ∧ F D = none ∧ RpAll X.K F accV accD ∧ Rel X.K tb pa B F (wipe σ vs) H' (wipeE ρa vs) ∧ Off (wipe σ vs) (wipeE ρa vs) D ∧ evComp f (ds.drop (i + 1)) accD ρa = some (out, ρn), fun H' z => ⟨ds.length - (i + 1), by omega, rfl, z⟩, fun x H3 hy => ?_⟩
    have hd : ds[i]? = some ds[i] := List.getElem?_eq_getElem hi2
    rw [List.drop_eq_getElem_cons hi2] at ev
    simp only [evComp] at ev
    have r2' := r2.more hD2 (fun ps z => by cases z) hF2 off
    obtain ⟨F3, s3, sH3, r3, dx⟩ := Yld.ok (tb := tb) (F := F2) (H := H2) (by
      rcases wk.yld i H2 x H3 _ m2 hd hy with ⟨a, b⟩ | ⟨p, ws, ds', a, b, c, e, g⟩
      · exact .inl ⟨a, Rp.mono s2 b⟩
      · exact .inr ⟨p, ws, ds', a, b, c, e, RpAll.mono s2 g⟩) r2'
    cases hq : f ds[i] ρa with
    | none => rw [hq] at ev; cases ev
    | some qq =>
      rw [hq] at ev
      obtain ⟨ρ2, b, ρ3, h1, h2, h3⟩ := hb _ _ _ hq
      intro s0 H0 C cl fp
      refine h1 s0 H0 C cl fp pa _ F3 _ H3 x r3 dx _ fun σ2 r4 hw => ?_
      have hw : wipe σ2 vs = wipe σ vs := by
        rw [hw vs hix]
        have : ∀ us : List Nat, (∀ i ∈ us, i ∈ vs) → wipe (wipe σ us) vs = wipe σ vs := by
          intro us hu
          induction us with
          | nil => rfl
          | cons u us ih =>
            show wipe ((wipe σ us).set u none) vs = _
            rw [wipe_set (hu u List.mem_cons_self)]
            exact ih fun i hi => hu i (List.mem_cons_of_mem _ hi)
        exact this vs fun i hi => hi
      refine ⟨hw, fun s0 H0 C cl fp => ?_⟩
      refine h2 s0 H0 C cl fp pa _ F3 σ2 H3 r4 _ fun F4 H4 s4 r5 => ?_
      have fin : ∀ {F5 : Hp} {H5 : Hp} {ρb : En}, Sm F4 F5 → Rel X.K tb pa (upd B D (.lst accV)) F5 σ2 H5 ρb → H5 D = some (.lst accV) ∧ F5 D = none ∧ Rel X.K tb pa B F5 (wipe σ vs) H5 (wipeE ρb vs) ∧ Off (wipe σ vs) (wipeE ρb vs) D := fun {F5 H5 ρb} s5 r6 => by
        have r7 := r6.wipe vs
        rw [hw] at r7
        obtain ⟨z1, z2⟩ := r7.wf.bg D _ upd_same
        exact ⟨z1, z2, r7.less (Sm.upd hB), r7.off_bg upd_same⟩
      rcases h3 with ⟨rfl, rfl⟩ | ⟨rfl, op, ρ4, d, ρb, h4, h5, rfl⟩
      · rw [if_neg Bool.false_ne_true]
        obtain ⟨z1, z2, z3, z4⟩ := fin (Sm.refl _) r5
        exact ⟨F4, ρ3, accV, accD, (s2.trans s3).trans s4, z1, z2, RpAll.mono (s3.trans s4) dp, z3, z4, ev⟩
      · rw [if_pos rfl]
        intro s0 H0 C cl fp
        refine h4 s0 H0 C cl fp pa _ F4 σ2 H4 r5 _ fun y F5 H5 s5 r6 oy => ?_
        obtain ⟨F6, s6, r7, dy⟩ := keep_ok r6 oy h5
        obtain ⟨z1, z2, z3, z4⟩ := fin (s5.trans s6) r7
        have hlen := evComp_len ev
        rw [List.length_append] at hlen
        simp only [List.length_cons, List.length_nil] at hlen
        have hl' : out.length ≤ sizeLine := of_decide_eq_true hl
        have hacc := RpAll.length dp
        have sA : Sm F2 F6 := ((s3.trans s4).trans s5).trans s6
        refine ⟨accV, z1, by omega, F6, ρb, accV ++ [y], accD ++ [d], s2.trans sA, upd_same, z2, RpAll.append (RpAll.mono sA dp) (.cons dy .nil), z3.writeFree z1 z2 hB z4, z4, ev⟩
  · have hdr : ds.drop i = [] := List.drop_eq_nil_of_le (by omega)
    rw [hdr] at ev
    cases ev
    refine .inl ⟨wk.stop i H2 (s2.trans r2.wf.fz) (by omega), ?_⟩
    have r3 := Rel.back r1 s2 r2
    refine q (.ref D) F2 H2 (s1.trans s2) r3 ⟨D, accV, rfl, hD2, hF2, hB, fun j s hs os z => ?_, dp⟩
    by_cases hj : j ∈ vs
    · rcases backE_in hj hs with rfl | ⟨d, _, rfl⟩ <;> cases os
    · rw [backE_out hj] at hs
      exact off j s (by rw [wipeE_out hj]; exact hs) os (by rw [wipe_out hj]; exact z)
theorem se_lc (o : XOk T tb k s X) {elt tg iter : Expr} {ifs : List Expr} {scope : Scope} {own : List (Str × Nat)} {out : List D} (ok : BlkOk X.N X.env.scope scope own) (hfold : ∀ x, foldedSetIterable iter X.env x = pure x)
    (h : SLc tb X elt tg iter ifs scope (own.map (·.2)) ρ out ρ2) : SE tb X (.ListComp elt [⟨tg, iter, ifs, 0⟩] scope pos) ρ (.new out) ρ2 := by
  intro pa B F σ H r Q q
  exact we_of (pe_lc o.calm o.nd (pi_wi X tg iter) ok (pg_gB X scope tg) (pts_ttB X scope ifs) (pe_teB X scope elt) hfold) (h pa B F σ H r Q q)
end
end Ev

set_option maxHeartbeats 2000000
/-! zip of three tuples; zip(*w), w of three tuples -/
namespace Z3
open PySem
abbrev Trip (h : Heap) (T : Addr) (p q r : Value) : Prop := h.get? T = some { cls := .type "tuple", data := .seq #[p, q, r] }
section
variable {prog : Program} {w : World} {A : Around} {E : Value → Shared → Prop} {s : Shared}
theorem upd3 {T : Addr} {p q r x : Value} {k : Nat} {Q : Unit → Shared → Prop} (hT : Trip s.heap T p q r)
    (hq : ∀ g, g.get? T = some { cls := .type "tuple", data := .seq ((#[p, q, r] : Array Value).setIfInBounds k x) } → Heap.SameBut T s.heap g → Q () { s with heap := g }) : wpAny (model prog w) A (updateSeq T (·.setIfInBounds k x)) Q E s := by
  refine wpAny_updateSeq hT rfl (hq _ (by rw [Heap.get?_update_self _ hT rfl]; simp [Obj.mapSeq]) (Heap.SameBut.update ..))
/-- the zip at n + 5, its iterators at n, n + 1, n + 2, the tuple of them at n + 3, its own tuple at n + 4 -/
structure St (n l1 l2 l3 k : Nat) (f : Value) (h : Heap) : Prop where
  z : IsZip h (n + 5) (n + 3) (n + 4) f
  i : Trip h (n + 3) (.ref n) (.ref (n + 1)) (.ref (n + 2))
  o : ∃ p q r, Trip h (n + 4) p q r
  a : h.IsTupleIter n l1 k
  b : h.IsTupleIter (n + 1) l2 k
  c : h.IsTupleIter (n + 2) l3 k
def Out (n : Nat) (h h' : Heap) : Prop := ∀ c o, c ≠ n + 5 → c ≠ n + 4 → c ≠ n → c ≠ n + 1 → c ≠ n + 2 → h.get? c = some o → h'.get? c = some o
theorem item {n l1 l2 l3 k : Nat} {xs ys zs : Array Value} {x y u : Value} {Q : Value → Shared → Prop} (q1 : l1 < n) (q2 : l2 < n) (q3 : l3 < n) (st : St n l1 l2 l3 k .none s.heap)
    (hl1 : s.heap.IsTuple l1 xs) (hl2 : s.heap.IsTuple l2 ys) (hl3 : s.heap.IsTuple l3 zs) (hx : xs[k]? = some x) (hy : ys[k]? = some y) (hu : zs[k]? = some u)
    (hQ : ∀ h', St n l1 l2 l3 (k + 1) (rawInt s.heap.objs.size) h' → Trip h' s.heap.objs.size x y u → h'.objs.size = s.heap.objs.size + 1 → Out n s.heap h' → Q (.ref s.heap.objs.size) { s with heap := h' }) :
    wpAny (model prog w) A (Builtin.«zip.__next__» ⟨[.ref (n + 5)], []⟩) (fun fin s' => ∃ v, fin = .done (.ret v) ∧ Q v s') E s := by
  obtain ⟨hz, hI, ⟨p, q, r, hO⟩, h1, h2, h3⟩ := st
  show wpAny _ _ (field (.ref (n + 5)) 2 >>= _) _ _ _
  refine wpAny_bind (wpAny_field hz rfl (x := Value.bool false) rfl ?_)
  show wpAny _ _ (field (.ref (n + 5)) 3 >>= _) _ _ _
  refine wpAny_bind (wpAny_field hz rfl (x := Value.ref (n + 3)) rfl (wpAny_bind (wpAny_seqItems hI rfl ?_)))
  show wpAny _ _ (Builtin.SmallTypes.ownedTupleIsFree (.ref (n + 5)) >>= _) _ _ _
  refine wpAny_bind ?_
  unfold Builtin.SmallTypes.ownedTupleIsFree
  refine wpAny_bind (wpAny_field hz rfl (x := Value.none) rfl (wpAny_pure ?_))
  simp only [if_true]
  refine wpAny_bind (wpAny_rule (wpAny_bind (wpAny_field hz rfl (x := Value.ref (n + 4)) rfl (wpAny_bind (wpAny_setField_rec hz (by simp) fun g1 z1 e1 => ?_)))))
  replace z1 : IsZip g1 (n + 5) (n + 3) (n + 4) .ellipsis := z1
  have E1 : ∀ c o, c ≠ n + 5 → s.heap.get? c = some o → g1.get? c = some o := fun c o hc e => e1.extBut _ _ hc e
  refine wpAny_bind ?_
  simp only [List.zipIdx_cons, List.zipIdx_nil, List.forIn_cons, List.forIn_nil]
  refine wpAny_bind (wpAny_bind (wpAny_onRaise ?_))
  show wpAny _ _ (Builtin.SmallTypes.nextOf (.ref n) >>= _) _ _ _
  refine wpAny_bind (RZ.nextOf_tuple_item (h1.extBut e1.extBut (by first | omega | (change (_ : Nat) ≠ (_ : Nat); omega) | (change (_ : Nat) < (_ : Nat); omega) | (change (_ : Nat) ≤ (_ : Nat); omega))) (hl1.extBut e1.extBut (by first | omega | (change (_ : Nat) ≠ (_ : Nat); omega) | (change (_ : Nat) < (_ : Nat); omega) | (change (_ : Nat) ≤ (_ : Nat); omega))) hx fun g2 a2 e2 => wpAny_pure ?_)
  have O2 : Trip g2 (n + 4) p q r := e2.extBut _ _ (by first | omega | (change (_ : Nat) ≠ (_ : Nat); omega) | (change (_ : Nat) < (_ : Nat); omega) | (change (_ : Nat) ≤ (_ : Nat); omega)) (E1 _ _ (by first | omega | (change (_ : Nat) ≠ (_ : Nat); omega) | (change (_ : Nat) < (_ : Nat); omega) | (change (_ : Nat) ≤ (_ : Nat); omega)) hO)
  refine wpAny_bind (wpAny_seqItems O2 rfl (wpAny_bind (upd3 O2 fun g3 O3 e3 => ?_)))
  replace O3 : Trip g3 (n + 4) x q r := O3
  have E3 : ∀ c o, c ≠ n + 5 → c ≠ n + 4 → c ≠ n → s.heap.get? c = some o → g3.get? c = some o := fun c o c1 c2 c3 e => e3.extBut _ _ c2 (e2.extBut _ _ c3 (E1 _ _ c1 e))
  refine wpAny_bind (wpAny_letGo (wpAny_pure ?_))
  refine wpAny_bind (wpAny_bind (wpAny_onRaise ?_))
  show wpAny _ _ (Builtin.SmallTypes.nextOf (.ref (n + 1)) >>= _) _ _ _
  refine wpAny_bind (RZ.nextOf_tuple_item (h2.at fun o e => E3 _ o (by first | omega | (change (_ : Nat) ≠ (_ : Nat); omega) | (change (_ : Nat) < (_ : Nat); omega) | (change (_ : Nat) ≤ (_ : Nat); omega)) (by first | omega | (change (_ : Nat) ≠ (_ : Nat); omega) | (change (_ : Nat) < (_ : Nat); omega) | (change (_ : Nat) ≤ (_ : Nat); omega)) (by first | omega | (change (_ : Nat) ≠ (_ : Nat); omega) | (change (_ : Nat) < (_ : Nat); omega) | (change (_ : Nat) ≤ (_ : Nat); omega)) e) (hl2.at fun o e => E3 _ o (by first | omega | (change (_ : Nat) ≠ (_ : Nat); omega) | (change (_ : Nat) < (_ : Nat); omega) | (change (_ : Nat) ≤ (_ : Nat); omega)) (by first | omega | (change (_ : Nat) ≠ (_ : Nat); omega) | (change (_ : Nat) < (_ : Nat); omega) | (change (_ : Nat) ≤ (_ : Nat); omega)) (by first | omega | (change (_ : Nat) ≠ (_ : Nat); omega) | (change (_ : Nat) < (_ : Nat); omega) | (change (_ : Nat) ≤ (_ : Nat); omega)) e) hy fun g4 b4 e4 => wpAny_pure ?_)
  have O4 : Trip g4 (n + 4) x q r := e4.extBut _ _ (by first | omega | (change (_ : Nat) ≠ (_ : Nat); omega) | (change (_ : Nat) < (_ : Nat); omega) | (change (_ : Nat) ≤ (_ : Nat); omega)) O3
  refine wpAny_bind (wpAny_seqItems O4 rfl (wpAny_bind (upd3 O4 fun g5 O5 e5 => ?_)))
  replace O5 : Trip g5 (n + 4) x y r := O5
  have E5 : ∀ c o, c ≠ n + 5 → c ≠ n + 4 → c ≠ n → c ≠ n + 1 → s.heap.get? c = some o → g5.get? c = some o := fun c o c1 c2 c3 c4 e => e5.extBut _ _ c2 (e4.extBut _ _ c4 (E3 _ _ c1 c2 c3 e))
  refine wpAny_bind (wpAny_letGo (wpAny_pure ?_))
  refine wpAny_bind (wpAny_bind (wpAny_onRaise ?_))
  show wpAny _ _ (Builtin.SmallTypes.nextOf (.ref (n + 2)) >>= _) _ _ _
  refine wpAny_bind (RZ.nextOf_tuple_item (h3.at fun o e => E5 _ o (by first | omega | (change (_ : Nat) ≠ (_ : Nat); omega) | (change (_ : Nat) < (_ : Nat); omega) | (change (_ : Nat) ≤ (_ : Nat); omega)) (by first | omega | (change (_ : Nat) ≠ (_ : Nat); omega) | (change (_ : Nat) < (_ : Nat); omega) | (change (_ : Nat) ≤ (_ : Nat); omega)) (by first | omega | (change (_ : Nat) ≠ (_ : Nat); omega) | (change (_ : Nat) < (_ : Nat); omega) | (change (_ : Nat) ≤ (_ : Nat); omega)) (by first | omega | (change (_ : Nat) ≠ (_ : Nat); omega) | (change (_ : Nat) < (_ : Nat); omega) | (change (_ : Nat) ≤ (_ : Nat); omega)) e) (hl3.at fun o e => E5 _ o (by first | omega | (change (_ : Nat) ≠ (_ : Nat); omega) | (change (_ : Nat) < (_ : Nat); omega) | (change (_ : Nat) ≤ (_ : Nat); omega)) (by first | omega | (change (_ : Nat) ≠ (_ : Nat); omega) | (change (_ : Nat) < (_ : Nat); omega) | (change (_ : Nat) ≤ (_ : Nat); omega)) (by first | omega | (change (_ : Nat) ≠ (_ : Nat); omega) | (change (_ : Nat) < (_ : Nat); omega) | (change (_ : Nat) ≤ (_ : Nat); omega)) (by first | omega | (change (_ : Nat) ≠ (_ : Nat); omega) | (change (_ : Nat) < (_ : Nat); omega) | (change (_ : Nat) ≤ (_ : Nat); omega)) e) hu fun g6 c6 e6 => wpAny_pure ?_)
  have O6 : Trip g6 (n + 4) x y r := e6.extBut _ _ (by first | omega | (change (_ : Nat) ≠ (_ : Nat); omega) | (change (_ : Nat) < (_ : Nat); omega) | (change (_ : Nat) ≤ (_ : Nat); omega)) O5
  refine wpAny_bind (wpAny_seqItems O6 rfl (wpAny_bind (upd3 O6 fun g7 O7 e7 => ?_)))
  replace O7 : Trip g7 (n + 4) x y u := O7
  have E7 : Out n s.heap g7 := fun c o c1 c2 c3 c4 c5 e => e7.extBut _ _ c2 (e6.extBut _ _ c5 (E5 _ _ c1 c2 c3 c4 e))
  refine wpAny_bind (wpAny_letGo (wpAny_pure (wpAny_pure ?_)))
  refine wpAny_bind (wpAny_seqItems O7 rfl (wpAny_bind (wpAny_newTuple ?_)))
  have sz : g7.objs.size = s.heap.objs.size := by rw [e7.1, e6.1, e5.1, e4.1, e3.1, e2.1, e1.1]
  have z7 : IsZip g7 (n + 5) (n + 3) (n + 4) .ellipsis := e7.extBut _ _ (by first | omega | (change (_ : Nat) ≠ (_ : Nat); omega) | (change (_ : Nat) < (_ : Nat); omega) | (change (_ : Nat) ≤ (_ : Nat); omega)) (e6.extBut _ _ (by first | omega | (change (_ : Nat) ≠ (_ : Nat); omega) | (change (_ : Nat) < (_ : Nat); omega) | (change (_ : Nat) ≤ (_ : Nat); omega)) (e5.extBut _ _ (by first | omega | (change (_ : Nat) ≠ (_ : Nat); omega) | (change (_ : Nat) < (_ : Nat); omega) | (change (_ : Nat) ≤ (_ : Nat); omega)) (e4.extBut _ _ (by first | omega | (change (_ : Nat) ≠ (_ : Nat); omega) | (change (_ : Nat) < (_ : Nat); omega) | (change (_ : Nat) ≤ (_ : Nat); omega)) (e3.extBut _ _ (by first | omega | (change (_ : Nat) ≠ (_ : Nat); omega) | (change (_ : Nat) < (_ : Nat); omega) | (change (_ : Nat) ≤ (_ : Nat); omega)) (e2.extBut _ _ (by first | omega | (change (_ : Nat) ≠ (_ : Nat); omega) | (change (_ : Nat) < (_ : Nat); omega) | (change (_ : Nat) ≤ (_ : Nat); omega)) z1)))))
  have a7 : g7.IsTupleIter n l1 (k + 1) := a2.at fun o e => e7.extBut _ _ (by first | omega | (change (_ : Nat) ≠ (_ : Nat); omega) | (change (_ : Nat) < (_ : Nat); omega) | (change (_ : Nat) ≤ (_ : Nat); omega)) (e6.extBut _ _ (by first | omega | (change (_ : Nat) ≠ (_ : Nat); omega) | (change (_ : Nat) < (_ : Nat); omega) | (change (_ : Nat) ≤ (_ : Nat); omega)) (e5.extBut _ _ (by first | omega | (change (_ : Nat) ≠ (_ : Nat); omega) | (change (_ : Nat) < (_ : Nat); omega) | (change (_ : Nat) ≤ (_ : Nat); omega)) (e4.extBut _ _ (by first | omega | (change (_ : Nat) ≠ (_ : Nat); omega) | (change (_ : Nat) < (_ : Nat); omega) | (change (_ : Nat) ≤ (_ : Nat); omega)) (e3.extBut _ _ (by first | omega | (change (_ : Nat) ≠ (_ : Nat); omega) | (change (_ : Nat) < (_ : Nat); omega) | (change (_ : Nat) ≤ (_ : Nat); omega)) e))))
  have b7 : g7.IsTupleIter (n + 1) l2 (k + 1) := b4.at fun o e => e7.extBut _ _ (by first | omega | (change (_ : Nat) ≠ (_ : Nat); omega) | (change (_ : Nat) < (_ : Nat); omega) | (change (_ : Nat) ≤ (_ : Nat); omega)) (e6.extBut _ _ (by first | omega | (change (_ : Nat) ≠ (_ : Nat); omega) | (change (_ : Nat) < (_ : Nat); omega) | (change (_ : Nat) ≤ (_ : Nat); omega)) (e5.extBut _ _ (by first | omega | (change (_ : Nat) ≠ (_ : Nat); omega) | (change (_ : Nat) < (_ : Nat); omega) | (change (_ : Nat) ≤ (_ : Nat); omega)) e))
  have c7 : g7.IsTupleIter (n + 2) l3 (k + 1) := c6.at fun o e => e7.extBut _ _ (by first | omega | (change (_ : Nat) ≠ (_ : Nat); omega) | (change (_ : Nat) < (_ : Nat); omega) | (change (_ : Nat) ≤ (_ : Nat); omega)) e
  have i7 : Trip g7 (n + 3) (.ref n) (.ref (n + 1)) (.ref (n + 2)) := E7 _ _ (by first | omega | (change (_ : Nat) ≠ (_ : Nat); omega) | (change (_ : Nat) < (_ : Nat); omega) | (change (_ : Nat) ≤ (_ : Nat); omega)) (by first | omega | (change (_ : Nat) ≠ (_ : Nat); omega) | (change (_ : Nat) < (_ : Nat); omega) | (change (_ : Nat) ≤ (_ : Nat); omega)) (by first | omega | (change (_ : Nat) ≠ (_ : Nat); omega) | (change (_ : Nat) < (_ : Nat); omega) | (change (_ : Nat) ≤ (_ : Nat); omega)) (by first | omega | (change (_ : Nat) ≠ (_ : Nat); omega) | (change (_ : Nat) < (_ : Nat); omega) | (change (_ : Nat) ≤ (_ : Nat); omega)) (by first | omega | (change (_ : Nat) ≠ (_ : Nat); omega) | (change (_ : Nat) < (_ : Nat); omega) | (change (_ : Nat) ≤ (_ : Nat); omega)) hI
  have zl : n + 5 < g7.objs.size := Heap.lt_size z7
  show wpAny _ _ (Builtin.SmallTypes.ownedTupleHandOut (.ref (n + 5)) (.ref g7.objs.size) >>= _) _ _ _
  refine wpAny_bind ?_
  unfold Builtin.SmallTypes.ownedTupleHandOut
  have z8 : IsZip (g7.push { cls := .type "tuple", data := .seq #[x, y, u] }) (n + 5) (n + 3) (n + 4) .ellipsis := Heap.get?_push_of_some _ z7
  refine wpAny_bind (wpAny_setField_rec z8 (by simp) fun g9 z9 e9 => ?_)
  replace z9 : IsZip g9 (n + 5) (n + 3) (n + 4) (rawInt g7.objs.size) := z9
  refine wpAny_setField_rec z9 (by simp) fun h' zz ez => ?_
  replace zz : IsZip h' (n + 5) (n + 3) (n + 4) (rawInt g7.objs.size) := zz
  have up : ∀ c o, c ≠ n + 5 → g7.get? c = some o → h'.get? c = some o := fun c o c1 e => ez.extBut _ _ c1 (e9.extBut _ _ c1 (Heap.get?_push_of_some _ e))
  have t8 : Trip h' g7.objs.size x y u := ez.extBut _ _ (Nat.ne_of_gt zl) (e9.extBut _ _ (Nat.ne_of_gt zl) (Heap.get?_push_size _ rfl))
  have sz2 : h'.objs.size = g7.objs.size + 1 := by rw [ez.1, e9.1, Heap.size_push]
  rw [sz] at zz t8 sz2
  refine wpAny_pure ⟨_, rfl, ?_⟩
  show Q (.ref g7.objs.size) _
  rw [sz]
  exact hQ h' ⟨zz, up _ _ (by first | omega | (change (_ : Nat) ≠ (_ : Nat); omega) | (change (_ : Nat) < (_ : Nat); omega) | (change (_ : Nat) ≤ (_ : Nat); omega)) i7, ⟨_, _, _, up _ _ (by first | omega | (change (_ : Nat) ≠ (_ : Nat); omega) | (change (_ : Nat) < (_ : Nat); omega) | (change (_ : Nat) ≤ (_ : Nat); omega)) O7⟩, a7.at fun o e => up _ o (by first | omega | (change (_ : Nat) ≠ (_ : Nat); omega) | (change (_ : Nat) < (_ : Nat); omega) | (change (_ : Nat) ≤ (_ : Nat); omega)) e, b7.at fun o e => up _ o (by first | omega | (change (_ : Nat) ≠ (_ : Nat); omega) | (change (_ : Nat) < (_ : Nat); omega) | (change (_ : Nat) ≤ (_ : Nat); omega)) e, c7.at fun o e => up _ o (by first | omega | (change (_ : Nat) ≠ (_ : Nat); omega) | (change (_ : Nat) < (_ : Nat); omega) | (change (_ : Nat) ≤ (_ : Nat); omega)) e⟩ t8 sz2
    fun c o c1 c2 c3 c4 c5 e => up c o c1 (E7 c o c1 c2 c3 c4 c5 e)
theorem fin {n l1 l2 l3 k : Nat} {xs ys zs : Array Value} {Q : Fin → Shared → Prop} (hh : A.handled = none) (q1 : l1 < n) (q2 : l2 < n) (q3 : l3 < n) (st : St n l1 l2 l3 k .none s.heap)
    (hl1 : s.heap.IsTuple l1 xs) (hl2 : s.heap.IsTuple l2 ys) (hl3 : s.heap.IsTuple l3 zs) (hend : xs[k]? = none ∨ ys[k]? = none ∨ zs[k]? = none)
    (hE : ∀ h' e, Out n s.heap h' → (∃ o, h'.get? e = some o ∧ o.cls = .type "StopIteration") → E (.ref e) { s with heap := h' }) : wpAny (model prog w) A (Builtin.«zip.__next__» ⟨[.ref (n + 5)], []⟩) Q E s := by
  obtain ⟨hz, hI, ⟨p, q, r, hO⟩, h1, h2, h3⟩ := st
  show wpAny _ _ (field (.ref (n + 5)) 2 >>= _) _ _ _
  refine wpAny_bind (wpAny_field hz rfl (x := Value.bool false) rfl ?_)
  show wpAny _ _ (field (.ref (n + 5)) 3 >>= _) _ _ _
  refine wpAny_bind (wpAny_field hz rfl (x := Value.ref (n + 3)) rfl (wpAny_bind (wpAny_seqItems hI rfl ?_)))
  show wpAny _ _ (Builtin.SmallTypes.ownedTupleIsFree (.ref (n + 5)) >>= _) _ _ _
  refine wpAny_bind ?_
  unfold Builtin.SmallTypes.ownedTupleIsFree
  refine wpAny_bind (wpAny_field hz rfl (x := Value.none) rfl (wpAny_pure ?_))
  simp only [if_true]
  refine wpAny_bind (wpAny_rule (wpAny_bind (wpAny_field hz rfl (x := Value.ref (n + 4)) rfl (wpAny_bind (wpAny_setField_rec hz (by simp) fun g1 z1 e1 => ?_)))))
  replace z1 : IsZip g1 (n + 5) (n + 3) (n + 4) .ellipsis := z1
  have E1 : ∀ c o, c ≠ n + 5 → s.heap.get? c = some o → g1.get? c = some o := fun c o hc e => e1.extBut _ _ hc e
  have last : ∀ {g g2 : Heap} {e : Addr} {S : Shared}, S = { s with heap := g2 } → IsZip g2 (n + 5) (n + 3) (n + 4) .ellipsis → Out n s.heap g2 → (∃ o, g2.get? e = some o ∧ o.cls = .type "StopIteration") →
      wpAny (model prog w) A (setField (.ref (n + 5)) 0 .none) (fun _ s' => E (.ref e) s') E S := by
    rintro g g2 e S rfl zg O2 ⟨oe, he, hc⟩
    have ne : e ≠ n + 5 := fun x => by subst x; rw [zg] at he; cases he; simp at hc
    exact wpAny_setField_rec (s := { s with heap := g2 }) zg (by simp) fun g3 _ e3 => hE g3 e (fun c o c1 c2 c3 c4 c5 x => e3.extBut _ _ c1 (O2 c o c1 c2 c3 c4 c5 x)) ⟨oe, e3.extBut _ _ ne he, hc⟩
  refine wpAny_bind ?_
  simp only [List.zipIdx_cons, List.zipIdx_nil, List.forIn_cons, List.forIn_nil]
  refine wpAny_bind (wpAny_bind (wpAny_onRaise ?_))
  show wpAny _ _ (Builtin.SmallTypes.nextOf (.ref n) >>= _) _ _ _
  cases hx : xs[k]? with
  | none =>
    exact wpAny_bind (RZ.nextOf_tuple_end hh (h1.extBut e1.extBut (by first | omega | (change (_ : Nat) ≠ (_ : Nat); omega) | (change (_ : Nat) < (_ : Nat); omega) | (change (_ : Nat) ≤ (_ : Nat); omega))) (hl1.extBut e1.extBut (by first | omega | (change (_ : Nat) ≠ (_ : Nat); omega) | (change (_ : Nat) < (_ : Nat); omega) | (change (_ : Nat) ≤ (_ : Nat); omega))) hx fun g2 e e2 he => last (g := g1) rfl (e2 _ _ (by first | omega | (change (_ : Nat) ≠ (_ : Nat); omega) | (change (_ : Nat) < (_ : Nat); omega) | (change (_ : Nat) ≤ (_ : Nat); omega)) z1) (fun c o c1 c2 c3 c4 c5 x => e2 _ _ c3 (E1 _ _ c1 x)) he)
  | some x =>
    refine wpAny_bind (RZ.nextOf_tuple_item (h1.extBut e1.extBut (by first | omega | (change (_ : Nat) ≠ (_ : Nat); omega) | (change (_ : Nat) < (_ : Nat); omega) | (change (_ : Nat) ≤ (_ : Nat); omega))) (hl1.extBut e1.extBut (by first | omega | (change (_ : Nat) ≠ (_ : Nat); omega) | (change (_ : Nat) < (_ : Nat); omega) | (change (_ : Nat) ≤ (_ : Nat); omega))) hx fun g2 a2 e2 => wpAny_pure ?_)
    have O2 : Trip g2 (n + 4) p q r := e2.extBut _ _ (by first | omega | (change (_ : Nat) ≠ (_ : Nat); omega) | (change (_ : Nat) < (_ : Nat); omega) | (change (_ : Nat) ≤ (_ : Nat); omega)) (E1 _ _ (by first | omega | (change (_ : Nat) ≠ (_ : Nat); omega) | (change (_ : Nat) < (_ : Nat); omega) | (change (_ : Nat) ≤ (_ : Nat); omega)) hO)
    refine wpAny_bind (wpAny_seqItems O2 rfl (wpAny_bind (upd3 O2 fun g3 O3 e3 => ?_)))
    replace O3 : Trip g3 (n + 4) x q r := O3
    have z3 : IsZip g3 (n + 5) (n + 3) (n + 4) .ellipsis := e3.extBut _ _ (by first | omega | (change (_ : Nat) ≠ (_ : Nat); omega) | (change (_ : Nat) < (_ : Nat); omega) | (change (_ : Nat) ≤ (_ : Nat); omega)) (e2.extBut _ _ (by first | omega | (change (_ : Nat) ≠ (_ : Nat); omega) | (change (_ : Nat) < (_ : Nat); omega) | (change (_ : Nat) ≤ (_ : Nat); omega)) z1)
    have E3 : ∀ c o, c ≠ n + 5 → c ≠ n + 4 → c ≠ n → s.heap.get? c = some o → g3.get? c = some o := fun c o c1 c2 c3 e => e3.extBut _ _ c2 (e2.extBut _ _ c3 (E1 _ _ c1 e))
    refine wpAny_bind (wpAny_letGo (wpAny_pure ?_))
    refine wpAny_bind (wpAny_bind (wpAny_onRaise ?_))
    show wpAny _ _ (Builtin.SmallTypes.nextOf (.ref (n + 1)) >>= _) _ _ _
    cases hy : ys[k]? with
    | none =>
      exact wpAny_bind (RZ.nextOf_tuple_end hh (h2.at fun o e => E3 _ o (by first | omega | (change (_ : Nat) ≠ (_ : Nat); omega) | (change (_ : Nat) < (_ : Nat); omega) | (change (_ : Nat) ≤ (_ : Nat); omega)) (by first | omega | (change (_ : Nat) ≠ (_ : Nat); omega) | (change (_ : Nat) < (_ : Nat); omega) | (change (_ : Nat) ≤ (_ : Nat); omega)) (by first | omega | (change (_ : Nat) ≠ (_ : Nat); omega) | (change (_ : Nat) < (_ : Nat); omega) | (change (_ : Nat) ≤ (_ : Nat); omega)) e) (hl2.at fun o e => E3 _ o (by first | omega | (change (_ : Nat) ≠ (_ : Nat); omega) | (change (_ : Nat) < (_ : Nat); omega) | (change (_ : Nat) ≤ (_ : Nat); omega)) (by first | omega | (change (_ : Nat) ≠ (_ : Nat); omega) | (change (_ : Nat) < (_ : Nat); omega) | (change (_ : Nat) ≤ (_ : Nat); omega)) (by first | omega | (change (_ : Nat) ≠ (_ : Nat); omega) | (change (_ : Nat) < (_ : Nat); omega) | (change (_ : Nat) ≤ (_ : Nat); omega)) e) hy fun g4 e e4 he => last (g := g3) rfl (e4 _ _ (by first | omega | (change (_ : Nat) ≠ (_ : Nat); omega) | (change (_ : Nat) < (_ : Nat); omega) | (change (_ : Nat) ≤ (_ : Nat); omega)) z3) (fun c o c1 c2 c3 c4 c5 x => e4 _ _ c4 (E3 _ _ c1 c2 c3 x)) he)
    | some y =>
      have hu : zs[k]? = none := by rcases hend with h | h | h; (rw [hx] at h; cases h); (rw [hy] at h; cases h); exact h
      refine wpAny_bind (RZ.nextOf_tuple_item (h2.at fun o e => E3 _ o (by first | omega | (change (_ : Nat) ≠ (_ : Nat); omega) | (change (_ : Nat) < (_ : Nat); omega) | (change (_ : Nat) ≤ (_ : Nat); omega)) (by first | omega | (change (_ : Nat) ≠ (_ : Nat); omega) | (change (_ : Nat) < (_ : Nat); omega) | (change (_ : Nat) ≤ (_ : Nat); omega)) (by first | omega | (change (_ : Nat) ≠ (_ : Nat); omega) | (change (_ : Nat) < (_ : Nat); omega) | (change (_ : Nat) ≤ (_ : Nat); omega)) e) (hl2.at fun o e => E3 _ o (by first | omega | (change (_ : Nat) ≠ (_ : Nat); omega) | (change (_ : Nat) < (_ : Nat); omega) | (change (_ : Nat) ≤ (_ : Nat); omega)) (by first | omega | (change (_ : Nat) ≠ (_ : Nat); omega) | (change (_ : Nat) < (_ : Nat); omega) | (change (_ : Nat) ≤ (_ : Nat); omega)) (by first | omega | (change (_ : Nat) ≠ (_ : Nat); omega) | (change (_ : Nat) < (_ : Nat); omega) | (change (_ : Nat) ≤ (_ : Nat); omega)) e) hy fun g4 b4 e4 => wpAny_pure ?_)
      have O4 : Trip g4 (n + 4) x q r := e4.extBut _ _ (by first | omega | (change (_ : Nat) ≠ (_ : Nat); omega) | (change (_ : Nat) < (_ : Nat); omega) | (change (_ : Nat) ≤ (_ : Nat); omega)) O3
      refine wpAny_bind (wpAny_seqItems O4 rfl (wpAny_bind (upd3 O4 fun g5 O5 e5 => ?_)))
      have z5 : IsZip g5 (n + 5) (n + 3) (n + 4) .ellipsis := e5.extBut _ _ (by first | omega | (change (_ : Nat) ≠ (_ : Nat); omega) | (change (_ : Nat) < (_ : Nat); omega) | (change (_ : Nat) ≤ (_ : Nat); omega)) (e4.extBut _ _ (by first | omega | (change (_ : Nat) ≠ (_ : Nat); omega) | (change (_ : Nat) < (_ : Nat); omega) | (change (_ : Nat) ≤ (_ : Nat); omega)) z3)
      have E5 : ∀ c o, c ≠ n + 5 → c ≠ n + 4 → c ≠ n → c ≠ n + 1 → s.heap.get? c = some o → g5.get? c = some o := fun c o c1 c2 c3 c4 e => e5.extBut _ _ c2 (e4.extBut _ _ c4 (E3 _ _ c1 c2 c3 e))
      refine wpAny_bind (wpAny_letGo (wpAny_pure ?_))
      refine wpAny_bind (wpAny_bind (wpAny_onRaise ?_))
      show wpAny _ _ (Builtin.SmallTypes.nextOf (.ref (n + 2)) >>= _) _ _ _
      exact wpAny_bind (RZ.nextOf_tuple_end hh (h3.at fun o e => E5 _ o (by first | omega | (change (_ : Nat) ≠ (_ : Nat); omega) | (change (_ : Nat) < (_ : Nat); omega) | (change (_ : Nat) ≤ (_ : Nat); omega)) (by first | omega | (change (_ : Nat) ≠ (_ : Nat); omega) | (change (_ : Nat) < (_ : Nat); omega) | (change (_ : Nat) ≤ (_ : Nat); omega)) (by first | omega | (change (_ : Nat) ≠ (_ : Nat); omega) | (change (_ : Nat) < (_ : Nat); omega) | (change (_ : Nat) ≤ (_ : Nat); omega)) (by first | omega | (change (_ : Nat) ≠ (_ : Nat); omega) | (change (_ : Nat) < (_ : Nat); omega) | (change (_ : Nat) ≤ (_ : Nat); omega)) e) (hl3.at fun o e => E5 _ o (by first | omega | (change (_ : Nat) ≠ (_ : Nat); omega) | (change (_ : Nat) < (_ : Nat); omega) | (change (_ : Nat) ≤ (_ : Nat); omega)) (by first | omega | (change (_ : Nat) ≠ (_ : Nat); omega) | (change (_ : Nat) < (_ : Nat); omega) | (change (_ : Nat) ≤ (_ : Nat); omega)) (by first | omega | (change (_ : Nat) ≠ (_ : Nat); omega) | (change (_ : Nat) < (_ : Nat); omega) | (change (_ : Nat) ≤ (_ : Nat); omega)) (by first | omega | (change (_ : Nat) ≠ (_ : Nat); omega) | (change (_ : Nat) < (_ : Nat); omega) | (change (_ : Nat) ≤ (_ : Nat); omega)) e) hu fun g6 e e6 he => last (g := g5) rfl (e6 _ _ (by first | omega | (change (_ : Nat) ≠ (_ : Nat); omega) | (change (_ : Nat) < (_ : Nat); omega) | (change (_ : Nat) ≤ (_ : Nat); omega)) z5) (fun c o c1 c2 c3 c4 c5 x => e6 _ _ c5 (E5 _ _ c1 c2 c3 c4 x)) he)
theorem next_item {n l1 l2 l3 k : Nat} {xs ys zs : Array Value} {x y u : Value} {Q : Option Value → Shared → Prop} (q1 : l1 < n) (q2 : l2 < n) (q3 : l3 < n) (st : St n l1 l2 l3 k .none s.heap)
    (hl1 : s.heap.IsTuple l1 xs) (hl2 : s.heap.IsTuple l2 ys) (hl3 : s.heap.IsTuple l3 zs) (hx : xs[k]? = some x) (hy : ys[k]? = some y) (hu : zs[k]? = some u)
    (hQ : ∀ h', St n l1 l2 l3 (k + 1) (rawInt s.heap.objs.size) h' → Trip h' s.heap.objs.size x y u → h'.objs.size = s.heap.objs.size + 1 → Out n s.heap h' → Q (some (.ref s.heap.objs.size)) { s with heap := h' }) : wpAny (model prog w) A (pyNext (.ref (n + 5))) Q E s := by
  have hT : s.TypeIs (.ref (n + 5)) "zip" := ⟨_, st.z, rfl⟩
  unfold pyNext
  exact wpAny_bind (wpAny_attempt (wpAny_callSpecial?_slot (name := Str.ofString "__next__") hT F.slot_zip_next (wpAny_call_entry F.slot_zip_next hT F.entry_zip_next (item q1 q2 q3 st hl1 hl2 hl3 hx hy hu fun h' a b c d => wpAny_pure (hQ h' a b c d)) (F.args_zip_next_1 _))))
theorem next_fin {n l1 l2 l3 k : Nat} {xs ys zs : Array Value} {Q : Option Value → Shared → Prop} (hh : A.handled = none) (q1 : l1 < n) (q2 : l2 < n) (q3 : l3 < n) (st : St n l1 l2 l3 k .none s.heap)
    (hl1 : s.heap.IsTuple l1 xs) (hl2 : s.heap.IsTuple l2 ys) (hl3 : s.heap.IsTuple l3 zs) (hend : xs[k]? = none ∨ ys[k]? = none ∨ zs[k]? = none)
    (hQ : ∀ h', Out n s.heap h' → Q none { s with heap := h' }) : wpAny (model prog w) A (pyNext (.ref (n + 5))) Q E s := by
  have hT : s.TypeIs (.ref (n + 5)) "zip" := ⟨_, st.z, rfl⟩
  unfold pyNext
  exact wpAny_bind (wpAny_attempt (wpAny_callSpecial?_slot (name := Str.ofString "__next__") hT F.slot_zip_next (wpAny_call_entry F.slot_zip_next hT F.entry_zip_next (fin hh q1 q2 q3 st hl1 hl2 hl3 hend fun h' e hk ⟨o, ho, hc⟩ => wpAny_bind (wpAny_isInstance (T := "StopIteration") (b := true) ⟨o, ho, hc⟩ isSubtype_stop (wpAny_pure (hQ _ hk)))) (F.args_zip_next_1 _))))
end
/-! making one -/
abbrev itO (l : Addr) : Obj := { cls := .type "tuple_iterator", data := .fields #[.ref l, .int 0 0] }
abbrev m3 (h : Heap) (l1 l2 l3 : Addr) : Heap := ((h.push (itO l1)).push (itO l2)).push (itO l3)
abbrev m4 (h : Heap) (l1 l2 l3 : Addr) : Heap := (m3 h l1 l2 l3).push { cls := .type "tuple", data := .seq #[.ref h.objs.size, .ref (h.push (itO l1)).objs.size, .ref ((h.push (itO l1)).push (itO l2)).objs.size] }
abbrev m5 (h : Heap) (l1 l2 l3 : Addr) : Heap := (m4 h l1 l2 l3).push { cls := .type "tuple", data := .seq #[.none, .none, .none] }
abbrev m6 (h : Heap) (l1 l2 l3 : Addr) : Heap := (m5 h l1 l2 l3).push { cls := .type "zip", data := .fields #[.none, .bool false, .bool false, .ref (m3 h l1 l2 l3).objs.size, .ref (m4 h l1 l2 l3).objs.size] }
theorem typeCall_zip3 (a b c : Value) : checkTypeCall "zip" ⟨[a, b, c], []⟩ = pure () := by kernel_rfl
theorem newCall_zip3 (a b c : Value) : checkBuiltinCall "zip.__new__" ⟨[.type "zip", a, b, c], []⟩ = pure () := by kernel_rfl
theorem args_init4 (a b c d : Value) : argsOk "object.__init__" ⟨[a, b, c, d], []⟩ := by
  unfold argsOk; rw [signature?_of (id := "object.__init__") (n := ['_', '_', 't', 'i', 'n', 'i', '_', '_']) (o := ['t', 'c', 'e', 'j', 'b', 'o']) (by kernel_rfl) F.owner_object]; kernel_rfl
theorem made (l1 l2 l3 : Addr) (xs ys zs : Array Value) : Meets (Builtin.«zip.__new__» ⟨[.type "zip", .ref l1, .ref l2, .ref l3], []⟩) (fun _ R s => s.heap.IsTuple l1 xs ∧ s.heap.IsTuple l2 ys ∧ s.heap.IsTuple l3 zs ∧
    R (.ok (.ret (.ref (m5 s.heap l1 l2 l3).objs.size))) { s with heap := m6 s.heap l1 l2 l3 }) :=
  .of_wp fun prog w A R s h => by
    obtain ⟨hp, g, d, tk, os⟩ := s
    obtain ⟨hl1, hl2, hl3, h⟩ := h
    have hsub := sub_zip
    have hL1 : Heap.IsTuple (Shared.heap ⟨hp, g, d, tk, os⟩) l1 xs := hl1
    have hL2 : Heap.IsTuple (Shared.heap ⟨hp.push { cls := .type "tuple_iterator", data := .fields #[.ref l1, .int 0 0] }, g, d, tk, os⟩) l2 ys := Heap.IsTuple.push hl2 _
    have hL3 : Heap.IsTuple (Shared.heap ⟨(hp.push { cls := .type "tuple_iterator", data := .fields #[.ref l1, .int 0 0] }).push { cls := .type "tuple_iterator", data := .fields #[.ref l2, .int 0 0] }, g, d, tk, os⟩) l3 zs := Heap.IsTuple.push (Heap.IsTuple.push hl3 _) _
    wp_walk using wpAny_pyIter_tuple hL1, wpAny_pyIter_tuple hL2, wpAny_pyIter_tuple hL3
    exact ⟨_, rfl, h⟩
section
variable {prog : Program} {w : World} {A : Around} {E : Value → Shared → Prop} {s : Shared}
theorem call3 {l1 l2 l3 : Addr} {xs ys zs : Array Value} {Q : Value → Shared → Prop} (hl1 : s.heap.IsTuple l1 xs) (hl2 : s.heap.IsTuple l2 ys) (hl3 : s.heap.IsTuple l3 zs)
    (hq : ∀ h', St s.heap.objs.size l1 l2 l3 0 .none h' → h'.objs.size = s.heap.objs.size + 6 → (∀ c o, s.heap.get? c = some o → h'.get? c = some o) → Q (.ref (s.heap.objs.size + 5)) { s with heap := h' }) :
    wpAny (model prog w) A (call (.type "zip") [.ref l1, .ref l2, .ref l3]) Q E s := by
  refine callType_new F.called_zip (by decide) (typeCall_zip3 _ _ _) (newCall_zip3 _ _ _) (fun obj => args_init4 obj _ _ _) F.entry_zip_new (made l1 l2 l3 xs ys zs) ⟨hl1, hl2, hl3, ?_⟩
  have z1 : (s.heap.push (itO l1)).objs.size = s.heap.objs.size + 1 := Heap.size_push ..
  have z2 : ((s.heap.push (itO l1)).push (itO l2)).objs.size = s.heap.objs.size + 2 := by rw [Heap.size_push, z1]
  have z3 : (m3 s.heap l1 l2 l3).objs.size = s.heap.objs.size + 3 := by rw [Heap.size_push, z2]
  have z4 : (m4 s.heap l1 l2 l3).objs.size = s.heap.objs.size + 4 := by rw [Heap.size_push, z3]
  have z5 : (m5 s.heap l1 l2 l3).objs.size = s.heap.objs.size + 5 := by rw [Heap.size_push, z4]
  have z6 : (m6 s.heap l1 l2 l3).objs.size = s.heap.objs.size + 6 := by rw [Heap.size_push, z5]
  have up1 : ∀ {h : Heap} {o o' : Obj} {c : Addr}, h.get? c = some o → (h.push o').get? c = some o := fun e => Heap.get?_push_of_some _ e
  have g6 : (m6 s.heap l1 l2 l3).get? (m5 s.heap l1 l2 l3).objs.size = some _ := Heap.get?_push_size _ rfl
  have g5 : (m6 s.heap l1 l2 l3).get? (m4 s.heap l1 l2 l3).objs.size = some _ := up1 (Heap.get?_push_size _ rfl)
  have g4 : (m6 s.heap l1 l2 l3).get? (m3 s.heap l1 l2 l3).objs.size = some _ := up1 (up1 (Heap.get?_push_size _ rfl))
  have g3 : (m6 s.heap l1 l2 l3).get? ((s.heap.push (itO l1)).push (itO l2)).objs.size = some _ := up1 (up1 (up1 (Heap.get?_push_size _ rfl)))
  have g2 : (m6 s.heap l1 l2 l3).get? (s.heap.push (itO l1)).objs.size = some _ := up1 (up1 (up1 (up1 (Heap.get?_push_size _ rfl))))
  have g1 : (m6 s.heap l1 l2 l3).get? s.heap.objs.size = some _ := up1 (up1 (up1 (up1 (up1 (Heap.get?_push_size _ rfl)))))
  show _ ∧ _
  rw [z3, z4, z5] at g6
  rw [z4] at g5
  rw [z1, z2, z3] at g4
  rw [z2] at g3
  rw [z1] at g2
  rw [z5]
  exact ⟨⟨_, g6, rfl⟩, hq _ ⟨g6, g4, ⟨_, _, _, g5⟩, ⟨_, g1, rfl, rfl⟩, ⟨_, g2, rfl, rfl⟩, ⟨_, g3, rfl, rfl⟩⟩ z6 fun c o x => up1 (up1 (up1 (up1 (up1 (up1 x)))))⟩
end
/-! as an iterable of the hand layer -/
open PySem.Spec PyProof.Rows L2
def Itz3 (K : PySem.W.Frag) (a b c : Addr) : It :=
  ⟨fun i H => ∃ (xs ys zs : List V) (x y z : V), SqT K H a xs ∧ SqT K H b ys ∧ SqT K H c zs ∧ xs[i]? = some x ∧ ys[i]? = some y ∧ zs[i]? = some z,
    fun i H v H' => ∃ T x y z, v = .ref T ∧ H T = none ∧ H' = upd H T (.tup [x, y, z]) ∧ (∀ xs, SqT K H a xs → xs[i]? = some x) ∧ (∀ ys, SqT K H b ys → ys[i]? = some y) ∧ ∀ zs, SqT K H c zs → zs[i]? = some z,
    fun i H => ∃ xs ys zs : List V, SqT K H a xs ∧ SqT K H b ys ∧ SqT K H c zs ∧ (xs.length ≤ i ∨ ys.length ≤ i ∨ zs.length ≤ i)⟩
theorem turn3 {P : Program} {w : World} {K : PySem.W.Frag} {elts : List Expr} {kk : Nat} {tpos : Pos} {a b c : Addr} {n : Nat} (q1 : a < n) (q2 : b < n) (q3 : c < n) :
    Turn P w K (.Tuple elts kk tpos) (Itz3 K a b c) [n + 5, n + 3, n + 4, n, n + 1, n + 2] (n + 5) (fun i h => St n a b c i .none h) where
  mem := by simp
  obj := fun i h st d hd => by
    obtain ⟨hz, hI, ⟨p, q, r, hO⟩, ⟨o1, e1, _, d1⟩, ⟨o2, e2, _, d2⟩, ⟨o3, e3, _, d3⟩⟩ := st
    simp only [List.mem_cons, List.not_mem_nil, or_false] at hd
    rcases hd with rfl | rfl | rfl | rfl | rfl | rfl
    · exact ⟨_, hz, fun v x => nomatch x⟩
    · exact ⟨_, hI, fun v x => nomatch x⟩
    · exact ⟨_, hO, fun v x => nomatch x⟩
    · exact ⟨o1, e1, fun v x => by rw [d1] at x; cases x⟩
    · exact ⟨o2, e2, fun v x => by rw [d2] at x; cases x⟩
    · exact ⟨o3, e3, fun v x => by rw [d3] at x; cases x⟩
  keep := fun i h h' st k => by
    obtain ⟨hz, hI, ⟨p, q, r, hO⟩, h1, h2, h3⟩ := st
    exact ⟨k _ (by simp) _ hz, k _ (by simp) _ hI, ⟨p, q, r, k _ (by simp) _ hO⟩, h1.at fun o q => k _ (by simp) o q, h2.at fun o q => k _ (by simp) o q, h3.at fun o q => k _ (by simp) o q⟩
  item := by
    intro X hP hw hK hc i pins s σ H E I hf st hg
    subst hP hw hK
    obtain ⟨xs, ys, zs, x, y, z, hqx, hqy, hqz, hx, hy, hz⟩ := hg
    obtain ⟨i1, rv1, p1, _⟩ := I.tuple hqx
    obtain ⟨i2, rv2, p2, _⟩ := I.tuple hqy
    obtain ⟨i3, rv3, p3, _⟩ := I.tuple hqz
    obtain ⟨u1, hu1, ru1⟩ := rv1.get hx
    obtain ⟨u2, hu2, ru2⟩ := rv2.get hy
    obtain ⟨u3, hu3, ru3⟩ := rv3.get hz
    have zl : n + 5 < s.heap.objs.size := Heap.lt_size st.z
    refine next_item q1 q2 q3 st p1 p2 p3 (x := u1) (y := u2) (u := u3) (by simpa using hu1) (by simpa using hu2) (by simpa using hu3) fun h' st' hT hsz hk => ?_
    refine ⟨_, rfl, wpAny_letOwnedTupleGo_zip (s := { s with heap := h' }) st'.z fun h'' zz sb => ?_⟩
    have nz : ∀ {d : Addr}, d ≠ n + 5 → ∀ o, h'.get? d = some o → h''.get? d = some o := fun hd o e => (sb.2 _ hd).trans e
    have hT2 : h''.get? s.heap.objs.size = some { cls := .type "tuple", data := .seq #[u1, u2, u3] } := nz (Nat.ne_of_gt zl) _ hT
    have new : ObjOk X.prog X.w (upd H s.heap.objs.size (.tup [x, y, z])) h'' s.heap.objs.size (.tup [x, y, z]) :=
      ⟨by show 3 ≤ sizeLine; decide, [u1, u2, u3], .cons ru1 (.cons ru2 (.cons ru3 .nil)), ⟨_, hT2, rfl, _, rfl⟩⟩
    have I1 : Inv X pins σ (upd H s.heap.objs.size (.tup [x, y, z])) { s with heap := h'' } :=
      I.turnedNew (t' := s.toks) (ch := [n + 5, n + 3, n + 4, n, n + 1, n + 2]) (fun d o hb q => nz (fun q' => hb (by simp [q'])) _ (hk d o (fun q' => hb (by simp [q'])) (fun q' => hb (by simp [q'])) (fun q' => hb (by simp [q'])) (fun q' => hb (by simp [q'])) (fun q' => hb (by simp [q'])) q)) hf (Nat.le_refl _) new
    refine ⟨.ref s.heap.objs.size, _, I1, rfl, ⟨_, x, y, z, rfl, I.hok.fresh (Nat.le_refl _), rfl, fun l hl => by rw [I.tuple_inj hl hqx]; exact hx, fun l hl => by rw [I.tuple_inj hl hqy]; exact hy, fun l hl => by rw [I.tuple_inj hl hqz]; exact hz⟩,
      ⟨zz, nz (by first | omega | (change (_ : Nat) ≠ (_ : Nat); omega) | (change (_ : Nat) < (_ : Nat); omega) | (change (_ : Nat) ≤ (_ : Nat); omega)) _ st'.i, ?_, st'.a.at fun o q => nz (by first | omega | (change (_ : Nat) ≠ (_ : Nat); omega) | (change (_ : Nat) < (_ : Nat); omega) | (change (_ : Nat) ≤ (_ : Nat); omega)) o q, st'.b.at fun o q => nz (by first | omega | (change (_ : Nat) ≠ (_ : Nat); omega) | (change (_ : Nat) < (_ : Nat); omega) | (change (_ : Nat) ≤ (_ : Nat); omega)) o q, st'.c.at fun o q => nz (by first | omega | (change (_ : Nat) ≠ (_ : Nat); omega) | (change (_ : Nat) < (_ : Nat); omega) | (change (_ : Nat) ≤ (_ : Nat); omega)) o q⟩, fun d hd => ?_⟩
    · obtain ⟨p, q, r, hO⟩ := st'.o
      exact ⟨p, q, r, nz (by first | omega | (change (_ : Nat) ≠ (_ : Nat); omega) | (change (_ : Nat) < (_ : Nat); omega) | (change (_ : Nat) ≤ (_ : Nat); omega)) _ hO⟩
    · have hlt : d < s.heap.objs.size := by
        simp only [List.mem_cons, List.not_mem_nil, or_false] at hd
        rcases hd with rfl | rfl | rfl | rfl | rfl | rfl <;> (first | omega | (change (_ : Nat) ≠ (_ : Nat); omega) | (change (_ : Nat) < (_ : Nat); omega) | (change (_ : Nat) ≤ (_ : Nat); omega))
      rw [upd_ne (Nat.ne_of_lt hlt)]
      exact (hf d hd).1
  done := by
    intro X hP hw hK hc i pins s σ H E I hf st hg
    subst hP hw hK
    obtain ⟨xs, ys, zs, hqx, hqy, hqz, hend⟩ := hg
    obtain ⟨i1, rv1, p1, _⟩ := I.tuple hqx
    obtain ⟨i2, rv2, p2, _⟩ := I.tuple hqy
    obtain ⟨i3, rv3, p3, _⟩ := I.tuple hqz
    have l1 := rv1.length
    have l2 := rv2.length
    have l3 := rv3.length
    have he : i1.toArray[i]? = none ∨ i2.toArray[i]? = none ∨ i3.toArray[i]? = none := by
      rcases hend with q | q | q
      · exact .inl (by simp; omega)
      · exact .inr (.inl (by simp; omega))
      · exact .inr (.inr (by simp; omega))
    exact next_fin (I.ok.hd hc) q1 q2 q3 st p1 p2 p3 he fun h' hk => ⟨rfl, I.turnedL (t' := s.toks) (ch := [n + 5, n + 3, n + 4, n, n + 1, n + 2]) (fun d o hb q =>
      hk d o (fun q' => hb (by simp [q'])) (fun q' => hb (by simp [q'])) (fun q' => hb (by simp [q'])) (fun q' => hb (by simp [q'])) (fun q' => hb (by simp [q'])) q) hf⟩
  self := fun A i s Q E st h => wpAny_pyIter_zip st.z h
section
variable {X : Cx}
theorem zip_at {pins : List (Addr × Obj)} {σ : L2.St} {H : Hp} {s : Shared} {a b c : Addr} {xs ys zs : List V} {us : List Value} {elts : List Expr} {kk : Nat} {tpos : Pos} {R : It → Hp → Prop} (I : Inv X pins σ H s) (rv : Vals [V.ref a, V.ref b, V.ref c] us) (h1 : SqT X.K H a xs) (h2 : SqT X.K H b ys) (h3 : SqT X.K H c zs) (q : R (Itz3 X.K a b c) H)
    {Q : Value → Shared → Prop} (k : ∀ z ch st H' s', Inv X pins σ H' s' → Turn X.prog X.w X.K (.Tuple elts kk tpos) (Itz3 X.K a b c) ch z st → st 0 s'.heap → (∀ d ∈ ch, FpOk X pins H' d) → R (Itz3 X.K a b c) H' → Q (.ref z) s') :
    wpAny (model X.prog X.w) X.A (call (.type "zip") us) Q X.xe s := by
  cases rv with
  | cons r1 rv =>
    cases rv with
    | cons r2 rv =>
      cases rv with
      | cons r3 rv =>
        cases rv
        cases r1
        cases r2
        cases r3
        obtain ⟨i1, rv1, p1, _⟩ := I.tuple h1
        obtain ⟨i2, rv2, p2, _⟩ := I.tuple h2
        obtain ⟨i3, rv3, p3, _⟩ := I.tuple h3
        obtain ⟨o1, ho1, _⟩ := id p1
        obtain ⟨o2, ho2, _⟩ := id p2
        obtain ⟨o3, ho3, _⟩ := id p3
        refine call3 (show s.heap.IsTuple a i1.toArray from p1) (show s.heap.IsTuple b i2.toArray from p2) (show s.heap.IsTuple c i3.toArray from p3) fun h' st hsz hk => ?_
        refine k _ [s.heap.objs.size + 5, s.heap.objs.size + 3, s.heap.objs.size + 4, s.heap.objs.size, s.heap.objs.size + 1, s.heap.objs.size + 2] _ H { s with heap := h' } (I.kept (t' := s.toks) hk) (turn3 (Heap.lt_size ho1) (Heap.lt_size ho2) (Heap.lt_size ho3)) st (fun d hd => ?_) q
        have hle : s.heap.objs.size ≤ d := by
          simp only [List.mem_cons, List.not_mem_nil, or_false] at hd
          rcases hd with rfl | rfl | rfl | rfl | rfl | rfl <;> (first | omega | (change (_ : Nat) ≠ (_ : Nat); omega) | (change (_ : Nat) < (_ : Nat); omega) | (change (_ : Nat) ≤ (_ : Nat); omega))
        exact I.fpOk hle (I.hok.fresh hle)
def iZip3 (K : PySem.W.Frag) (ta : TA) : TI := fun σ H R => ta σ H fun vs H1 => ∃ a b c xs ys zs, vs = [V.ref a, V.ref b, V.ref c] ∧ SqT K H1 a xs ∧ SqT K H1 b ys ∧ SqT K H1 c zs ∧ R (Itz3 K a b c) H1
theorem pi_zip3 {e e2 e3 : Expr} {ta : TA} {p pos tpos : Pos} {elts : List Expr} {kk : Nat} (hg : Gl X "zip") (hm : X.mg "zip" = none) (ha : PA X [e, e2, e3] ta)
    (hs : starEach [e, e2, e3] X.env = (false, eval e X.env) :: starEach [e2, e3] X.env := by rfl) (hpl : (backTo pos (starEach [e2, e3] X.env)).any (·.1) = false := by rfl) :
    PI X (.Tuple elts kk tpos) (.Call (.Name "zip" p) [e, e2, e3] [] pos) (iZip3 X.K ta) := by
  refine ⟨fun pins s σ H R I h => Call_ (ld_blt I hg hm PyProof.Rows.boot_zip (PyProof.Rows.callWith_type1 (thn (ha.run pos pins s σ H _ I h) fun us s1 ⟨vs, H1, I1, r1, q1⟩ => ?_) hs hpl))⟩
  obtain ⟨a, b, c, xs, ys, zs, rfl, h1, h2, h3, q⟩ := q1
  refine zip_at (elts := elts) (kk := kk) (tpos := tpos) I1 r1 h1 h2 h3 q fun z ch st H' s' I' T h0 hf q' => T.self _ _ _ _ _ h0 ?_
  exact ⟨z, ch, _, _, H', rfl, I', T, h0, hf, q'⟩
def iZipS (K : PySem.W.Frag) (te : TE) : TI := fun σ H R => te σ H fun x H1 => ∃ w a b c xs ys zs, x = V.ref w ∧ SqT K H1 w [V.ref a, V.ref b, V.ref c] ∧ SqT K H1 a xs ∧ SqT K H1 b ys ∧ SqT K H1 c zs ∧ R (Itz3 K a b c) H1
theorem looks_type {M : Model} {h : Heap} {T : String} : PySem.W.Looks M h (keeperOf (.type T)) Keeper.machine := by
  unfold keeperOf
  exact PySem.W.Looks.now
theorem pi_zipS {e : Expr} {te : TE} {p sp pos tpos : Pos} {elts : List Expr} {kk : Nat} (hg : Gl X "zip") (hm : X.mg "zip" = none) (he : PE X e te)
    (hs : starEach [.Starred e sp] X.env = [(true, eval e X.env)] := by rfl) : PI X (.Tuple elts kk tpos) (.Call (.Name "zip" p) [.Starred e sp] [] pos) (iZipS X.K te) := by
  refine ⟨fun pins s σ H R I h => Call_ (ld_blt I hg hm PyProof.Rows.boot_zip ?_)⟩
  rw [hs]
  refine PySem.W.ks_call (P := fun _ => True) rfl (fun h _ => ⟨_, .inr (.inl rfl), looks_type⟩) (PySem.W.ks_lone (thn (he.run pins s σ H _ I h) fun v s1 ⟨y, H1, I1, ry, w, a, b, c, xs, ys, zs, ey, hw, h1, h2, h3, q⟩ => ?_))
  subst ey
  obtain rfl : v = Value.ref w := ry
  refine StX.star_any I1 (.inl hw) fun us s2 I2 rv => ⟨trivial, ?_⟩
  refine zip_at (elts := elts) (kk := kk) (tpos := tpos) I2 rv h1 h2 h3 q fun z ch st H' s' I' T h0 hf q' => T.self _ _ _ _ _ h0 ?_
  exact ⟨z, ch, _, _, H', rfl, I', T, h0, hf, q'⟩
end
end Z3

set_option maxHeartbeats 2000000
/-! enumerate(tuple) -/
namespace Z3
open PySem
open AutoSeq1 (wpAny_loadPart')
theorem draws_tup {prog : Program} {w : World} {A : Around} (hh : A.handled = none) (it l : Addr) (hne : l ≠ it) (its : Array Value) :
    Draws prog w A it [it, l] its.size (fun i v => its[i]? = some v) (fun i h => h.IsTupleIter it l i ∧ h.IsTuple l its) where
  live := fun _ _ st => by obtain ⟨⟨o, ho, _⟩, _⟩ := st; exact ⟨o, ho⟩
  frame := fun _ _ _ st hk => ⟨st.1.at fun o e => hk _ List.mem_cons_self o e, st.2.at fun o e => hk _ (List.mem_cons_of_mem _ List.mem_cons_self) o e⟩
  item := fun i s Q E hi st hQ => RZ.nextOf_tuple_item st.1 st.2 (x := its[i]) (by simp [hi]) fun h' a b => hQ _ h' s.toks (by simp [hi]) ⟨a, st.2.extBut b.extBut hne⟩ b
  done := fun s Q E st hE => RZ.nextOf_tuple_end hh st.1 st.2 (by simp) hE
abbrev eIt (l : Addr) : Obj := { cls := .type "tuple_iterator", data := .fields #[.ref l, .int 0 0] }
abbrev eEn (h : Heap) : Obj := { cls := .type "enumerate", data := .fields #[.none, .bool false, .ref h.objs.size, rawInt 0, .none, .none] }
theorem madeE (l : Addr) (items : Array Value) (n : Nat) (dct : Option Addr) (sl : Array (Option Value)) :
    Meets (Builtin.«enumerate.__new__» ⟨[.type "enumerate", .ref l], []⟩) (fun _ R s => s.heap.get? l = some { cls := .type "tuple", dict := dct, data := .seq items n, slots := sl } ∧
      R (.ok (.ret (.ref (s.heap.push (eIt l)).objs.size))) { s with heap := (s.heap.push (eIt l)).push (eEn s.heap) }) :=
  .of_wp fun prog w A R s h => by
    obtain ⟨hp, g, d, tk, os⟩ := s
    obtain ⟨hl, h⟩ := h
    have hsub := sub_enumerate
    have hL : Heap.IsTuple (Shared.heap ⟨hp, g, d, tk, os⟩) l items := ⟨_, hl, rfl, n, rfl⟩
    wp_walk using wpAny_loadPart' hl
    refine wpAny_stack_any fun st => wpAny_pure ?_
    split
    · rename_i c _ _ _ _ _
      cases (c == Value.type "enumerate") <;> (wp_walk using wpAny_loadPart' hl, wpAny_pyIter_tuple hL; exact ⟨_, rfl, h⟩)
    · wp_walk using wpAny_loadPart' hl, wpAny_pyIter_tuple hL
      exact ⟨_, rfl, h⟩
section
variable {prog : Program} {w : World} {A : Around} {E : Value → Shared → Prop} {s : Shared}
theorem call_enT {l : Addr} {items : Array Value} {Q : Value → Shared → Prop} (hL : s.heap.IsTuple l items)
    (hq : ∀ h', IsEnum h' (s.heap.objs.size + 1) s.heap.objs.size 0 .none → h'.IsTupleIter s.heap.objs.size l 0 → (∀ b o, s.heap.get? b = some o → h'.get? b = some o) → Q (.ref (s.heap.objs.size + 1)) { s with heap := h' }) :
    wpAny (model prog w) A (call (.type "enumerate") [.ref l]) Q E s := by
  obtain ⟨⟨c, dct, dt, sl⟩, hl, hc, n, hd⟩ := hL
  replace hc : c = .type "tuple" := hc
  replace hd : dt = .seq items n := hd
  subst hc hd
  refine callType_new F.called_enumerate (by decide) (F.typeCall_enumerate_1 _) (F.newCall_enumerate_1 _) (fun obj => F.args_object_init_2 obj _) F.entry_enumerate_new (madeE l items n dct sl) ⟨hl, ?_⟩
  have z1 : (s.heap.push (eIt l)).objs.size = s.heap.objs.size + 1 := Heap.size_push ..
  have g2 : ((s.heap.push (eIt l)).push (eEn s.heap)).get? (s.heap.push (eIt l)).objs.size = some (eEn s.heap) := Heap.get?_push_size _ rfl
  show _ ∧ _
  rw [z1] at g2 ⊢
  exact ⟨⟨_, g2, rfl⟩, hq _ g2 ⟨_, Heap.get?_push_of_some _ (Heap.get?_push_size _ rfl), rfl, rfl⟩ fun b o x => Heap.get?_push_of_some _ (Heap.get?_push_of_some _ x)⟩
end
open PySem.Spec PyProof.Rows L2
def IteT (K : PySem.W.Frag) (a : Addr) : It :=
  ⟨fun i H => ∃ (xs : List V) (x : V), SqT K H a xs ∧ xs[i]? = some x, fun i H v H' => ∃ T x, v = .ref T ∧ H T = none ∧ H' = upd H T (.tup [.int (i : Nat), x]) ∧ ∀ xs, SqT K H a xs → xs[i]? = some x,
    fun i H => ∃ xs : List V, SqT K H a xs ∧ xs.length ≤ i⟩
theorem turn_enT {P : Program} {w : World} {K : PySem.W.Frag} {elts : List Expr} {kk : Nat} {tpos : Pos} (a e it : Addr) :
    Turn P w K (.Tuple elts kk tpos) (IteT K a) [e, it] e (fun i h => (∃ old, IsEnum h e it ((i : Nat) : Int) old) ∧ h.IsTupleIter it a i ∧ e ≠ it ∧ a ≠ it ∧ e ≠ a) where
  mem := List.mem_cons_self
  obj := fun i h st b hb => by
    obtain ⟨⟨old, he⟩, ⟨o, ho, hc, hd⟩, _⟩ := st
    simp only [List.mem_cons, List.not_mem_nil, or_false] at hb
    rcases hb with rfl | rfl
    · exact ⟨_, he, fun v x => nomatch x⟩
    · exact ⟨o, ho, fun v x => by rw [hd] at x; cases x⟩
  keep := fun i h h' st k => by
    obtain ⟨⟨old, he⟩, hi, n1⟩ := st
    exact ⟨⟨old, k _ (by simp) _ he⟩, hi.at fun o q => k _ (by simp) o q, n1⟩
  item := by
    intro X hP hw hK hc i pins s σ H E I hf st hg
    subst hP hw hK
    obtain ⟨⟨old, he⟩, hit, n1, n2, n3⟩ := st
    obtain ⟨xs, x, hq, hx⟩ := hg
    obtain ⟨its, rv, p, _⟩ := I.tuple hq
    obtain ⟨u, hu, ru⟩ := rv.get hx
    have el : e < s.heap.objs.size := Heap.lt_size he
    have il : it < s.heap.objs.size := by obtain ⟨_, q, _⟩ := hit; exact Heap.lt_size q
    have hl : i < its.toArray.size := by
      rw [List.size_toArray]
      exact (List.getElem?_eq_some_iff.mp hu).1
    refine wpAny_pyNext_enum_itemD (draws_tup (A := X.A.in1) (show X.A.in1.handled = none from I.ok.hd hc) it a n2 its.toArray) he ⟨hit, p⟩ hl n1 (by simp [n1, n3]) fun y h' tk hy ho hst hT hsz hk => ?_
    have : y = u := by
      have e1 : its.toArray[i]? = some u := by simpa using hu
      rw [e1] at hy
      exact (Option.some.inj hy).symm
    subst this
    refine ⟨_, rfl, wpAny_letOwnedTupleGo_enum (s := { s with heap := h', toks := tk + 1 }) ho fun h'' he' sb => ?_⟩
    have nz : ∀ {d : Addr}, d ≠ e → ∀ o, h'.get? d = some o → h''.get? d = some o := fun hd o q => (sb.2 _ hd).trans q
    have new : ObjOk X.prog X.w (upd H s.heap.objs.size (.tup [.int (i : Nat), x])) h'' s.heap.objs.size (.tup [.int (i : Nat), x]) :=
      ⟨by show 2 ≤ sizeLine; decide, [.int i tk, y], .cons ⟨_, rfl⟩ (.cons ru .nil), ⟨_, nz (Nat.ne_of_gt el) _ hT, rfl, _, rfl⟩⟩
    have I1 : Inv X pins σ (upd H s.heap.objs.size (.tup [.int (i : Nat), x])) { s with heap := h'', toks := tk + 1 } :=
      I.turnedNew (ch := [e, it]) (fun b ob hb q => nz (fun z => hb (by simp [z])) _ (hk b ob (fun z => hb (by simp [z])) (fun z => hb (by simp [z])) q)) hf (Nat.le_refl _) new
    refine ⟨.ref s.heap.objs.size, _, I1, rfl, ⟨_, x, rfl, I.hok.fresh (Nat.le_refl _), rfl, fun ys hy => by rw [I.tuple_inj hy hq]; exact hx⟩, ⟨⟨y, ?_⟩, hst.1.at fun o q => nz (Ne.symm n1) o q, n1, n2, n3⟩, fun b hb => ?_⟩
    · rw [show ((i + 1 : Nat) : Int) = (i : Int) + 1 by omega]
      exact he'
    · have hb' : b < s.heap.objs.size := by
        simp only [List.mem_cons, List.not_mem_nil, or_false] at hb
        rcases hb with rfl | rfl <;> assumption
      rw [upd_ne (Nat.ne_of_lt hb')]
      exact (hf b hb).1
  done := by
    intro X hP hw hK hc i pins s σ H E I hf st hg
    subst hP hw hK
    obtain ⟨⟨old, he⟩, hit, n1, n2, n3⟩ := st
    obtain ⟨xs, hq, hx⟩ := hg
    obtain ⟨its, rv, p, _⟩ := I.tuple hq
    obtain ⟨f0, f1, f2, f3, f4, f5⟩ := hf it (by simp)
    have hl := rv.length
    have hT : s.TypeIs (.ref e) "enumerate" := ⟨_, he, rfl⟩
    unfold pyNext
    refine wpAny_bind (wpAny_attempt (wpAny_callSpecial?_slot (name := Str.ofString "__next__") hT F.slot_enumerate_next (wpAny_call_entry F.slot_enumerate_next hT F.entry_enumerate_next ?_ (F.args_enumerate_next_1 _))))
    show wpAny _ _ (field (.ref e) 2 >>= _) _ _ _
    refine wpAny_bind (wpAny_field he rfl (x := Value.ref it) rfl (wpAny_bind (RZ.nextOf_tuple_end (show X.A.in1.handled = none from I.ok.hd hc) hit p (by simp; omega) fun h' x eb ⟨o, ho, hco⟩ => ?_)))
    refine wpAny_bind (wpAny_isInstance (T := "StopIteration") (b := true) ⟨o, ho, hco⟩ isSubtype_stop (wpAny_pure ?_))
    exact ⟨rfl, I.turned (t' := s.toks) (fun b o hb q => eb b o hb q) f0 f1 f3 f4 f5⟩
  self := fun A i s Q E st h => by
    obtain ⟨⟨_, he⟩, _⟩ := st
    exact wpAny_pyIter_enum he h
def iEnT (K : PySem.W.Frag) (ta : TA) : TI := fun σ H R => ta σ H fun vs H1 => ∃ a xs, vs = [V.ref a] ∧ SqT K H1 a xs ∧ R (IteT K a) H1
theorem pi_enT {X : Cx} {e : Expr} {ta : TA} {p pos tpos : Pos} {elts : List Expr} {kk : Nat} (hg : Gl X "enumerate") (hm : X.mg "enumerate" = none) (ha : PA X [e] ta) (hs : starEach [e] X.env = [(false, eval e X.env)] := by rfl) :
    PI X (.Tuple elts kk tpos) (.Call (.Name "enumerate" p) [e] [] pos) (iEnT X.K ta) := by
  refine ⟨fun pins s σ H R I h => Call_ (ld_blt I hg hm boot_enumerate (PyProof.Rows.callWith_type1 (thn (ha.run pos pins s σ H _ I h) fun us s1 ⟨vs, H1, I1, r1, q1⟩ => ?_) hs rfl))⟩
  obtain ⟨a, xs, rfl, hq, q⟩ := q1
  cases r1 with
  | cons r rr =>
    cases rr
    cases r
    obtain ⟨its, rv, p', _⟩ := I1.tuple hq
    obtain ⟨oa, ha', _⟩ := id p'
    have al : a < s1.heap.objs.size := Heap.lt_size ha'
    refine call_enT (show s1.heap.IsTuple a its.toArray from p') fun h' he hit hk => wpAny_pyIter_enum he ?_
    refine ⟨s1.heap.objs.size + 1, [s1.heap.objs.size + 1, s1.heap.objs.size], _, _, H1, rfl, I1.kept (t' := s1.toks) hk, turn_enT a _ _, ⟨⟨.none, he⟩, hit, Nat.succ_ne_self _, Nat.ne_of_lt al, Nat.ne_of_gt (Nat.lt_succ_of_lt al)⟩, fun b hb => ?_, q⟩
    have hle : s1.heap.objs.size ≤ b := by
      simp only [List.mem_cons, List.not_mem_nil, or_false] at hb
      rcases hb with rfl | rfl <;> (first | omega | (change (_ : Nat) ≠ (_ : Nat); omega) | (change (_ : Nat) < (_ : Nat); omega) | (change (_ : Nat) ≤ (_ : Nat); omega))
    exact I1.fpOk hle (I1.hok.fresh hle)
end Z3

set_option maxHeartbeats 2000000
/-! zip of a tuple and a list -/
namespace Z2
open PySem Z3
section
variable {prog : Program} {w : World} {A : Around} {E : Value → Shared → Prop} {s : Shared}
theorem upd2 {T : Addr} {p q x : Value} {k : Nat} {Q : Unit → Shared → Prop} (hT : IsPair s.heap T p q)
    (hq : ∀ g, g.get? T = some { cls := .type "tuple", data := .seq ((#[p, q] : Array Value).setIfInBounds k x) } → Heap.SameBut T s.heap g → Q () { s with heap := g }) : wpAny (model prog w) A (updateSeq T (·.setIfInBounds k x)) Q E s := by
  refine wpAny_updateSeq hT rfl (hq _ (by rw [Heap.get?_update_self _ hT rfl]; simp [Obj.mapSeq]) (Heap.SameBut.update ..))
/-- the zip at n + 4, its iterators at n, n + 1, the tuple of them at n + 2, its own tuple at n + 3 -/
structure St (n l1 l2 k : Nat) (f : Value) (h : Heap) : Prop where
  z : IsZip h (n + 4) (n + 2) (n + 3) f
  i : IsPair h (n + 2) (.ref n) (.ref (n + 1))
  o : ∃ p q, IsPair h (n + 3) p q
  a : h.IsTupleIter n l1 k
  b : h.IsListIter (n + 1) l2 k
def Out (n : Nat) (h h' : Heap) : Prop := ∀ c o, c ≠ n + 4 → c ≠ n + 3 → c ≠ n → c ≠ n + 1 → h.get? c = some o → h'.get? c = some o
theorem item {n l1 l2 k : Nat} {xs ys : Array Value} {x y : Value} {Q : Value → Shared → Prop} (q1 : l1 < n) (q2 : l2 < n) (st : St n l1 l2 k .none s.heap)
    (hl1 : s.heap.IsTuple l1 xs) (hl2 : s.heap.IsList l2 ys) (hx : xs[k]? = some x) (hy : ys[k]? = some y)
    (hQ : ∀ h', St n l1 l2 (k + 1) (rawInt s.heap.objs.size) h' → IsPair h' s.heap.objs.size x y → h'.objs.size = s.heap.objs.size + 1 → Out n s.heap h' → Q (.ref s.heap.objs.size) { s with heap := h' }) :
    wpAny (model prog w) A (Builtin.«zip.__next__» ⟨[.ref (n + 4)], []⟩) (fun fin s' => ∃ v, fin = .done (.ret v) ∧ Q v s') E s := by
  obtain ⟨hz, hI, ⟨p, q, hO⟩, h1, h2⟩ := st
  show wpAny _ _ (field (.ref (n + 4)) 2 >>= _) _ _ _
  refine wpAny_bind (wpAny_field hz rfl (x := Value.bool false) rfl ?_)
  show wpAny _ _ (field (.ref (n + 4)) 3 >>= _) _ _ _
  refine wpAny_bind (wpAny_field hz rfl (x := Value.ref (n + 2)) rfl (wpAny_bind (wpAny_seqItems hI rfl ?_)))
  show wpAny _ _ (Builtin.SmallTypes.ownedTupleIsFree (.ref (n + 4)) >>= _) _ _ _
  refine wpAny_bind ?_
  unfold Builtin.SmallTypes.ownedTupleIsFree
  refine wpAny_bind (wpAny_field hz rfl (x := Value.none) rfl (wpAny_pure ?_))
  simp only [if_true]
  refine wpAny_bind (wpAny_rule (wpAny_bind (wpAny_field hz rfl (x := Value.ref (n + 3)) rfl (wpAny_bind (wpAny_setField_rec hz (by simp) fun g1 z1 e1 => ?_)))))
  replace z1 : IsZip g1 (n + 4) (n + 2) (n + 3) .ellipsis := z1
  have E1 : ∀ c o, c ≠ n + 4 → s.heap.get? c = some o → g1.get? c = some o := fun c o hc e => e1.extBut _ _ hc e
  refine wpAny_bind ?_
  simp only [List.zipIdx_cons, List.zipIdx_nil, List.forIn_cons, List.forIn_nil]
  refine wpAny_bind (wpAny_bind (wpAny_onRaise ?_))
  show wpAny _ _ (Builtin.SmallTypes.nextOf (.ref n) >>= _) _ _ _
  refine wpAny_bind (RZ.nextOf_tuple_item (h1.extBut e1.extBut (by first | omega | (change (_ : Nat) ≠ (_ : Nat); omega) | (change (_ : Nat) < (_ : Nat); omega) | (change (_ : Nat) ≤ (_ : Nat); omega))) (hl1.extBut e1.extBut (by first | omega | (change (_ : Nat) ≠ (_ : Nat); omega) | (change (_ : Nat) < (_ : Nat); omega) | (change (_ : Nat) ≤ (_ : Nat); omega))) hx fun g2 a2 e2 => wpAny_pure ?_)
  have O2 : IsPair g2 (n + 3) p q := e2.extBut _ _ (by first | omega | (change (_ : Nat) ≠ (_ : Nat); omega) | (change (_ : Nat) < (_ : Nat); omega) | (change (_ : Nat) ≤ (_ : Nat); omega)) (E1 _ _ (by first | omega | (change (_ : Nat) ≠ (_ : Nat); omega) | (change (_ : Nat) < (_ : Nat); omega) | (change (_ : Nat) ≤ (_ : Nat); omega)) hO)
  refine wpAny_bind (wpAny_seqItems O2 rfl (wpAny_bind (upd2 O2 fun g3 O3 e3 => ?_)))
  replace O3 : IsPair g3 (n + 3) x q := O3
  have E3 : ∀ c o, c ≠ n + 4 → c ≠ n + 3 → c ≠ n → s.heap.get? c = some o → g3.get? c = some o := fun c o c1 c2 c3 e => e3.extBut _ _ c2 (e2.extBut _ _ c3 (E1 _ _ c1 e))
  refine wpAny_bind (wpAny_letGo (wpAny_pure ?_))
  refine wpAny_bind (wpAny_bind (wpAny_onRaise ?_))
  show wpAny _ _ (Builtin.SmallTypes.nextOf (.ref (n + 1)) >>= _) _ _ _
  refine wpAny_bind (wpAny_nextOf_list_item (h2.at fun o e => E3 _ o (by first | omega | (change (_ : Nat) ≠ (_ : Nat); omega) | (change (_ : Nat) < (_ : Nat); omega) | (change (_ : Nat) ≤ (_ : Nat); omega)) (by first | omega | (change (_ : Nat) ≠ (_ : Nat); omega) | (change (_ : Nat) < (_ : Nat); omega) | (change (_ : Nat) ≤ (_ : Nat); omega)) (by first | omega | (change (_ : Nat) ≠ (_ : Nat); omega) | (change (_ : Nat) < (_ : Nat); omega) | (change (_ : Nat) ≤ (_ : Nat); omega)) e) (hl2.at fun o e => E3 _ o (by first | omega | (change (_ : Nat) ≠ (_ : Nat); omega) | (change (_ : Nat) < (_ : Nat); omega) | (change (_ : Nat) ≤ (_ : Nat); omega)) (by first | omega | (change (_ : Nat) ≠ (_ : Nat); omega) | (change (_ : Nat) < (_ : Nat); omega) | (change (_ : Nat) ≤ (_ : Nat); omega)) (by first | omega | (change (_ : Nat) ≠ (_ : Nat); omega) | (change (_ : Nat) < (_ : Nat); omega) | (change (_ : Nat) ≤ (_ : Nat); omega)) e) hy fun g4 b4 e4 => wpAny_pure ?_)
  have O4 : IsPair g4 (n + 3) x q := e4.extBut _ _ (by first | omega | (change (_ : Nat) ≠ (_ : Nat); omega) | (change (_ : Nat) < (_ : Nat); omega) | (change (_ : Nat) ≤ (_ : Nat); omega)) O3
  refine wpAny_bind (wpAny_seqItems O4 rfl (wpAny_bind (upd2 O4 fun g7 O7 e7 => ?_)))
  replace O7 : IsPair g7 (n + 3) x y := O7
  have E7 : Out n s.heap g7 := fun c o c1 c2 c3 c4 e => e7.extBut _ _ c2 (e4.extBut _ _ c4 (E3 _ _ c1 c2 c3 e))
  refine wpAny_bind (wpAny_letGo (wpAny_pure (wpAny_pure ?_)))
  refine wpAny_bind (wpAny_seqItems O7 rfl (wpAny_bind (wpAny_newTuple ?_)))
  have sz : g7.objs.size = s.heap.objs.size := by rw [e7.1, e4.1, e3.1, e2.1, e1.1]
  have z7 : IsZip g7 (n + 4) (n + 2) (n + 3) .ellipsis := e7.extBut _ _ (by first | omega | (change (_ : Nat) ≠ (_ : Nat); omega) | (change (_ : Nat) < (_ : Nat); omega) | (change (_ : Nat) ≤ (_ : Nat); omega)) (e4.extBut _ _ (by first | omega | (change (_ : Nat) ≠ (_ : Nat); omega) | (change (_ : Nat) < (_ : Nat); omega) | (change (_ : Nat) ≤ (_ : Nat); omega)) (e3.extBut _ _ (by first | omega | (change (_ : Nat) ≠ (_ : Nat); omega) | (change (_ : Nat) < (_ : Nat); omega) | (change (_ : Nat) ≤ (_ : Nat); omega)) (e2.extBut _ _ (by first | omega | (change (_ : Nat) ≠ (_ : Nat); omega) | (change (_ : Nat) < (_ : Nat); omega) | (change (_ : Nat) ≤ (_ : Nat); omega)) z1)))
  have a7 : g7.IsTupleIter n l1 (k + 1) := a2.at fun o e => e7.extBut _ _ (by first | omega | (change (_ : Nat) ≠ (_ : Nat); omega) | (change (_ : Nat) < (_ : Nat); omega) | (change (_ : Nat) ≤ (_ : Nat); omega)) (e4.extBut _ _ (by first | omega | (change (_ : Nat) ≠ (_ : Nat); omega) | (change (_ : Nat) < (_ : Nat); omega) | (change (_ : Nat) ≤ (_ : Nat); omega)) (e3.extBut _ _ (by first | omega | (change (_ : Nat) ≠ (_ : Nat); omega) | (change (_ : Nat) < (_ : Nat); omega) | (change (_ : Nat) ≤ (_ : Nat); omega)) e))
  have b7 : g7.IsListIter (n + 1) l2 (k + 1) := b4.at fun o e => e7.extBut _ _ (by first | omega | (change (_ : Nat) ≠ (_ : Nat); omega) | (change (_ : Nat) < (_ : Nat); omega) | (change (_ : Nat) ≤ (_ : Nat); omega)) e
  have i7 : IsPair g7 (n + 2) (.ref n) (.ref (n + 1)) := E7 _ _ (by first | omega | (change (_ : Nat) ≠ (_ : Nat); omega) | (change (_ : Nat) < (_ : Nat); omega) | (change (_ : Nat) ≤ (_ : Nat); omega)) (by first | omega | (change (_ : Nat) ≠ (_ : Nat); omega) | (change (_ : Nat) < (_ : Nat); omega) | (change (_ : Nat) ≤ (_ : Nat); omega)) (by first | omega | (change (_ : Nat) ≠ (_ : Nat); omega) | (change (_ : Nat) < (_ : Nat); omega) | (change (_ : Nat) ≤ (_ : Nat); omega)) (by first | omega | (change (_ : Nat) ≠ (_ : Nat); omega) | (change (_ : Nat) < (_ : Nat); omega) | (change (_ : Nat) ≤ (_ : Nat); omega)) hI
  have zl : n + 4 < g7.objs.size := Heap.lt_size z7
  show wpAny _ _ (Builtin.SmallTypes.ownedTupleHandOut (.ref (n + 4)) (.ref g7.objs.size) >>= _) _ _ _
  refine wpAny_bind ?_
  unfold Builtin.SmallTypes.ownedTupleHandOut
  have z8 : IsZip (g7.push { cls := .type "tuple", data := .seq #[x, y] }) (n + 4) (n + 2) (n + 3) .ellipsis := Heap.get?_push_of_some _ z7
  refine wpAny_bind (wpAny_setField_rec z8 (by simp) fun g9 z9 e9 => ?_)
  replace z9 : IsZip g9 (n + 4) (n + 2) (n + 3) (rawInt g7.objs.size) := z9
  refine wpAny_setField_rec z9 (by simp) fun h' zz ez => ?_
  replace zz : IsZip h' (n + 4) (n + 2) (n + 3) (rawInt g7.objs.size) := zz
  have up : ∀ c o, c ≠ n + 4 → g7.get? c = some o → h'.get? c = some o := fun c o c1 e => ez.extBut _ _ c1 (e9.extBut _ _ c1 (Heap.get?_push_of_some _ e))
  have t8 : IsPair h' g7.objs.size x y := ez.extBut _ _ (Nat.ne_of_gt zl) (e9.extBut _ _ (Nat.ne_of_gt zl) (Heap.get?_push_size _ rfl))
  have sz2 : h'.objs.size = g7.objs.size + 1 := by rw [ez.1, e9.1, Heap.size_push]
  rw [sz] at zz t8 sz2
  refine wpAny_pure ⟨_, rfl, ?_⟩
  show Q (.ref g7.objs.size) _
  rw [sz]
  exact hQ h' ⟨zz, up _ _ (by first | omega | (change (_ : Nat) ≠ (_ : Nat); omega) | (change (_ : Nat) < (_ : Nat); omega) | (change (_ : Nat) ≤ (_ : Nat); omega)) i7, ⟨_, _, up _ _ (by first | omega | (change (_ : Nat) ≠ (_ : Nat); omega) | (change (_ : Nat) < (_ : Nat); omega) | (change (_ : Nat) ≤ (_ : Nat); omega)) O7⟩, a7.at fun o e => up _ o (by first | omega | (change (_ : Nat) ≠ (_ : Nat); omega) | (change (_ : Nat) < (_ : Nat); omega) | (change (_ : Nat) ≤ (_ : Nat); omega)) e, b7.at fun o e => up _ o (by first | omega | (change (_ : Nat) ≠ (_ : Nat); omega) | (change (_ : Nat) < (_ : Nat); omega) | (change (_ : Nat) ≤ (_ : Nat); omega)) e⟩ t8 sz2 fun c o c1 c2 c3 c4 e => up c o c1 (E7 c o c1 c2 c3 c4 e)
theorem fin {n l1 l2 k : Nat} {xs ys : Array Value} {Q : Fin → Shared → Prop} (hh : A.handled = none) (q1 : l1 < n) (q2 : l2 < n) (st : St n l1 l2 k .none s.heap)
    (hl1 : s.heap.IsTuple l1 xs) (hl2 : s.heap.IsList l2 ys) (hend : xs[k]? = none ∨ ys[k]? = none)
    (hE : ∀ h' e, Out n s.heap h' → (∃ o, h'.get? e = some o ∧ o.cls = .type "StopIteration") → E (.ref e) { s with heap := h' }) : wpAny (model prog w) A (Builtin.«zip.__next__» ⟨[.ref (n + 4)], []⟩) Q E s := by
  obtain ⟨hz, hI, ⟨p, q, hO⟩, h1, h2⟩ := st
  show wpAny _ _ (field (.ref (n + 4)) 2 >>= _) _ _ _
  refine wpAny_bind (wpAny_field hz rfl (x := Value.bool false) rfl ?_)
  show wpAny _ _ (field (.ref (n + 4)) 3 >>= _) _ _ _
  refine wpAny_bind (wpAny_field hz rfl (x := Value.ref (n + 2)) rfl (wpAny_bind (wpAny_seqItems hI rfl ?_)))
  show wpAny _ _ (Builtin.SmallTypes.ownedTupleIsFree (.ref (n + 4)) >>= _) _ _ _
  refine wpAny_bind ?_
  unfold Builtin.SmallTypes.ownedTupleIsFree
  refine wpAny_bind (wpAny_field hz rfl (x := Value.none) rfl (wpAny_pure ?_))
  simp only [if_true]
  refine wpAny_bind (wpAny_rule (wpAny_bind (wpAny_field hz rfl (x := Value.ref (n + 3)) rfl (wpAny_bind (wpAny_setField_rec hz (by simp) fun g1 z1 e1 => ?_)))))
  replace z1 : IsZip g1 (n + 4) (n + 2) (n + 3) .ellipsis := z1
  have E1 : ∀ c o, c ≠ n + 4 → s.heap.get? c = some o → g1.get? c = some o := fun c o hc e => e1.extBut _ _ hc e
  have last : ∀ {g2 : Heap} {e : Addr} {S : Shared}, S = { s with heap := g2 } → IsZip g2 (n + 4) (n + 2) (n + 3) .ellipsis → Out n s.heap g2 → (∃ o, g2.get? e = some o ∧ o.cls = .type "StopIteration") →
      wpAny (model prog w) A (setField (.ref (n + 4)) 0 .none) (fun _ s' => E (.ref e) s') E S := by
    rintro g2 e S rfl zg O2 ⟨oe, he, hc⟩
    have ne : e ≠ n + 4 := fun x => by subst x; rw [zg] at he; cases he; simp at hc
    exact wpAny_setField_rec (s := { s with heap := g2 }) zg (by simp) fun g3 _ e3 => hE g3 e (fun c o c1 c2 c3 c4 x => e3.extBut _ _ c1 (O2 c o c1 c2 c3 c4 x)) ⟨oe, e3.extBut _ _ ne he, hc⟩
  refine wpAny_bind ?_
  simp only [List.zipIdx_cons, List.zipIdx_nil, List.forIn_cons, List.forIn_nil]
  refine wpAny_bind (wpAny_bind (wpAny_onRaise ?_))
  show wpAny _ _ (Builtin.SmallTypes.nextOf (.ref n) >>= _) _ _ _
  cases hx : xs[k]? with
  | none =>
    exact wpAny_bind (RZ.nextOf_tuple_end hh (h1.extBut e1.extBut (by first | omega | (change (_ : Nat) ≠ (_ : Nat); omega) | (change (_ : Nat) < (_ : Nat); omega) | (change (_ : Nat) ≤ (_ : Nat); omega))) (hl1.extBut e1.extBut (by first | omega | (change (_ : Nat) ≠ (_ : Nat); omega) | (change (_ : Nat) < (_ : Nat); omega) | (change (_ : Nat) ≤ (_ : Nat); omega))) hx fun g2 e e2 he => last rfl (e2 _ _ (by first | omega | (change (_ : Nat) ≠ (_ : Nat); omega) | (change (_ : Nat) < (_ : Nat); omega) | (change (_ : Nat) ≤ (_ : Nat); omega)) z1) (fun c o c1 c2 c3 c4 x => e2 _ _ c3 (E1 _ _ c1 x)) he)
  | some x =>
    have hy : ys[k]? = none := by rcases hend with h | h; (rw [hx] at h; cases h); exact h
    refine wpAny_bind (RZ.nextOf_tuple_item (h1.extBut e1.extBut (by first | omega | (change (_ : Nat) ≠ (_ : Nat); omega) | (change (_ : Nat) < (_ : Nat); omega) | (change (_ : Nat) ≤ (_ : Nat); omega))) (hl1.extBut e1.extBut (by first | omega | (change (_ : Nat) ≠ (_ : Nat); omega) | (change (_ : Nat) < (_ : Nat); omega) | (change (_ : Nat) ≤ (_ : Nat); omega))) hx fun g2 a2 e2 => wpAny_pure ?_)
    have O2 : IsPair g2 (n + 3) p q := e2.extBut _ _ (by first | omega | (change (_ : Nat) ≠ (_ : Nat); omega) | (change (_ : Nat) < (_ : Nat); omega) | (change (_ : Nat) ≤ (_ : Nat); omega)) (E1 _ _ (by first | omega | (change (_ : Nat) ≠ (_ : Nat); omega) | (change (_ : Nat) < (_ : Nat); omega) | (change (_ : Nat) ≤ (_ : Nat); omega)) hO)
    refine wpAny_bind (wpAny_seqItems O2 rfl (wpAny_bind (upd2 O2 fun g3 O3 e3 => ?_)))
    have z3 : IsZip g3 (n + 4) (n + 2) (n + 3) .ellipsis := e3.extBut _ _ (by first | omega | (change (_ : Nat) ≠ (_ : Nat); omega) | (change (_ : Nat) < (_ : Nat); omega) | (change (_ : Nat) ≤ (_ : Nat); omega)) (e2.extBut _ _ (by first | omega | (change (_ : Nat) ≠ (_ : Nat); omega) | (change (_ : Nat) < (_ : Nat); omega) | (change (_ : Nat) ≤ (_ : Nat); omega)) z1)
    have E3 : ∀ c o, c ≠ n + 4 → c ≠ n + 3 → c ≠ n → s.heap.get? c = some o → g3.get? c = some o := fun c o c1 c2 c3 e => e3.extBut _ _ c2 (e2.extBut _ _ c3 (E1 _ _ c1 e))
    refine wpAny_bind (wpAny_letGo (wpAny_pure ?_))
    refine wpAny_bind (wpAny_bind (wpAny_onRaise ?_))
    show wpAny _ _ (Builtin.SmallTypes.nextOf (.ref (n + 1)) >>= _) _ _ _
    exact wpAny_bind (wpAny_nextOf_list_end hh (h2.at fun o e => E3 _ o (by first | omega | (change (_ : Nat) ≠ (_ : Nat); omega) | (change (_ : Nat) < (_ : Nat); omega) | (change (_ : Nat) ≤ (_ : Nat); omega)) (by first | omega | (change (_ : Nat) ≠ (_ : Nat); omega) | (change (_ : Nat) < (_ : Nat); omega) | (change (_ : Nat) ≤ (_ : Nat); omega)) (by first | omega | (change (_ : Nat) ≠ (_ : Nat); omega) | (change (_ : Nat) < (_ : Nat); omega) | (change (_ : Nat) ≤ (_ : Nat); omega)) e) (hl2.at fun o e => E3 _ o (by first | omega | (change (_ : Nat) ≠ (_ : Nat); omega) | (change (_ : Nat) < (_ : Nat); omega) | (change (_ : Nat) ≤ (_ : Nat); omega)) (by first | omega | (change (_ : Nat) ≠ (_ : Nat); omega) | (change (_ : Nat) < (_ : Nat); omega) | (change (_ : Nat) ≤ (_ : Nat); omega)) (by first | omega | (change (_ : Nat) ≠ (_ : Nat); omega) | (change (_ : Nat) < (_ : Nat); omega) | (change (_ : Nat) ≤ (_ : Nat); omega)) e) hy fun g4 e e4 he => last rfl (e4 _ _ (by first | omega | (change (_ : Nat) ≠ (_ : Nat); omega) | (change (_ : Nat) < (_ : Nat); omega) | (change (_ : Nat) ≤ (_ : Nat); omega)) z3) (fun c o c1 c2 c3 c4 x => e4 _ _ c4 (E3 _ _ c1 c2 c3 x)) he)
theorem next_item {n l1 l2 k : Nat} {xs ys : Array Value} {x y : Value} {Q : Option Value → Shared → Prop} (q1 : l1 < n) (q2 : l2 < n) (st : St n l1 l2 k .none s.heap)
    (hl1 : s.heap.IsTuple l1 xs) (hl2 : s.heap.IsList l2 ys) (hx : xs[k]? = some x) (hy : ys[k]? = some y)
    (hQ : ∀ h', St n l1 l2 (k + 1) (rawInt s.heap.objs.size) h' → IsPair h' s.heap.objs.size x y → h'.objs.size = s.heap.objs.size + 1 → Out n s.heap h' → Q (some (.ref s.heap.objs.size)) { s with heap := h' }) : wpAny (model prog w) A (pyNext (.ref (n + 4))) Q E s := by
  have hT : s.TypeIs (.ref (n + 4)) "zip" := ⟨_, st.z, rfl⟩
  unfold pyNext
  exact wpAny_bind (wpAny_attempt (wpAny_callSpecial?_slot (name := Str.ofString "__next__") hT F.slot_zip_next (wpAny_call_entry F.slot_zip_next hT F.entry_zip_next (item q1 q2 st hl1 hl2 hx hy fun h' a b c d => wpAny_pure (hQ h' a b c d)) (F.args_zip_next_1 _))))
theorem next_fin {n l1 l2 k : Nat} {xs ys : Array Value} {Q : Option Value → Shared → Prop} (hh : A.handled = none) (q1 : l1 < n) (q2 : l2 < n) (st : St n l1 l2 k .none s.heap)
    (hl1 : s.heap.IsTuple l1 xs) (hl2 : s.heap.IsList l2 ys) (hend : xs[k]? = none ∨ ys[k]? = none)
    (hQ : ∀ h', Out n s.heap h' → Q none { s with heap := h' }) : wpAny (model prog w) A (pyNext (.ref (n + 4))) Q E s := by
  have hT : s.TypeIs (.ref (n + 4)) "zip" := ⟨_, st.z, rfl⟩
  unfold pyNext
  exact wpAny_bind (wpAny_attempt (wpAny_callSpecial?_slot (name := Str.ofString "__next__") hT F.slot_zip_next (wpAny_call_entry F.slot_zip_next hT F.entry_zip_next (fin hh q1 q2 st hl1 hl2 hend fun h' e hk ⟨o, ho, hc⟩ => wpAny_bind (wpAny_isInstance (T := "StopIteration") (b := true) ⟨o, ho, hc⟩ isSubtype_stop (wpAny_pure (hQ _ hk)))) (F.args_zip_next_1 _))))
end
/-! making one -/
abbrev itL (l : Addr) : Obj := { cls := .type "list_iterator", data := .fields #[.ref l, .int 0 0] }
abbrev m2 (h : Heap) (l1 l2 : Addr) : Heap := (h.push (itO l1)).push (itL l2)
abbrev m3 (h : Heap) (l1 l2 : Addr) : Heap := (m2 h l1 l2).push { cls := .type "tuple", data := .seq #[.ref h.objs.size, .ref (h.push (itO l1)).objs.size] }
abbrev m4 (h : Heap) (l1 l2 : Addr) : Heap := (m3 h l1 l2).push { cls := .type "tuple", data := .seq #[.none, .none] }
abbrev m5 (h : Heap) (l1 l2 : Addr) : Heap := (m4 h l1 l2).push { cls := .type "zip", data := .fields #[.none, .bool false, .bool false, .ref (m2 h l1 l2).objs.size, .ref (m3 h l1 l2).objs.size] }
theorem made (l1 l2 : Addr) (xs ys : Array Value) : Meets (Builtin.«zip.__new__» ⟨[.type "zip", .ref l1, .ref l2], []⟩) (fun _ R s => s.heap.IsTuple l1 xs ∧ s.heap.IsList l2 ys ∧
    R (.ok (.ret (.ref (m4 s.heap l1 l2).objs.size))) { s with heap := m5 s.heap l1 l2 }) :=
  .of_wp fun prog w A R s h => by
    obtain ⟨hp, g, d, tk, os⟩ := s
    obtain ⟨hl1, hl2, h⟩ := h
    have hsub := sub_zip
    have hL1 : Heap.IsTuple (Shared.heap ⟨hp, g, d, tk, os⟩) l1 xs := hl1
    have hL2 : Heap.IsList (Shared.heap ⟨hp.push { cls := .type "tuple_iterator", data := .fields #[.ref l1, .int 0 0] }, g, d, tk, os⟩) l2 ys := Heap.IsList.push hl2 _
    wp_walk using wpAny_pyIter_tuple hL1, wpAny_pyIter_list hL2
    exact ⟨_, rfl, h⟩
section
variable {prog : Program} {w : World} {A : Around} {E : Value → Shared → Prop} {s : Shared}
theorem call2 {l1 l2 : Addr} {xs ys : Array Value} {Q : Value → Shared → Prop} (hl1 : s.heap.IsTuple l1 xs) (hl2 : s.heap.IsList l2 ys)
    (hq : ∀ h', St s.heap.objs.size l1 l2 0 .none h' → (∀ c o, s.heap.get? c = some o → h'.get? c = some o) → Q (.ref (s.heap.objs.size + 4)) { s with heap := h' }) :
    wpAny (model prog w) A (call (.type "zip") [.ref l1, .ref l2]) Q E s := by
  refine callType_new F.called_zip (by decide) (F.typeCall_zip_2 _ _) (F.newCall_zip_2 _ _) (fun obj => F.args_object_init_3 obj _ _) F.entry_zip_new (made l1 l2 xs ys) ⟨hl1, hl2, ?_⟩
  have z1 : (s.heap.push (itO l1)).objs.size = s.heap.objs.size + 1 := Heap.size_push ..
  have z2 : (m2 s.heap l1 l2).objs.size = s.heap.objs.size + 2 := by rw [Heap.size_push, z1]
  have z3 : (m3 s.heap l1 l2).objs.size = s.heap.objs.size + 3 := by rw [Heap.size_push, z2]
  have z4 : (m4 s.heap l1 l2).objs.size = s.heap.objs.size + 4 := by rw [Heap.size_push, z3]
  have up1 : ∀ {h : Heap} {o o' : Obj} {c : Addr}, h.get? c = some o → (h.push o').get? c = some o := fun e => Heap.get?_push_of_some _ e
  have g5 : (m5 s.heap l1 l2).get? (m4 s.heap l1 l2).objs.size = some _ := Heap.get?_push_size _ rfl
  have g4 : (m5 s.heap l1 l2).get? (m3 s.heap l1 l2).objs.size = some _ := up1 (Heap.get?_push_size _ rfl)
  have g3 : (m5 s.heap l1 l2).get? (m2 s.heap l1 l2).objs.size = some _ := up1 (up1 (Heap.get?_push_size _ rfl))
  have g2 : (m5 s.heap l1 l2).get? (s.heap.push (itO l1)).objs.size = some _ := up1 (up1 (up1 (Heap.get?_push_size _ rfl)))
  have g1 : (m5 s.heap l1 l2).get? s.heap.objs.size = some _ := up1 (up1 (up1 (up1 (Heap.get?_push_size _ rfl))))
  show _ ∧ _
  rw [z2, z3, z4] at g5
  rw [z3] at g4
  rw [z1, z2] at g3
  rw [z1] at g2
  rw [z4]
  exact ⟨⟨_, g5, rfl⟩, hq _ ⟨g5, g3, ⟨_, _, g4⟩, ⟨_, g1, rfl, rfl⟩, ⟨_, g2, rfl, rfl⟩⟩ fun c o x => up1 (up1 (up1 (up1 (up1 x))))⟩
end
open PySem.Spec PyProof.Rows L2
def Itz2 (K : PySem.W.Frag) (a b : Addr) : It :=
  ⟨fun i H => ∃ (xs ys : List V) (x y : V), SqT K H a xs ∧ SqL K H b ys ∧ xs[i]? = some x ∧ ys[i]? = some y,
    fun i H v H' => ∃ T x y, v = .ref T ∧ H T = none ∧ H' = upd H T (.tup [x, y]) ∧ (∀ xs, SqT K H a xs → xs[i]? = some x) ∧ (∀ ys, SqL K H b ys → ys[i]? = some y),
    fun i H => ∃ xs ys : List V, SqT K H a xs ∧ SqL K H b ys ∧ (xs.length ≤ i ∨ ys.length ≤ i)⟩
theorem turn2 {P : Program} {w : World} {K : PySem.W.Frag} {elts : List Expr} {kk : Nat} {tpos : Pos} {a b : Addr} {n : Nat} (q1 : a < n) (q2 : b < n) :
    Turn P w K (.Tuple elts kk tpos) (Itz2 K a b) [n + 4, n + 2, n + 3, n, n + 1] (n + 4) (fun i h => St n a b i .none h) where
  mem := by simp
  obj := fun i h st d hd => by
    obtain ⟨hz, hI, ⟨p, q, hO⟩, ⟨o1, e1, _, d1⟩, ⟨o2, e2, _, d2⟩⟩ := st
    simp only [List.mem_cons, List.not_mem_nil, or_false] at hd
    rcases hd with rfl | rfl | rfl | rfl | rfl
    · exact ⟨_, hz, fun v x => nomatch x⟩
    · exact ⟨_, hI, fun v x => nomatch x⟩
    · exact ⟨_, hO, fun v x => nomatch x⟩
    · exact ⟨o1, e1, fun v x => by rw [d1] at x; cases x⟩
    · exact ⟨o2, e2, fun v x => by rw [d2] at x; cases x⟩
  keep := fun i h h' st k => by
    obtain ⟨hz, hI, ⟨p, q, hO⟩, h1, h2⟩ := st
    exact ⟨k _ (by simp) _ hz, k _ (by simp) _ hI, ⟨p, q, k _ (by simp) _ hO⟩, h1.at fun o q => k _ (by simp) o q, h2.at fun o q => k _ (by simp) o q⟩
  item := by
    intro X hP hw hK hc i pins s σ H E I hf st hg
    subst hP hw hK
    obtain ⟨xs, ys, x, y, hqx, hqy, hx, hy⟩ := hg
    obtain ⟨i1, rv1, p1, _⟩ := I.tuple hqx
    obtain ⟨i2, rv2, p2, _⟩ := I.list hqy
    obtain ⟨u1, hu1, ru1⟩ := rv1.get hx
    obtain ⟨u2, hu2, ru2⟩ := rv2.get hy
    have zl : n + 4 < s.heap.objs.size := Heap.lt_size st.z
    refine next_item q1 q2 st p1 p2.isList (x := u1) (y := u2) (by simpa using hu1) (by simpa using hu2) fun h' st' hT hsz hk => ?_
    refine ⟨_, rfl, wpAny_letOwnedTupleGo_zip (s := { s with heap := h' }) st'.z fun h'' zz sb => ?_⟩
    have nz : ∀ {d : Addr}, d ≠ n + 4 → ∀ o, h'.get? d = some o → h''.get? d = some o := fun hd o e => (sb.2 _ hd).trans e
    have hT2 : h''.get? s.heap.objs.size = some { cls := .type "tuple", data := .seq #[u1, u2] } := nz (Nat.ne_of_gt zl) _ hT
    have new : ObjOk X.prog X.w (upd H s.heap.objs.size (.tup [x, y])) h'' s.heap.objs.size (.tup [x, y]) :=
      ⟨by show 2 ≤ sizeLine; decide, [u1, u2], .cons ru1 (.cons ru2 .nil), ⟨_, hT2, rfl, _, rfl⟩⟩
    have I1 : Inv X pins σ (upd H s.heap.objs.size (.tup [x, y])) { s with heap := h'' } :=
      I.turnedNew (t' := s.toks) (ch := [n + 4, n + 2, n + 3, n, n + 1]) (fun d o hb q => nz (fun q' => hb (by simp [q'])) _ (hk d o (fun q' => hb (by simp [q'])) (fun q' => hb (by simp [q'])) (fun q' => hb (by simp [q'])) (fun q' => hb (by simp [q'])) q)) hf (Nat.le_refl _) new
    refine ⟨.ref s.heap.objs.size, _, I1, rfl, ⟨_, x, y, rfl, I.hok.fresh (Nat.le_refl _), rfl, fun l hl => by rw [I.tuple_inj hl hqx]; exact hx, fun l hl => by rw [I.list_inj hl hqy]; exact hy⟩,
      ⟨zz, nz (by first | omega | (change (_ : Nat) ≠ (_ : Nat); omega) | (change (_ : Nat) < (_ : Nat); omega) | (change (_ : Nat) ≤ (_ : Nat); omega)) _ st'.i, ?_, st'.a.at fun o q => nz (by first | omega | (change (_ : Nat) ≠ (_ : Nat); omega) | (change (_ : Nat) < (_ : Nat); omega) | (change (_ : Nat) ≤ (_ : Nat); omega)) o q, st'.b.at fun o q => nz (by first | omega | (change (_ : Nat) ≠ (_ : Nat); omega) | (change (_ : Nat) < (_ : Nat); omega) | (change (_ : Nat) ≤ (_ : Nat); omega)) o q⟩, fun d hd => ?_⟩
    · obtain ⟨p, q, hO⟩ := st'.o
      exact ⟨p, q, nz (by first | omega | (change (_ : Nat) ≠ (_ : Nat); omega) | (change (_ : Nat) < (_ : Nat); omega) | (change (_ : Nat) ≤ (_ : Nat); omega)) _ hO⟩
    · have hlt : d < s.heap.objs.size := by
        simp only [List.mem_cons, List.not_mem_nil, or_false] at hd
        rcases hd with rfl | rfl | rfl | rfl | rfl <;> (first | omega | (change (_ : Nat) ≠ (_ : Nat); omega) | (change (_ : Nat) < (_ : Nat); omega) | (change (_ : Nat) ≤ (_ : Nat); omega))
      rw [upd_ne (Nat.ne_of_lt hlt)]
      exact (hf d hd).1
  done := by
    intro X hP hw hK hc i pins s σ H E I hf st hg
    subst hP hw hK
    obtain ⟨xs, ys, hqx, hqy, hend⟩ := hg
    obtain ⟨i1, rv1, p1, _⟩ := I.tuple hqx
    obtain ⟨i2, rv2, p2, _⟩ := I.list hqy
    have l1 := rv1.length
    have l2 := rv2.length
    have he : i1.toArray[i]? = none ∨ i2.toArray[i]? = none := by
      rcases hend with q | q
      · exact .inl (by simp; omega)
      · exact .inr (by simp; omega)
    exact next_fin (I.ok.hd hc) q1 q2 st p1 p2.isList he fun h' hk => ⟨rfl, I.turnedL (t' := s.toks) (ch := [n + 4, n + 2, n + 3, n, n + 1]) (fun d o hb q =>
      hk d o (fun q' => hb (by simp [q'])) (fun q' => hb (by simp [q'])) (fun q' => hb (by simp [q'])) (fun q' => hb (by simp [q'])) q) hf⟩
  self := fun A i s Q E st h => wpAny_pyIter_zip st.z h
section
variable {X : Cx}
def iZip2 (K : PySem.W.Frag) (ta : TA) : TI := fun σ H R => ta σ H fun vs H1 => ∃ a b xs ys, vs = [V.ref a, V.ref b] ∧ SqT K H1 a xs ∧ SqL K H1 b ys ∧ R (Itz2 K a b) H1
theorem pi_zip2 {e e2 : Expr} {ta : TA} {p pos tpos : Pos} {elts : List Expr} {kk : Nat} (hg : Gl X "zip") (hm : X.mg "zip" = none) (ha : PA X [e, e2] ta)
    (hs : starEach [e, e2] X.env = (false, eval e X.env) :: starEach [e2] X.env := by rfl) (hpl : (backTo pos (starEach [e2] X.env)).any (·.1) = false := by rfl) :
    PI X (.Tuple elts kk tpos) (.Call (.Name "zip" p) [e, e2] [] pos) (iZip2 X.K ta) := by
  refine ⟨fun pins s σ H R I h => Call_ (ld_blt I hg hm PyProof.Rows.boot_zip (PyProof.Rows.callWith_type1 (thn (ha.run pos pins s σ H _ I h) fun us s1 ⟨vs, H1, I1, r1, q1⟩ => ?_) hs hpl))⟩
  obtain ⟨a, b, xs, ys, rfl, h1, h2, q⟩ := q1
  cases r1 with
  | cons r1 rv =>
    cases rv with
    | cons r2 rv =>
      cases rv
      cases r1
      cases r2
      obtain ⟨i1, rv1, p1, _⟩ := I1.tuple h1
      obtain ⟨i2, rv2, p2, _⟩ := I1.list h2
      obtain ⟨o1, ho1, _⟩ := id p1
      obtain ⟨o2, ho2, _⟩ := id p2.isList
      refine call2 (show s1.heap.IsTuple a i1.toArray from p1) (show s1.heap.IsList b i2.toArray from p2.isList) fun h' st hk => ?_
      have T := turn2 (P := X.prog) (w := X.w) (K := X.K) (elts := elts) (kk := kk) (tpos := tpos) (Heap.lt_size ho1) (Heap.lt_size ho2)
      refine T.self _ 0 _ _ _ st ?_
      refine ⟨_, [s1.heap.objs.size + 4, s1.heap.objs.size + 2, s1.heap.objs.size + 3, s1.heap.objs.size, s1.heap.objs.size + 1], _, _, H1, rfl, I1.kept (t' := s1.toks) hk, T, st, (fun d hd => ?_), q⟩
      have hle : s1.heap.objs.size ≤ d := by
        simp only [List.mem_cons, List.not_mem_nil, or_false] at hd
        rcases hd with rfl | rfl | rfl | rfl | rfl <;> (first | omega | (change (_ : Nat) ≠ (_ : Nat); omega) | (change (_ : Nat) < (_ : Nat); omega) | (change (_ : Nat) ≤ (_ : Nat); omega))
      exact I1.fpOk hle (I1.hok.fresh hle)
end
end Z2

set_option maxHeartbeats 2000000
/-! a list, taken apart into targets -/
namespace UL
open PySem PyProof.Rows L2
section
variable {prog : Program} {w : World} {A : Around} {E : Value → Shared → Prop} {s : Shared}
theorem draw_list {it t : Addr} {items : Array Value} (hne : t ≠ it) : ∀ (n i : Nat) (s : Shared) (Q : List Value → Shared → Prop), s.heap.IsListIter it t i → s.heap.IsList t items → i + n ≤ items.size →
    (∀ h', h'.IsListIter it t (i + n) → Heap.SameBut it s.heap h' → Q ((items.toList.drop i).take n) { s with heap := h' }) → wpAny (model prog w) A (draw (.ref it) n) Q E s
  | 0, i, s, Q, hit, _, _, hQ => by
    show wpAny _ _ (pure []) Q E s
    exact wpAny_pure (by simpa using hQ s.heap hit (Heap.SameBut.refl ..))
  | n + 1, i, s, Q, hit, ht, hle, hQ => by
    have hlt : i < items.size := by omega
    show wpAny _ _ (pyNext (.ref it) >>= _) Q E s
    refine wpAny_bind (wpAny_pyNext_list_item hit ht (x := items[i]) (by simp [hlt]) fun h₁ hit₁ hs₁ => ?_)
    refine wpAny_bind (wpAny_holding (draw_list hne n (i + 1) _ _ hit₁ (ht.extBut hs₁.extBut hne) (by omega) fun h₂ hit₂ hs₂ => wpAny_pure ?_))
    have hd : items.toList.drop i = items[i] :: items.toList.drop (i + 1) := by simp [List.drop_eq_getElem_cons, hlt]
    have := hQ h₂ (by rw [show i + (n + 1) = i + 1 + n by omega]; exact hit₂) (hs₁.trans hs₂)
    rw [hd, List.take_succ_cons] at this
    exact this
theorem unpackItems_list {t : Addr} {items : Array Value} {Q : List Value → Shared → Prop} (hh : A.handled = none) (ht : s.heap.IsList t items)
    (hQ : ∀ h', Heap.ExtBut s.heap.objs.size s.heap h' → Q items.toList { s with heap := h' }) : wpAny (model prog w) A (unpackItems (.ref t) items.size none) Q E s := by
  have hlt : t ≠ s.heap.objs.size := by obtain ⟨o, ho, _⟩ := ht; exact Nat.ne_of_lt (Heap.lt_size ho)
  unfold unpackItems
  refine wpAny_bind ?_
  · unfold notIterableAtAll
    refine wpAny_bind (wpAny_specialOf ht.typeIs slot_list_iter.lookup ?_)
    refine wpAny_pure ?_
    simp only [Bool.false_eq_true, if_false]
    refine wpAny_bind (wpAny_holding (wpAny_pyIter_list ht ?_))
    refine wpAny_bind (wpAny_holding (draw_list hlt items.size 0 _ _ ⟨_, Heap.get?_push_size _ rfl, rfl, rfl⟩ (ht.push _) (by omega) fun h₁ hit₁ hs₁ => ?_))
    have hall : List.take items.size (List.drop 0 items.toList) = items.toList := by
      rw [List.drop_zero]; exact List.take_of_length_le (by simp)
    rw [hall]
    rw [if_neg (by simp)]
    have ht₁ : h₁.IsList t items := (ht.push _).extBut hs₁.extBut hlt
    refine wpAny_bind (wpAny_holding (wpAny_pyNext_list_end hh hit₁ ht₁ (by simp) fun h₂ he₂ => ?_))
    simp only [Option.isSome_none, Bool.false_eq_true, if_false]
    refine wpAny_pure (hQ h₂ fun b o hb e => he₂ b o hb (hs₁.extBut b o hb (Heap.get?_push_of_some _ e)))
theorem assign_Tuple_list {env : Env} {elts : List Expr} {x1} {pos : Pos} {t : Addr} {items : Array Value} {Q : Unit → Shared → Prop} (hh : A.handled = none) (ht : s.heap.IsList t items)
    (hn : (assignEach elts env).length = items.size) (hstar : (assignEach elts env).findIdx? (·.1) = none)
    (h : ∀ h', Heap.ExtBut s.heap.objs.size s.heap h' → wpAny (model prog w) A (assignInOrder ((assignEach elts env).map (·.2)) items.toList) Q E { s with heap := h' }) :
    wpAny (model prog w) A (assign (.Tuple elts x1 pos) env (.ref t)) Q E s := by
  rw [assign_Tuple]
  refine wpAny_bind (wpAny_standAt ?_)
  unfold unpack
  rw [hn, hstar]
  exact wpAny_bind (wpAny_holding (unpackItems_list hh ht h))
end
def gTupL (K : PySem.W.Frag) (n : Nat) (t : TGs) : TG := fun v σ H Q => ∃ a xs, v = .ref a ∧ SqL K H a xs ∧ xs.length = n ∧ t xs σ H Q
theorem pg_tupL {X : Cx} {es : List Expr} {k : Nat} {pos : Pos} {t : TGs} {n : Nat} (hc : X.calm = true) (h : PGs X es t)
    (hn : (assignEach es X.env).length = n) (hst : (assignEach es X.env).findIdx? (·.1) = none) : PG X (.Tuple es k pos) (gTupL X.K n t) := by
  refine ⟨fun pins s σ H v u Q I r hw => ?_⟩
  obtain ⟨a, xs, e1, hq, hl, hw⟩ := hw
  subst e1
  cases r
  obtain ⟨its, rv, ⟨o, m, ho, hcl, _, hd⟩, hz⟩ := I.list hq
  refine assign_Tuple_list (I.ok.hd hc) ⟨o, ho, hcl, m, hd⟩ (by simp [hn, ← hl, rv.length]) hst fun h' hx => ?_
  have I1 : Inv X pins σ H { s with heap := h' } := I.kept (t' := s.toks) fun b o e => hx b o (Nat.ne_of_lt (Heap.lt_size e)) e
  exact h.run pins _ σ H xs _ Q I1 (by simpa using rv) hw
end UL

set_option maxHeartbeats 4000000
namespace Ev
open PySem PySem.Spec PyProof.Rows L2 GenW

/-! ### a generator expression's own context -/
abbrev cloG (X : Cx) (scope : Scope) : List (Str × Addr) := cloFrom X.env.cells scope.names []
abbrev envG (X : Cx) (scope : Scope) (C : Addr) (code : Value) : Env := genEnv scope (cloG X scope) C code builtinsNs X.env
abbrev gx (X : Cx) (A : Around) (s : Shared) (H : Hp) (cenv : Env) (fp : List Addr) : Cx :=
  { X with A := A, s_0 := s, H_0 := H, env := cenv, outer := X.stack, stack := cenv :: X.stack, ex := fp, fn := fun _ => false, calm := true, pn := [], xe := fun _ _ => False }
structure GnOk (N : List Str) (sc scope : Scope) (own : List (Str × Nat)) : Prop where
  blk : BlkOk N sc scope own
  nc : ∀ y ∈ scope.names, y.2 ≠ .cell
  dot : scope.names.lookup (".0" : Str) = some NameKind.local
  co : scope.isCoroutine = false
theorem gnOk_by {N : List Str} {sc scope : Scope} {own : List (Str × Nat)} (h : gnC N sc scope own = true) : GnOk N sc scope own := by
  unfold gnC at h
  simp only [Bool.and_eq_true, List.all_eq_true, decide_eq_true_eq, Bool.not_eq_true'] at h
  exact ⟨blkOk_by h.1.1.1, h.1.1.2, h.1.2, h.2⟩

section
variable {X : Cx} {pins : List (Addr × Obj)} {σ : L2.St} {H : Hp} {s : Shared}
theorem gen_start {scope : Scope} {own : List (Str × Nat)} {fp : List Addr} {A : Around} {code : Value} {h' : Heap} {g' : Array GenState} {t' : Nat} {m : Str → Option Value} (I : Inv X pins σ H s) (ok : GnOk X.N X.env.scope scope own) (hN : X.N.Nodup)
    (hfp : ∀ b ∈ fp, FpOk X pins H b ∧ b < s.heap.objs.size) (hA : A.handled = none) (hfr : A.frames = some (envG X scope s.heap.objs.size code :: X.stack))
    (hn : h'.Ns s.heap.objs.size m) (hk : ∀ b o, s.heap.get? b = some o → h'.get? b = some o) (hg : AllBare g') :
    Inv (gx X A s H (envG X scope s.heap.objs.size code) fp) [] (wipe σ (own.map (·.2))) H { s with heap := h', gens := g', toks := t' } := by
  have hfree : ∀ y ∈ scope.names, y.2 = .free → ∃ c, X.env.cells.lookup y.1 = some c := fun y hy e => by
    rcases ok.blk.free y hy e with k | k
    · exact I.ok.has _ (.inl k)
    · exact I.ok.has _ (.inr k)
  have cm : ∀ {y c}, (y, c) ∈ cloG X scope → X.env.cells.lookup y = some c ∧ c < s.heap.objs.size := fun {y c} hm => by
    rcases cloFrom_mem hm with hm | ⟨h1, rfl⟩
    · cases hm
    · obtain ⟨c, hc⟩ := hfree _ h1 rfl
      rw [hc]
      obtain ⟨w, z⟩ := I.cell _ _ hc
      exact ⟨rfl, z.lt⟩
  have mem : ∀ {y c}, (cloG X scope).lookup y = some c → X.env.cells.lookup y = some c ∧ c < s.heap.objs.size := fun {y c} e => cm (PySem.mem_of_lookup e)
  have look : ∀ {y}, scope.names.lookup y = some .free → ∃ c, (cloG X scope).lookup y = some c ∧ X.env.cells.lookup y = some c := fun {y} hl => by
    have hy : (y, NameKind.free) ∈ scope.names := PySem.mem_of_lookup hl
    obtain ⟨c', e'⟩ := mem_lookup (cloFrom_has (cells := X.env.cells) (acc := []) hy)
    exact ⟨c', e', (mem e').1⟩
  have okB : (gx X A s H (envG X scope s.heap.objs.size code) fp).Ok := by
    refine ⟨I.ok.mod, ok.blk.kind, I.ok.glob, rfl, Nat.le_refl _, fun y z c e1 e2 => ?_, fun y hy => ?_, fun y c z e => ?_, fun _ => hA, hfr, .inr ⟨rfl, rfl⟩, fun b hb => ⟨?_, fun y c e z => ?_⟩, I.bs, Nat.le_trans I.ok.bsz I.sz, fun b o e hb => ?_, fun b hb z => ?_, I.stack, I.stkFree⟩
    · exact I.ok.inj y z c (mem e1).1 (mem e2).1
    · rcases hy with hy | hy
      · exact absurd rfl (ok.nc _ (PySem.mem_of_lookup (show scope.names.lookup y = some .cell from hy)))
      · obtain ⟨c, h1, _⟩ := look (show scope.names.lookup y = some .free from hy)
        exact ⟨c, h1⟩
    · cases z
    · exact Nat.ne_of_lt (hfp b hb).2
    · exact (hfp b hb).1.2.2.2.2.1 y c (mem e).1 z
    · rcases (hfp b hb).1.2.2.2.1 with z | z
      · exact I.ok.noex b o e z
      · exact absurd (Nat.lt_of_lt_of_le (Heap.lt_size e) (Nat.le_trans I.ok.bsz z)) (Nat.lt_irrefl _)
    · rcases List.mem_cons.mp (I.stkSub b z) with z | z
      · exact (hfp b hb).1.2.1 z
      · exact (hfp b hb).1.2.2.1 z
  refine ⟨okB, rfl, hg, Un.kept hk, ⟨m, hn, fun i y av e1 e2 e3 => ?_⟩, fun y c e => ?_, ?_, fun y c e => ?_, fun p hp => ?_, I.hok.kept hk, by rw [wipe_length]; exact I.len⟩
  · obtain ⟨e2, hne⟩ := wipe_some e2
    have hfr : scope.names.lookup y = some .free := by
      rcases (show Vis scope y from e3) with k | k | k
      · exfalso
        rcases ok.blk.own _ (PySem.mem_of_lookup k) (.inl rfl) with q | q
        · obtain ⟨p, hp, e⟩ := List.mem_map.mp q
          have hix := ok.blk.ix p hp
          have e : p.1 = y := e
          rw [e] at hix
          exact hne (List.mem_map.mpr ⟨p, hp, nodup_ix hN hix e1⟩)
        · exact q (List.mem_of_getElem? e1)
      · exact absurd rfl (ok.nc _ (PySem.mem_of_lookup k))
      · exact k
    obtain ⟨c, h1, h2⟩ := look hfr
    obtain ⟨mX, _, hl⟩ := I.loc
    have hv : Vis X.env.scope y := by
      rcases ok.blk.free _ (PySem.mem_of_lookup hfr) rfl with k | k
      · exact .inr (.inl k)
      · exact .inr (.inr k)
    obtain ⟨u, ru, lk⟩ := hl i y av e1 e2 hv
    refine ⟨u, ru, .inr ⟨.inr hfr, c, h1, ?_⟩⟩
    rcases lk with ⟨k, _⟩ | ⟨_, c', e', z⟩
    · have k : X.env.scope.names.lookup y = some .local := k
      rcases ok.blk.free _ (PySem.mem_of_lookup hfr) rfl with q | q
      · have q : X.env.scope.names.lookup y = some .cell := q
        rw [k] at q; cases q
      · have q : X.env.scope.names.lookup y = some .free := q
        rw [k] at q; cases q
    · rw [h2] at e'; cases e'
      obtain ⟨o, ho, hd⟩ := z
      exact ⟨o, hk _ _ ho, hd⟩
  · obtain ⟨v, o, ho, hd⟩ := I.cell y c (mem e).1
    exact ⟨v, o, hk _ _ ho, hd⟩
  · exact I.hok.fresh (Nat.le_refl _)
  · exact I.freeC y c (mem e).1
  · exact absurd (show p ∈ ([] : List (Addr × Obj)) ++ [] from hp) (by simp)
end
end Ev

set_option maxHeartbeats 4000000
namespace Ev
open PySem PySem.Spec PyProof.Rows L2 GenW

/-- a generator expression as a call's argument, as it is made -/
def GMk (X : Cx) (pins : List (Addr × Obj)) (σ : L2.St) (vs : List Nat) (elt tg iter : Expr) (ifs : List Expr) (scope : Scope) (pos : Pos) (R : It → Hp → Prop) (u : Value) (s : Shared) : Prop :=
  ∃ (a : Addr) (g : Nat) (go : Obj) (it : Addr) (fp : List Addr) (tn : Nat → Heap → Prop) (J : It) (s4 : Shared) (H4 : Hp) (code : Value),
    u = .ref a ∧ (∀ h : Heap, h.get? a = some go → h.IsGen a g) ∧ s.heap.get? a = some go ∧ (∀ v, go.data ≠ .cell v) ∧ Inv X pins σ H4 s4 ∧ Turn X.prog X.w X.K tg J fp it tn ∧ tn 0 s.heap ∧ (∀ b ∈ fp, FpOk X pins H4 b ∧ b < s4.heap.objs.size) ∧ R J H4 ∧
    s4.heap.objs.size < a ∧ s.gens[g]? = some (.fresh (.compStart (.GeneratorExp elt [⟨tg, iter, ifs, 0⟩] scope pos) 0 (.ref it) .none (envG X scope s4.heap.objs.size code))) ∧
    ∀ A : Around, A.handled = none → A.frames = some (envG X scope s4.heap.objs.size code :: X.stack) → Inv (gx X A s4 H4 (envG X scope s4.heap.objs.size code) fp) [(a, go)] (wipe σ vs) H4 s

section
variable {X : Cx} {pins : List (Addr × Obj)} {σ : L2.St} {H : Hp} {s : Shared}
/-- what is walked may be walked too when the def's code table has grown -/
def Grows (P : Addr) (R : It → Hp → Prop) : It → Hp → Prop := fun J H1 => ∃ ps : Array Value, H1 P = some (.tbl ps) ∧ TriplesOk ps.toList ∧ ∀ more : Array Value, TriplesOk (ps ++ more).toList → R J (upd H1 P (.tbl (ps ++ more)))
theorem gen_make {elt tg iter : Expr} {ifs : List Expr} {scope : Scope} {own : List (Str × Nat)} {gpos : Pos} {c P : Addr} {k : Nat} {R : It → Hp → Prop} {Q : Value → Shared → Prop}
    (hr : Room k X.A) (TB : GxR.TabB X.base X.mg c P) (hcode : X.env.code = .ref c) (ok : GnOk X.N X.env.scope scope own) (hN : X.N.Nodup) (hs : ∀ v, genFold iter X.env v = pure v)
    (I : Inv X pins σ H s) (h : WI X tg iter σ H (Grows P R)) (hQ : ∀ u s', GMk X pins σ (own.map (·.2)) elt tg iter ifs scope gpos R u s' → Q u s') :
    wpAny (model X.prog X.w) X.A (eval (.GeneratorExp elt [⟨tg, iter, ifs, 0⟩] scope gpos) X.env) Q X.xe s := by
  have hfree : ∀ y ∈ scope.names, y.2 = .free → ∃ c, X.env.cells.lookup y.1 = some c := fun y hy e => by
    rcases ok.blk.free y hy e with k | k
    · exact I.ok.has _ (.inl k)
    · exact I.ok.has _ (.inr k)
  refine wpAny_GeneratorExp_make ok.co (closure_ok hfree) ok.nc ok.dot ok.blk.kind (by have := hr.dp; omega) (thn (h pins s I) fun xv s1 h1 => thn h1 fun itv s2 h2 => ?_) hs
  obtain ⟨it, fp, tn, J, H2, rfl, I2, T, st2, f2, ps, hP, ht, hR⟩ := h2
  refine ⟨I2.nolimit, ?_⟩
  have hPs : s2.heap.get? P = some { cls := .none, data := .fields ps } := I2.hok P _ hP
  have cd : PySem.W.CodeHd s2.heap c P := TB.code.keeps fun b u e => I2.bk b u e
  have hPlt : P < s2.heap.objs.size := Heap.lt_size hPs
  have cont : ∀ (code : Value) (h3 : Heap) (tk : Nat) (ps' : Array Value), Heap.ExtBut P s2.heap h3 → s2.heap.objs.size ≤ h3.objs.size → h3.get? P = some { cls := .none, data := .fields ps' } → (∃ more, ps' = ps ++ more) → TriplesOk ps'.toList →
      wpAny (model X.prog X.w) X.A (builtinsFor X.env.globals X.env.builtins) (fun bi s₄ =>
        ∀ h', h'.Ns s₄.heap.objs.size (fun y => if y = ".0" then some (Value.ref it) else none) → Heap.SameBut s₄.heap.objs.size (s₄.heap.push { cls := .type "frame", data := .dict #[] }) h' →
          Q (.ref h'.objs.size) { s₄ with
            gens := s₄.gens.push (.fresh (.compStart (.GeneratorExp elt [⟨tg, iter, ifs, 0⟩] scope gpos) 0 (.ref it) .none (genEnv scope (cloG X scope) s₄.heap.objs.size code bi X.env))),
            toks := s₄.toks + 1 + 1 + 1,
            heap := h'.push { cls := .type "generator", data := .fields #[.int s₄.gens.size 0, .str "<genexpr>" (s₄.toks + 1), .str (X.env.qual ++ "<genexpr>") (s₄.toks + 1 + 1)] } }) X.xe { s2 with heap := h3, toks := tk } := by
    intro code h3 tk ps' hx hsz hP3 hmore ht3
    obtain ⟨more, rfl⟩ := hmore
    obtain ⟨bm, ob, e1, e2, e3, e4, e5, e6, e7, e8⟩ := TB.bm
    have keep3 : ∀ b u, b ≠ P → s2.heap.get? b = some u → h3.get? b = some u := fun b u hb e => hx b u hb e
    have I3 : Inv X pins σ (upd H2 P (.tbl (ps ++ more))) { s2 with heap := h3, toks := tk } := GxR.inv_tab (g' := s2.gens) (d' := s2.drawn) I2 hP keep3 hP3 I2.bare
    refine wpAny_builtinsFor (m := X.mg) (by rw [I2.ok.glob]; exact (I2.mod.glob.keeps I2.bk).extBut hx TB.gP) e1 e2 (keep3 _ _ e4 (I2.bk _ _ e5)) e6 e7 e8 ?_
    intro h' hn' hs'
    have hsz' : h'.objs.size = h3.objs.size + 1 := by rw [hs'.1, Heap.size_push]
    have keep' : ∀ b o, h3.get? b = some o → h'.get? b = some o := fun b o e => hs'.extBut b o (Nat.ne_of_lt (Heap.lt_size e)) (Heap.get?_push_of_some _ e)
    refine hQ _ _ ?_
    generalize hgo : ({ cls := .type "generator", data := .fields #[.int s2.gens.size 0, .str "<genexpr>" (tk + 1), .str (X.env.qual ++ "<genexpr>") (tk + 1 + 1)] } : Obj) = go
    have nfp : ∀ b ∈ fp, b ≠ P := fun b hb z => by
      have q := (f2 b hb).1
      rw [z, hP] at q; cases q
    have f3 : ∀ b ∈ fp, FpOk X pins (upd H2 P (.tbl (ps ++ more))) b ∧ b < h3.objs.size := fun b hb => by
      obtain ⟨o, e, _⟩ := T.obj _ _ st2 b hb
      refine ⟨⟨by rw [upd_ne (nfp b hb)]; exact (f2 b hb).1, (f2 b hb).2⟩, Nat.lt_of_lt_of_le (Heap.lt_size e) hsz⟩
    have ga : (h'.push go).get? h'.objs.size = some go := Heap.get?_push_size _ (by rw [← hgo]; rfl)
    have gd : ∀ v, go.data ≠ .cell v := fun v z => by rw [← hgo] at z; cases z
    refine ⟨h'.objs.size, s2.gens.size, go, it, fp, tn, J, { s2 with heap := h3, toks := tk }, upd H2 P (.tbl (ps ++ more)), code, rfl, fun h e => ⟨go, _, _, e, by rw [← hgo], by rw [← hgo], by rw [← hgo]⟩, ga, gd, I3, T, ?_, f3, hR more ht3, by show h3.objs.size < _; omega, Array.getElem?_push_size .., fun A hA hfr => ?_⟩
    · refine T.keep _ _ _ st2 fun b hb o e => Heap.get?_push_of_some _ (keep' b o (hx b o (nfp b hb) e))
    · have J1 := gen_start (t' := tk + 1 + 1 + 1) (g' := s2.gens.push (.fresh (.compStart (.GeneratorExp elt [⟨tg, iter, ifs, 0⟩] scope gpos) 0 (.ref it) .none (envG X scope h3.objs.size code)))) (m := fun y => if y = ".0" then some (Value.ref it) else none) (h' := h'.push go) I3 ok hN f3 hA hfr (hn'.push _) (fun b o e => Heap.get?_push_of_some _ (keep' b o e)) (I3.bare.push rfl)
      refine J1.pins_of fun p hp => ?_
      rw [List.mem_singleton.mp hp]
      have hle : h3.objs.size ≤ h'.objs.size := by omega
      refine ⟨ga, I3.hok.fresh hle, Nat.ne_of_gt (by show h3.objs.size < _; omega), fun z => ?_, gd⟩
      rcases List.mem_cons.mp (I3.stkSub _ z) with z | z
      · have q : h'.objs.size = X.env.locals := z
        have := I3.lt
        have this : X.env.locals < h3.objs.size := this
        rw [← q, hsz'] at this
        exact absurd (Nat.lt_of_succ_lt this) (Nat.lt_irrefl _)
      · exact I3.nofs hle z
  cases hf : codeAmong gpos ps.toList with
  | none =>
    refine wpAny_genexprCodeX hcode (cd.code hPs ht) (cd.tab hPs) hf fun c' h' tk hx hge hlt hco' _ htab' _ => ?_
    obtain ⟨o1, vs, f1, tf, fl, tg', inF, tx, tt, op, _, _, _, _, _, _, _, _, _, htr, _⟩ := hco'
    exact cont _ h' tk _ hx (Nat.le_trans hge (Nat.le_of_lt hlt)) htab'.2 ⟨_, rfl⟩ htr
  | some cv =>
    refine wpAny_genexprCode_hit hcode (cd.code hPs ht) hf ?_
    exact cont cv s2.heap s2.toks ps (Heap.ExtBut.refl _ _) (Nat.le_refl _) hPs ⟨#[], by simp⟩ ht
end
end Ev

set_option maxHeartbeats 4000000
namespace Ev
open PySem PySem.Spec PyProof.Rows L2 GenW

/-! ### while a generator sleeps -/
/-- the consumer's own list stands for what is out -/
def CAt (S : Option Addr) (C : List V → Obj → Prop) (ys : List V) (s : Shared) : Prop := ∀ b, S = some b → ∃ o, s.heap.get? b = some o ∧ (∀ v, o.data ≠ .cell v) ∧ C ys o
structure Slp (S : Option Addr) (C : List V → Obj → Prop) (ys : List V) (s s' : Shared) : Prop where
  os : s'.os = s.os
  bare : AllBare s'.gens
  keep : ∀ b o, S ≠ some b → s.heap.get? b = some o → s'.heap.get? b = some o
  own : CAt S C ys s'
/-- it stands as it stood -/
def SK (S : Option Addr) (s s' : Shared) : Prop := ∀ b o, S = some b → s.heap.get? b = some o → s'.heap.get? b = some o
/-- it is apart from all that the generator's frame knows -/
def SOk (X : Cx) (pins : List (Addr × Obj)) (H : Hp) (S : Option Addr) : Prop :=
  ∀ b, S = some b → H b = none ∧ X.s_0.heap.objs.size ≤ b ∧ b ≠ X.env.locals ∧ (∀ x c, X.env.cells.lookup x = some c → c ≠ b) ∧ (∀ p ∈ X.pn ++ pins, p.1 ≠ b) ∧ b ∉ X.fs ∧ b ∉ X.ex
section
variable {X : Cx} {pins : List (Addr × Obj)} {σ : L2.St} {H H' : Hp} {s s' : Shared} {S : Option Addr} {C : List V → Obj → Prop} {ys : List V}
theorem inv_slp (I : Inv X pins σ H s) (hS : SOk X pins H S) (z : Slp S C ys s s') : Inv X pins σ H s' := by
  have ne : ∀ b u, H b = some u → S ≠ some b := fun b u e q => by rw [(hS b q).1] at e; cases e
  refine I.call' (ch := S.toList) z.os ⟨fun b o e n hb hx => z.keep b o (fun q => hx (by rw [q]; simp)) e, fun b o e n hb hx => ⟨o.slots, z.keep b o (fun q => hx (by rw [q]; simp)) e⟩, fun _ _ _ n _ => n, fun b o e hx => ⟨o, z.keep b o (fun q => hx (by rw [q]; simp)) e⟩,
    fun _ _ e => e, fun _ _ _ e => e, fun b ps e => ⟨#[], by rw [e]; simp⟩⟩ (fun b u e => ?_) z.bare fun b hb => ?_
  · refine (I.hok b u e).stay (fun c v hc q => z.keep c v ?_ q) (fun _ q => q) fun _ _ q => q
    rcases hc with y | y
    · rw [y]; exact ne b u e
    · exact ne c _ y
  · have q : S = some b := by
      cases S with
      | none => simp at hb
      | some d => simp at hb; rw [hb]
    obtain ⟨_, h2, h3, h4, h5, _⟩ := hS b q
    exact ⟨.inr h2, h3, h4, h5⟩
/-- its list is pinned for a run -/
theorem inv_spin (I : Inv X pins σ H s) (hS : SOk X pins H S) (hC : CAt S C ys s) : Inv X (pins ++ pinsAt S.toList s.heap) σ H s := by
  refine I.pins_of fun p hp => ?_
  rcases List.mem_append.mp hp with z | z
  · exact I.pin p (List.mem_append_right _ z)
  · obtain ⟨hb, e⟩ := of_pinsAt z
    have q : S = some p.1 := by
      cases S with
      | none => simp at hb
      | some d => simp at hb; rw [hb]
    obtain ⟨h1, _, h3, _, _, h6, _⟩ := hS _ q
    obtain ⟨o, e', d, _⟩ := hC _ q
    rw [e] at e'; cases e'
    exact ⟨e, h1, h3, h6, d⟩
theorem spin_at {pins' : List (Addr × Obj)} {s1 : Shared} {σ1 : L2.St} {H1 : Hp} (I : Inv X pins' σ1 H1 s1) (hp : ∀ p ∈ pinsAt S.toList s.heap, p ∈ pins') (hC : CAt S C ys s) : CAt S C ys s1 ∧ (∀ b, S = some b → H1 b = none) ∧ SK S s s1 := by
  refine ⟨?_, ?_, fun b o q e => (I.pin (b, o) (List.mem_append_right _ (hp _ (mem_pinsAt (by rw [q]; simp) e)))).1⟩
  · intro b q
    obtain ⟨o, e, d, c⟩ := hC b q
    have z := I.pin (b, o) (List.mem_append_right _ (hp _ (mem_pinsAt (by rw [q]; simp) e)))
    exact ⟨o, z.1, d, c⟩
  · intro b q
    obtain ⟨o, e, d, c⟩ := hC b q
    exact (I.pin (b, o) (List.mem_append_right _ (hp _ (mem_pinsAt (by rw [q]; simp) e)))).2.1
end

/-! ### the generator's loop -/
def GYp (Xg : Cx) (ip : List (Addr × Obj)) (S : Option Addr) (C : List V → Obj → Prop) (Go : List V → V → Prop) (La : List V → V → Hp → Prop) : Protocol := fun n s₀ v s1 kap =>
  ∃ ys y σ4 H4, RelV y v ∧ Inv Xg ip σ4 H4 s1 ∧ CAt S C ys s1 ∧ (∀ b, S = some b → H4 b = none) ∧ SK S s₀ s1 ∧ ((Go ys y ∧ ∀ s', Slp S C (ys ++ [y]) s1 s' → kap (.send .none) s') ∨ La ys y H4)
def GFp (Xg : Cx) (ip : List (Addr × Obj)) (S : Option Addr) (C : List V → Obj → Prop) (Fin : List V → Hp → Prop) : Nat → Shared → Shared → Prop := fun n s₀ s1 => ∃ ys σ' H', Inv Xg ip σ' H' s1 ∧ CAt S C ys s1 ∧ (∀ b, S = some b → H' b = none) ∧ SK S s₀ s1 ∧ Fin ys H'
def GRp (Xg : Cx) (ip : List (Addr × Obj)) (S : Option Addr) (C : List V → Obj → Prop) (Fin : List V → Hp → Prop) : GenEnd := fun n s₀ r s1 => r = .ok .next ∧ GFp Xg ip S C Fin n s₀ s1
/-- what the generator's turns do -/
def GTurn (J : It) (g : TG) (tt : TT) (te : TE) (ws : L2.St) (vs : List Nat) (Go : List V → V → Prop) (La : List V → V → Hp → Prop) (Fin : List V → Hp → Prop) (W : List V → Nat → Nat → Nat → Hp → Prop) : Prop :=
  ∀ ys n i m H, W ys n i m H → (J.stop i H ∧ Fin ys H) ∨ (J.go i H ∧ ∀ x H', J.yld i H x H' → g x ws H' fun σ2 H2 => wipe σ2 vs = ws ∧ tt σ2 H2 fun b H3 =>
    if b = true then te σ2 H3 fun y H4 => ∃ n', n = n' + 1 ∧ ((Go ys y ∧ ∃ m', W (ys ++ [y]) n' (i + 1) m' H4) ∨ La ys y H4) else ∃ m', m' < m ∧ W ys n (i + 1) m' H3)

section
variable {Xg : Cx} {ip : List (Addr × Obj)} {S : Option Addr} {C : List V → Obj → Prop} {Go : List V → V → Prop} {La : List V → V → Hp → Prop} {Fin : List V → Hp → Prop} {W : List V → Nat → Nat → Nat → Hp → Prop}
theorem seg_gl {A0 : Around} {elt tg iter : Expr} {ifs : List Expr} {scope : Scope} {pos : Pos} {it : Addr} {fp : List Addr} {tn : Nat → Heap → Prop} {J : It} {g : TG} {tt : TT} {te : TE} {σ : L2.St} {vs : List Nat}
    (hA : A0.over (.compLoop (.GeneratorExp elt [⟨tg, iter, ifs, 0⟩] scope pos) 0 (.ref it) .none Xg.env) [] = Xg.A) (hx : Xg.xe = fun _ _ => False) (hc : Xg.calm = true) (hpn : Xg.pn = []) (hex : Xg.ex = fp) (hco : Xg.env.scope.isCoroutine = false) (hgd : Xg.A.guards = some [])
    (T : Turn Xg.prog Xg.w Xg.K tg J fp it tn) (hip : ∀ b ∈ fp, ∀ p ∈ ip, p.1 ≠ b) (pg : PG Xg tg g) (pt : PTs Xg ifs tt) (pe : PE Xg elt te) (turn : GTurn J g tt te (wipe σ vs) vs Go La Fin W)
    (hS0 : ∀ H, (∀ b, S = some b → H b = none) → SOk Xg ip H S) :
    ∀ (n m : Nat) (ys : List V) (i : Nat) (H : Hp) (s₀ s : Shared), Inv Xg ip (wipe σ vs) H s → tn i s.heap → (∀ b ∈ fp, H b = none) → CAt S C ys s → (∀ b, S = some b → H b = none) → SK S s₀ s → W ys n i m H →
      Seg (model Xg.prog Xg.w) A0 (GRp Xg ip S C Fin) (GYp Xg ip S C Go La) n s₀ (.compLoop (.GeneratorExp elt [⟨tg, iter, ifs, 0⟩] scope pos) 0 (.ref it) .none Xg.env)
        ((model Xg.prog Xg.w).den (.compLoop (.GeneratorExp elt [⟨tg, iter, ifs, 0⟩] scope pos) 0 (.ref it) .none Xg.env)) [] s := by
  intro n
  induction n using Nat.strongRecOn with
  | ind n ihn =>
  intro m
  induction m using Nat.strongRecOn with
  | ind m ihm =>
  intro ys i H s₀ s I st nfp hC hSn hsk w
  have noxe : ∀ {e : Value} {s' : Shared} {p : Prop}, Xg.xe e s' → p := fun {e s' p} h => by rw [hx] at h; exact False.elim h
  have stat : ∀ {pins' : List (Addr × Obj)} {σ' : L2.St} {H' : Hp} {s' : Shared}, Inv Xg pins' σ' H' s' → (∀ b ∈ fp, H' b = none) → (∀ b ∈ fp, ∀ p ∈ pins', p.1 ≠ b) → ∀ b ∈ fp, FpOk Xg pins' H' b := fun {pins' σ' H' s'} I' hn hp b hb => by
    have hb' : b ∈ Xg.ex := by rw [hex]; exact hb
    exact ⟨hn b hb, (I'.ok.exf b hb').1, I'.ok.exfs b hb', .inl hb', fun x c e => (I'.ok.exf b hb').2 x c e, fun p hp' => by rw [hpn] at hp'; exact hp b hb p hp'⟩
  have hSok := hS0 H hSn
  have I0 : Inv Xg (ip ++ pinsAt S.toList s.heap) (wipe σ vs) H s := inv_spin I hSok hC
  have hpp : ∀ b ∈ fp, ∀ p ∈ ip ++ pinsAt S.toList s.heap, p.1 ≠ b := fun b hb p hp => by
    rcases List.mem_append.mp hp with z | z
    · exact hip b hb p z
    · intro e
      obtain ⟨hb1, _⟩ := of_pinsAt z
      have q : S = some p.1 := by
        cases S with
        | none => simp at hb1
        | some d => simp at hb1; rw [hb1]
      have := (hSok _ q).2.2.2.2.2.2
      rw [hex, e] at this
      exact this hb
  have spin : ∀ {pl : List (Addr × Obj)} {σ' : L2.St} {H' : Hp} {s' : Shared}, Inv Xg ((ip ++ pinsAt S.toList s.heap) ++ pl) σ' H' s' → CAt S C ys s' ∧ (∀ b, S = some b → H' b = none) ∧ SK S s s' := fun {pl σ' H' s'} I' =>
    spin_at I' (fun p hp => List.mem_append_left _ (List.mem_append_right _ hp)) hC
  show Seg _ A0 _ _ _ s₀ _ ((compTurn (.GeneratorExp elt [⟨tg, iter, ifs, 0⟩] scope pos) 0 (.ref it) .none Xg.env).onRaise (leaving Xg.env)) [] s
  rw [compTurn_gen, Sem.onRaise_eq_wrap]
  refine seg_bind_wrap (wpAny_standAt ?_)
  rcases turn ys n i m H w with ⟨stop, qq⟩ | ⟨go, step⟩
  · refine seg_bind_wrap ?_
    rw [hA]
    have td := T.done Xg rfl rfl rfl hc i _ s _ H (fun _ _ => False) I0 (stat I0 nfp hpp) st stop
    refine wpAny_mono td (fun r s6 ⟨hr, I6⟩ => ?_) fun _ _ z => False.elim z
    subst hr
    obtain ⟨q1, q2, q3⟩ := spin (pl := []) (by rw [List.append_nil]; exact I6)
    exact seg_end (.ok .next) ⟨rfl, ys, _, H, I6.unpinned, q1, q2, fun b o e h => q3 b o e (hsk b o e h), qq⟩
  · refine seg_bind_wrap ?_
    rw [hA]
    have ti := T.item Xg rfl rfl rfl hc i _ s _ H (fun _ _ => False) I0 (stat I0 nfp hpp) st go
    refine wpAny_mono ti (fun r s6 ⟨u, hr, h6⟩ => ?_) fun _ _ z => False.elim z
    subst hr
    refine seg_bind_wrap ?_
    rw [hA]
    refine wpAny_mono h6 (fun _ s7 ⟨x, H7, I7, r7, y7, st7, n7⟩ => ?_) fun _ _ z => False.elim z
    have I7' := I7.pinned (stat I7 n7 hpp) (T.obj _ _ st7)
    refine seg_bind_wrap ?_
    rw [hA]
    refine wpAny_mono (pg.run _ s7 _ H7 x u _ I7' r7 (step x H7 y7)) (fun _ s8 ⟨σ8, H8, I8, hw8, q8⟩ => ?_) fun _ _ z => noxe z
    refine seg_bind_wrap ?_
    rw [hA]
    refine wpAny_mono (pt.run _ s8 σ8 H8 _ I8 q8) (fun b s9 ⟨H9, I9, q9⟩ => ?_) fun _ _ z => noxe z
    -- the turn's end
    have fin : ∀ {s' : Shared} {H' : Hp}, Inv Xg ((ip ++ pinsAt S.toList s.heap) ++ pinsAt fp s7.heap) σ8 H' s' → Inv Xg ip (wipe σ vs) H' s' ∧ tn (i + 1) s'.heap ∧ (∀ b ∈ fp, H' b = none) := fun {s' H'} I' => by
      have pin' : ∀ b ∈ fp, ∀ o, s7.heap.get? b = some o → s'.heap.get? b = some o ∧ H' b = none := fun b hb o e =>
        let z := I'.pin (b, o) (List.mem_append_right _ (List.mem_append_right _ (mem_pinsAt hb e)))
        ⟨z.1, z.2.1⟩
      have hl : (wipe σ vs).length = σ8.length := by rw [← hw8, wipe_length]
      refine ⟨((I'.unpinned).unpinned).weak hl (fun j v e => ?_), T.keep _ _ _ st7 fun b hb o e => (pin' b hb o e).1, fun b hb => ?_⟩
      · rw [← hw8] at e
        exact (wipe_some e).1
      · obtain ⟨o, e, _⟩ := T.obj _ _ st7 b hb
        exact (pin' b hb o e).2
    cases b with
    | false =>
      simp only [Bool.false_eq_true, if_false] at q9 ⊢
      obtain ⟨m', hm, w'⟩ := q9
      obtain ⟨f1, f2, f3⟩ := fin I9
      obtain ⟨c1, c2, c3⟩ := spin I9
      exact seg_again rfl (ihm m' hm ys (i + 1) H9 s₀ s9 f1 f2 f3 c1 c2 (fun b o e h => c3 b o e (hsk b o e h)) w')
    | true =>
      simp only [if_true] at q9 ⊢
      have hy : ∀ v, yieldOut Xg.env v = yieldValue v := fun v => by simp only [yieldOut, hco, Bool.false_eq_true, if_false]
      simp only [hy]
      rw [Sem.bind_eq_wrap', Sem.bind_eq_wrap', Sem.wrap_wrap, Sem.wrap_wrap]
      refine seg_wrap ?_
      rw [hA]
      refine wpAny_mono (pe.run _ s9 σ8 H9 _ I9 q9) (fun z s10 ⟨yv, H10, I10, r10, n', hn', qq⟩ => ?_) fun _ _ z => noxe z
      subst hn'
      obtain ⟨f1, f2, f3⟩ := fin I10
      obtain ⟨c1, c2, c3⟩ := spin I10
      refine seg_at (seg_yield rfl rfl rfl ⟨ys, yv, _, H10, r10, f1, c1, c2, fun b o e h => c3 b o e (hsk b o e h), ?_⟩)
      rcases qq with ⟨hgo, m', w'⟩ | hla
      · refine .inl ⟨hgo, fun s' z => ?_⟩
        have I11 := inv_slp f1 (hS0 H10 c2) z
        refine seg_again rfl (ihn n' (Nat.lt_succ_self _) m' (ys ++ [yv]) (i + 1) H10 s' s' I11 (T.keep _ _ _ f2 fun b hb o e => z.keep b o (fun q => ?_) e) f3 z.own c2 (fun _ _ _ h => h) w')
        have := (hS0 H10 c2 b q).2.2.2.2.2.2
        rw [hex] at this
        exact this hb
      · exact .inr hla
end
end Ev

set_option maxHeartbeats 4000000
namespace Ev
open PySem PySem.Spec PyProof.Rows L2 GenW

section
variable {Xg : Cx} {ip : List (Addr × Obj)} {S : Option Addr} {C : List V → Obj → Prop} {Go : List V → V → Prop} {La : List V → V → Hp → Prop} {Fin : List V → Hp → Prop} {W : List V → Nat → Nat → Nat → Hp → Prop}
theorem seg_gs {A0 : Around} {R : GenEnd} {Y : Protocol} {n : Nat} {s₀ s : Shared} {elt tg iter : Expr} {ifs : List Expr} {scope : Scope} {pos : Pos} {it : Addr} {fp : List Addr} {tn : Nat → Heap → Prop} {J : It} (T : Turn Xg.prog Xg.w Xg.K tg J fp it tn) (st : tn 0 s.heap)
    (loop : Seg (model Xg.prog Xg.w) A0 R Y n s₀ (.compLoop (.GeneratorExp elt [⟨tg, iter, ifs, 0⟩] scope pos) 0 (.ref it) .none Xg.env)
        ((model Xg.prog Xg.w).den (.compLoop (.GeneratorExp elt [⟨tg, iter, ifs, 0⟩] scope pos) 0 (.ref it) .none Xg.env)) [] s) :
    Seg (model Xg.prog Xg.w) A0 R Y n s₀ (.compStart (.GeneratorExp elt [⟨tg, iter, ifs, 0⟩] scope pos) 0 (.ref it) .none Xg.env)
        ((model Xg.prog Xg.w).den (.compStart (.GeneratorExp elt [⟨tg, iter, ifs, 0⟩] scope pos) 0 (.ref it) .none Xg.env)) [] s := by
  show Seg _ A0 _ _ _ s₀ _ ((compStart (.GeneratorExp elt [⟨tg, iter, ifs, 0⟩] scope pos) 0 (.ref it) .none Xg.env).onRaise (leaving Xg.env)) [] s
  unfold compStart
  rw [Sem.onRaise_eq_wrap]
  show Seg _ A0 _ _ _ s₀ _ ((ask >>= _).wrap _ _ _ _) [] s
  refine seg_bind_wrap (wpAny_askSetting ?_)
  split
  · exact seg_again rfl loop
  · first
      | exact seg_bind_wrap (wpAny_rule (seg_bind_wrap (wpAny_standAt (seg_bind_wrap (T.self _ 0 s _ _ st (seg_again rfl loop))))))
      | (refine seg_bind_wrap (wpAny_rule ?_); show Seg _ A0 _ _ _ s₀ _ ((standAt iter.pos >>= _).wrap _ _ _ _) [] s; exact seg_bind_wrap (wpAny_standAt (seg_bind_wrap (T.self _ 0 s _ _ st (seg_again rfl loop)))))
/-- asleep, n items at most still to come -/
def GAt (Xg : Cx) (ip : List (Addr × Obj)) (S : Option Addr) (C : List V → Obj → Prop) (Go : List V → V → Prop) (La : List V → V → Hp → Prop) (Fin : List V → Hp → Prop) (A : Around) (g : Nat) (n : Nat) (s : Shared) : Prop :=
  ∃ gs, s.gens[g]? = some gs ∧ gs.Goes (model Xg.prog Xg.w) A.in1 (GRp Xg ip S C Fin) (GYp Xg ip S C Go La) n (.send .none) (s.setGen g .running)
theorem inv_gens {X : Cx} {pins : List (Addr × Obj)} {σ : L2.St} {H : Hp} {s s' : Shared} (I : Inv X pins σ H s) (ho : s'.os = s.os) (hk : ∀ b o, s.heap.get? b = some o → s'.heap.get? b = some o) (hg : AllBare s'.gens) : Inv X pins σ H s' :=
  I.call' (ch := []) ho (Un.kept hk) (I.hok.kept hk) hg fun b hb => absurd hb (by simp)
theorem gen_next {A : Around} {a : Addr} {g n : Nat} {go : Obj} {s : Shared} {E : Value → Shared → Prop} (hh : A.handled = none) (hroom : A.depth < recursionLimit) (hgo : ∀ h : Heap, h.get? a = some go → h.IsGen a g) (hip : ip = [(a, go)])
    (ha : s.heap.get? a = some go) (hl : s.heap.NoLimit) (h : GAt Xg ip S C Go La Fin A g n s) :
    wpAny (model Xg.prog Xg.w) A (pyNext (.ref a)) (fun r s' => match r with
      | none => ∃ ys σ' H', Inv Xg ip σ' H' s' ∧ CAt S C ys s' ∧ SK S s s' ∧ Fin ys H'
      | some v => ∃ ys y σ4 H4, RelV y v ∧ Inv Xg ip σ4 H4 s' ∧ s'.heap.get? a = some go ∧ s'.heap.NoLimit ∧ CAt S C ys s' ∧ SK S s s' ∧
          ((Go ys y ∧ ∀ s'', Slp S C (ys ++ [y]) s' s'' → s''.gens = s'.gens → ∃ n', n = n' + 1 ∧ GAt Xg ip S C Go La Fin A g n' s'') ∨ La ys y H4)) E s := by
  obtain ⟨gs, hgs, hg⟩ := h
  have hgl : g < s.gens.size := (Array.getElem?_eq_some_iff.mp hgs).1
  refine wpAny_gsz (n := g + 1) hgl (wpAny_pyNext_genexpQ (P := GFp Xg ip S C Fin) hh hl hroom (hgo _ ha) hgs hg (fun v s₁ gs' hb hv hsz => ?_) (fun s₁ hp h' hk _ => ?_))
  · obtain ⟨ys, y, σ4, H4, r, I, c1, c2, c3, q⟩ := hv
    have hsz1 : g < s₁.gens.size := by
      have q : (s₁.setGen g gs').gens.size = s₁.gens.size := setGen_size _ _ _
      have hsz' : g + 1 ≤ (s₁.setGen g gs').gens.size := hsz
      omega
    have hb2 : AllBare (s₁.setGen g gs').gens := allBare_setGen I.bare hb
    have I' : Inv Xg ip σ4 H4 (s₁.setGen g gs') := inv_gens I rfl (fun _ _ e => e) hb2
    refine ⟨ys, y, σ4, H4, r, I', (I'.pin (a, go) (List.mem_append_right _ (by rw [hip]; simp))).1, I'.nolimit, c1, c3, ?_⟩
    rcases q with ⟨hgo', kap⟩ | hla
    · refine .inl ⟨hgo', ?_⟩
      cases n with
      | zero => exact fun s'' z hz => (kap s'' ⟨z.os, z.bare, z.keep, z.own⟩).elim
      | succ m =>
        refine fun s'' z hz => ⟨m, rfl, gs', ?_, kap _ ⟨z.os, allBare_setGen z.bare rfl, z.keep, z.own⟩⟩
        rw [hz]
        exact setGen_at hsz1
    · exact .inr hla
  · obtain ⟨ys, σ', H', I, c1, c2, c3, q⟩ := hp
    refine ⟨ys, σ', H', inv_gens I rfl hk (allBare_setGen I.bare rfl), fun b e => ?_, fun b o e h => hk _ _ (c3 b o e h), q⟩
    obtain ⟨o, h1, h2⟩ := c1 b e
    exact ⟨o, hk _ _ h1, h2⟩
/-- all(..): the loop -/
theorem all_loop {A : Around} {a : Addr} {g : Nat} {go : Obj} {R : Result → Shared → Prop} (hh : A.handled = none) (hroom : A.depth < recursionLimit) (hgo : ∀ h : Heap, h.get? a = some go → h.IsGen a g) (hip : ip = [(a, go)])
    (h1 : ∀ ys y, Go ys y → y = .bl true) (h2 : ∀ ys y H σ' s', La ys y H → Inv Xg ip σ' H s' → y = .bl false ∧ R (.ok (.ret (.bool false))) s') (h3 : ∀ ys H σ' s', Fin ys H → Inv Xg ip σ' H s' → R (.ok (.ret (.bool true))) s') :
    ∀ (n : Nat) (s : Shared), s.heap.get? a = some go → s.heap.NoLimit → GAt Xg ip none C Go La Fin A.in1 g n s → codeAny (model Xg.prog Xg.w) A (.builtin "all.loop" ⟨[.ref a], []⟩) R s := by
  intro n
  induction n using Nat.strongRecOn with
  | ind n ih =>
  intro s ha hl hg
  refine codeAny_builtin F.entry_all_loop ?_
  rw [Around.under_plainId F.plain_all_loop _]
  show wpAny _ A.in1 (pyNext (.ref a) >>= _) _ _ s
  refine wpAny_bind (wpAny_mono (gen_next (E := fun _ _ => False) (A := A.in1) hh hroom hgo hip ha hl hg) (fun r s' hr => ?_) fun _ _ z => False.elim z)
  cases r with
  | none =>
    obtain ⟨ys, σ', H', I, _, _, q⟩ := hr
    exact wpAny_bind (wpAny_rule (wpAny_pure (h3 ys H' σ' s' q I)))
  | some v =>
    obtain ⟨ys, y, σ4, H4, ry, I, ha', hl', _, _, q⟩ := hr
    rcases q with ⟨hgo', nx⟩ | hla
    · have := h1 ys y hgo'
      subst this
      obtain rfl : v = Value.bool true := ry
      refine wpAny_bind (wpAny_holding (wpAny_truthy_bool ?_))
      refine wpAny_bind (wpAny_letGo ?_)
      simp only [if_true]
      obtain ⟨n', hn, hg'⟩ := nx s' ⟨rfl, I.bare, fun _ _ _ e => e, fun b e => by cases e⟩ rfl
      exact wpAny_pure ⟨plainId_quiet F.plain_all_loop _, ih n' (by omega) s' ha' hl' hg'⟩
    · obtain ⟨rfl, hR⟩ := h2 ys y H4 σ4 s' hla I
      obtain rfl : v = Value.bool false := ry
      refine wpAny_bind (wpAny_holding (wpAny_truthy_bool ?_))
      refine wpAny_bind (wpAny_letGo ?_)
      simp only [Bool.false_eq_true, if_false]
      exact wpAny_bind (wpAny_rule (wpAny_pure hR))
theorem any_loop {A : Around} {a : Addr} {g : Nat} {go : Obj} {R : Result → Shared → Prop} (hh : A.handled = none) (hroom : A.depth < recursionLimit) (hgo : ∀ h : Heap, h.get? a = some go → h.IsGen a g) (hip : ip = [(a, go)])
    (h1 : ∀ ys y, Go ys y → y = .bl false) (h2 : ∀ ys y H σ' s', La ys y H → Inv Xg ip σ' H s' → y = .bl true ∧ R (.ok (.ret (.bool true))) s') (h3 : ∀ ys H σ' s', Fin ys H → Inv Xg ip σ' H s' → R (.ok (.ret (.bool false))) s') :
    ∀ (n : Nat) (s : Shared), s.heap.get? a = some go → s.heap.NoLimit → GAt Xg ip none C Go La Fin A.in1 g n s → codeAny (model Xg.prog Xg.w) A (.builtin "any.loop" ⟨[.ref a], []⟩) R s := by
  intro n
  induction n using Nat.strongRecOn with
  | ind n ih =>
  intro s ha hl hg
  refine codeAny_builtin F.entry_any_loop ?_
  rw [Around.under_plainId F.plain_any_loop _]
  show wpAny _ A.in1 (pyNext (.ref a) >>= _) _ _ s
  refine wpAny_bind (wpAny_mono (gen_next (E := fun _ _ => False) (A := A.in1) hh hroom hgo hip ha hl hg) (fun r s' hr => ?_) fun _ _ z => False.elim z)
  cases r with
  | none =>
    obtain ⟨ys, σ', H', I, _, _, q⟩ := hr
    exact wpAny_bind (wpAny_rule (wpAny_pure (h3 ys H' σ' s' q I)))
  | some v =>
    obtain ⟨ys, y, σ4, H4, ry, I, ha', hl', _, _, q⟩ := hr
    rcases q with ⟨hgo', nx⟩ | hla
    · have := h1 ys y hgo'
      subst this
      obtain rfl : v = Value.bool false := ry
      refine wpAny_bind (wpAny_holding (wpAny_truthy_bool ?_))
      refine wpAny_bind (wpAny_letGo ?_)
      simp only [Bool.false_eq_true, if_false]
      obtain ⟨n', hn, hg'⟩ := nx s' ⟨rfl, I.bare, fun _ _ _ e => e, fun b e => by cases e⟩ rfl
      exact wpAny_pure ⟨plainId_quiet F.plain_any_loop _, ih n' (by omega) s' ha' hl' hg'⟩
    · obtain ⟨rfl, hR⟩ := h2 ys y H4 σ4 s' hla I
      obtain rfl : v = Value.bool true := ry
      refine wpAny_bind (wpAny_holding (wpAny_truthy_bool ?_))
      refine wpAny_bind (wpAny_letGo ?_)
      simp only [if_true]
      exact wpAny_bind (wpAny_rule (wpAny_pure hR))
end
end Ev

set_option maxHeartbeats 4000000
namespace Ev
open PySem PySem.Spec PyProof.Rows L2 GenW

theorem over_gen {A : Around} {elt : Expr} {gs : List Comprehension} {scope : Scope} {pos : Pos} {it acc : Value} {env : Env} : A.over (.compLoop (.GeneratorExp elt gs scope pos) 0 it acc env) [] = A.deeper env := by
  first
    | rfl
    | (obtain ⟨hd, d, fr, gs, u⟩ := A; simp [Around.over, Around.deeper, marksOver, frameCount, unitsOf, envsOf, guardsOf, pushEnvs, pushGuards, Code.envs, Code.env?, Code.isFrame, Code.guards, Code.isGuard, Code.weight, Code.frames, Code.isCreation, Code.isCaller, Code.cUnits])
/-- what is walked, and what comes of it -/
def GenR (g : TG) (tt : TT) (te : TE) (σ : L2.St) (vs : List Nat) (Go : List V → V → Prop) (La : List V → V → Hp → Prop) (Fin : List V → Hp → Prop) : It → Hp → Prop := fun J H => ∃ (W : List V → Nat → Nat → Nat → Hp → Prop) (N m : Nat), W [] N 0 m H ∧ GTurn J g tt te (wipe σ vs) vs Go La Fin W
section
variable {X : Cx} {pins : List (Addr × Obj)} {σ : L2.St} {H : Hp} {s : Shared} {k : Nat} {elt tg iter : Expr} {ifs : List Expr} {scope : Scope} {own : List (Str × Nat)} {gpos : Pos} {g : TG} {tt : TT} {te : TE} {vs : List Nat} {Go : List V → V → Prop} {La : List V → V → Hp → Prop} {Fin : List V → Hp → Prop} {u : Value}
/-- the judgements of its parts hold in its frame -/
structure GParts (X : Cx) (k : Nat) (elt tg : Expr) (ifs : List Expr) (scope : Scope) (g : TG) (tt : TT) (te : TE) : Prop where
  pg : ∀ (A : Around) (s : Shared) (H : Hp) (C : Addr) (code : Value) (fp : List Addr), Room k A → A.guards = some [] → PG (gx X A s H (envG X scope C code) fp) tg g
  pt : ∀ (A : Around) (s : Shared) (H : Hp) (C : Addr) (code : Value) (fp : List Addr), Room k A → A.guards = some [] → PTs (gx X A s H (envG X scope C code) fp) ifs tt
  pe : ∀ (A : Around) (s : Shared) (H : Hp) (C : Addr) (code : Value) (fp : List Addr), Room k A → A.guards = some [] → PE (gx X A s H (envG X scope C code) fp) elt te
/-- a generator that may be woken -/
def Awake (X : Cx) (pins : List (Addr × Obj)) (σ : L2.St) (A : Around) (Go : List V → V → Prop) (La : List V → V → Hp → Prop) (Fin : List V → Hp → Prop) (u : Value) (s : Shared) : Prop :=
  ∃ (a : Addr) (n : Nat) (go : Obj) (Xg : Cx) (N : Nat), u = .ref a ∧ (∀ h : Heap, h.get? a = some go → h.IsGen a n) ∧ s.heap.get? a = some go ∧ s.heap.NoLimit ∧ AllBare s.gens ∧ Xg.prog = X.prog ∧ Xg.w = X.w ∧ Xg.K = X.K ∧
    (∀ σ' H' s', Inv Xg [(a, go)] σ' H' s' → Inv X pins σ H' s') ∧
    ∀ (S : Option Addr) (C : List V → Obj → Prop) (s' : Shared), (∀ b, S = some b → s.heap.objs.size ≤ b) → s'.gens = s.gens → s'.os = s.os → (∀ b o, S ≠ some b → s.heap.get? b = some o → s'.heap.get? b = some o) → CAt S C [] s' →
      GAt Xg [(a, go)] S C Go La Fin A n N s'
theorem gmk_wake {A : Around} (hr : Room (k + 2) A) (hfr : A.frames = some X.stack) (hgd : A.guards = some []) (hco : scope.isCoroutine = false) (P : GParts X k elt tg ifs scope g tt te) (M : GMk X pins σ vs elt tg iter ifs scope gpos (GenR g tt te σ vs Go La Fin) u s) :
    Awake X pins σ A Go La Fin u s := by
  obtain ⟨a, n, go, it, fp, tn, J, s4, H4, code, rfl, hgo, ha, hnc, I4, T, st, hfp, ⟨W, N, m, w0, turn⟩, hlt, hgs, J5⟩ := M
  obtain ⟨cenv, hcenv⟩ : ∃ cenv, cenv = envG X scope s4.heap.objs.size code := ⟨_, rfl⟩
  have hr1 : Room k (A.in1.deeper cenv) := Room.deeper (Room.in1 hr) cenv
  have hfr1 : (A.in1.deeper cenv).frames = some (cenv :: X.stack) := by
    show Option.map (fun x => cenv :: x) A.frames = _
    rw [hfr]; rfl
  have hgd1 : (A.in1.deeper cenv).guards = some [] := hgd
  have I5 := J5 (A.in1.deeper cenv) hr1.hd (by rw [hfr1, hcenv])
  rw [← hcenv] at I5
  refine ⟨a, n, go, gx X (A.in1.deeper cenv) s4 H4 cenv fp, N, rfl, hgo, ha, I5.nolimit, I5.bare, rfl, rfl, rfl, fun σ' H' s' I6 => ?_, fun S C s' hS hgens hos hkeep hC => ?_⟩
  · exact I4.call' (ch := fp) I6.os I6.base I6.hok I6.bare fun b hb => ⟨(hfp b hb).1.2.2.2.1, (hfp b hb).1.2.1, (hfp b hb).1.2.2.2.2.1, (hfp b hb).1.2.2.2.2.2⟩
  · have halt : a < s.heap.objs.size := Heap.lt_size ha
    have hS0 : ∀ H', (∀ b, S = some b → H' b = none) → SOk (gx X (A.in1.deeper cenv) s4 H4 cenv fp) [(a, go)] H' S := fun H' hn b q => by
      have hb := hS b q
      have h4 : s4.heap.objs.size < b := Nat.lt_trans hlt (Nat.lt_of_lt_of_le halt hb)
      refine ⟨hn b q, Nat.le_of_lt h4, ?_, fun x c e z => ?_, fun p hp z => ?_, fun z => ?_, fun z => ?_⟩
      · rw [hcenv]; exact Nat.ne_of_gt h4
      · obtain ⟨v, hc⟩ := I5.cell x c e
        have := hc.lt
        rw [z] at this
        exact absurd (Nat.lt_of_lt_of_le this hb) (Nat.lt_irrefl _)
      · have hp : p ∈ [(a, go)] := hp
        rw [List.mem_singleton.mp hp] at z
        have z : a = b := z
        rw [z] at halt
        exact absurd (Nat.lt_of_lt_of_le halt hb) (Nat.lt_irrefl _)
      · rcases List.mem_cons.mp (I4.stkSub _ z) with z | z
        · have := I4.lt
          rw [← z] at this
          exact absurd (Nat.lt_trans this h4) (Nat.lt_irrefl _)
        · exact I4.nofs (Nat.le_of_lt h4) z
      · exact absurd (Nat.lt_trans (hfp b z).2 h4) (Nat.lt_irrefl _)
    have hH4 : ∀ b, S = some b → H4 b = none := fun b q => I4.hok.fresh (Nat.le_of_lt (Nat.lt_trans hlt (Nat.lt_of_lt_of_le halt (hS b q))))
    refine ⟨.fresh (.compStart (.GeneratorExp elt [⟨tg, iter, ifs, 0⟩] scope gpos) 0 (.ref it) .none (envG X scope s4.heap.objs.size code)), by rw [hgens]; exact hgs, rfl, ?_⟩
    have zz : Slp S C [] s (s'.setGen n .running) := ⟨hos, allBare_setGen (by rw [hgens]; exact I5.bare) rfl, hkeep, hC⟩
    have I7 := inv_slp I5 (hS0 H4 hH4) zz
    have st7 : tn 0 (s'.setGen n .running).heap := T.keep _ _ _ st fun b hb o e => hkeep b o (fun q => by
      have := (hS0 H4 hH4 b q).2.2.2.2.2.2
      exact this hb) e
    have loop := seg_gl (Xg := gx X (A.in1.deeper cenv) s4 H4 cenv fp) (ip := [(a, go)]) (S := S) (C := C) (A0 := A.in1) (iter := iter) (pos := gpos) (scope := scope) (σ := σ) (vs := vs) over_gen rfl rfl rfl rfl (by rw [hcenv]; exact hco) hgd1 T
      (fun b hb p hp z => by
        rw [List.mem_singleton.mp hp] at z
        have z : a = b := z
        have := (hfp b hb).2
        rw [← z] at this
        exact absurd (Nat.lt_trans this hlt) (Nat.lt_irrefl _))
      (by rw [hcenv]; exact P.pg _ s4 H4 _ code fp (by rw [hcenv] at hr1; exact hr1) (by rw [hcenv] at hgd1; exact hgd1)) (by rw [hcenv]; exact P.pt _ s4 H4 _ code fp (by rw [hcenv] at hr1; exact hr1) (by rw [hcenv] at hgd1; exact hgd1)) (by rw [hcenv]; exact P.pe _ s4 H4 _ code fp (by rw [hcenv] at hr1; exact hr1) (by rw [hcenv] at hgd1; exact hgd1)) turn hS0 N m [] 0 H4
      (s'.setGen n .running) (s'.setGen n .running) I7 st7 (fun b hb => (hfp b hb).1.1) zz.own hH4 (fun _ _ _ h => h) w0
    have := seg_gs (Xg := gx X (A.in1.deeper cenv) s4 H4 cenv fp) T st7 loop
    rw [hcenv] at this ⊢
    exact this
theorem call_allG {Q : VK} {x : V} (hr : Room 2 X.A) (M : Awake X pins σ X.A.in1 Go La Fin u s)
    (h1 : ∀ ys y, Go ys y → y = .bl true) (h2 : ∀ ys y H, La ys y H → y = .bl false ∧ Q (.bl false) H) (h3 : ∀ ys H, Fin ys H → Q (.bl true) H) : wpAny (model X.prog X.w) X.A (call (.builtin "all") [u]) (EP X pins σ Q) X.xe s := by
  obtain ⟨a, n, go, Xg, N, rfl, hgo, ha, hl, hb, e1, e2, e3, back, wake⟩ := M
  refine call_function_tree F.kind_all F.plain_all F.entry_all (F.args_all1 _) ?_
  unfold Builtin.«all»
  refine wpAny_bind (m := oneArg "all" _) (wpAny_pure ?_)
  refine wpAny_bind (wpAny_pyIter_gen (hgo _ ha) ?_)
  refine wpAny_pure ⟨plainId_quiet F.plain_all_loop _, ?_⟩
  rw [← e1, ← e2]
  refine all_loop (Go := Go) (La := La) (Fin := Fin) (C := fun _ _ => False) hr.hd (by have := hr.dp; omega) hgo rfl h1 (fun ys y H σ' s' q I => ?_) (fun ys H σ' s' q I => ?_) N s ha hl (wake none _ s (fun b q => by cases q) rfl rfl (fun _ _ _ e => e) fun b q => by cases q)
  · obtain ⟨rfl, q2⟩ := h2 ys y H q
    exact ⟨rfl, .bl false, H, back _ _ _ I, rfl, q2⟩
  · exact ⟨.bl true, H, back _ _ _ I, rfl, h3 ys H q⟩
theorem call_anyG {Q : VK} {x : V} (hr : Room 2 X.A) (M : Awake X pins σ X.A.in1 Go La Fin u s)
    (h1 : ∀ ys y, Go ys y → y = .bl false) (h2 : ∀ ys y H, La ys y H → y = .bl true ∧ Q (.bl true) H) (h3 : ∀ ys H, Fin ys H → Q (.bl false) H) : wpAny (model X.prog X.w) X.A (call (.builtin "any") [u]) (EP X pins σ Q) X.xe s := by
  obtain ⟨a, n, go, Xg, N, rfl, hgo, ha, hl, hb, e1, e2, e3, back, wake⟩ := M
  refine call_function_tree F.kind_any F.plain_any F.entry_any (F.args_any1 _) ?_
  unfold Builtin.«any»
  refine wpAny_bind (m := oneArg "any" _) (wpAny_pure ?_)
  refine wpAny_bind (wpAny_pyIter_gen (hgo _ ha) ?_)
  refine wpAny_pure ⟨plainId_quiet F.plain_any_loop _, ?_⟩
  rw [← e1, ← e2]
  refine any_loop (Go := Go) (La := La) (Fin := Fin) (C := fun _ _ => False) hr.hd (by have := hr.dp; omega) hgo rfl h1 (fun ys y H σ' s' q I => ?_) (fun ys H σ' s' q I => ?_) N s ha hl (wake none _ s (fun b q => by cases q) rfl rfl (fun _ _ _ e => e) fun b q => by cases q)
  · obtain ⟨rfl, q2⟩ := h2 ys y H q
    exact ⟨rfl, .bl true, H, back _ _ _ I, rfl, q2⟩
  · exact ⟨.bl false, H, back _ _ _ I, rfl, h3 ys H q⟩
end
end Ev

set_option maxHeartbeats 4000000
namespace Ev
open PySem PySem.Spec PyProof.Rows L2 GenW

/-! ### sum -/
def vint : V → Int
  | .int i => i
  | _ => 0
def isum (ys : List V) : Int := (ys.map vint).sum
theorem isum_snoc (ys : List V) (i : Int) : isum (ys ++ [.int i]) = isum ys + i := by simp [isum, vint]
/-- the running total stands for what is out -/
def CSum (ys : List V) (o : Obj) : Prop := ∃ t c, o = lstObj #[.int (isum ys) t] c
section
variable {Xg : Cx} {ip : List (Addr × Obj)} {Go : List V → V → Prop} {La : List V → V → Hp → Prop} {Fin : List V → Hp → Prop}
/-- an object's list is written, all else stands -/
theorem slp_write {S : Addr} {C : List V → Obj → Prop} {ys : List V} {s' : Shared} {h' : Heap} {tk : Nat} {o : Obj} (hb : AllBare s'.gens) (hk : ∀ b u, b ≠ S → s'.heap.get? b = some u → h'.get? b = some u) (ho : h'.get? S = some o) (hd : ∀ v, o.data ≠ .cell v) (hc : C ys o) :
    Slp (some S) C ys s' { s' with heap := h', toks := tk } :=
  ⟨rfl, hb, fun b u hne e => hk b u (fun z => hne (by rw [z])) e, fun b e => by cases e; exact ⟨o, ho, hd, hc⟩⟩
theorem sum_loopG {A : Around} {a S : Addr} {g : Nat} {go : Obj} {R : Result → Shared → Prop} (hh : A.handled = none) (hroom : A.depth < recursionLimit) (hgo : ∀ h : Heap, h.get? a = some go → h.IsGen a g) (hip : ip = [(a, go)]) (haS : a ≠ S) (hSc : S ≠ cStatics)
    (h1 : ∀ ys y, Go ys y → ∃ i, y = .int i) (h2 : ∀ ys y H, ¬ La ys y H) (h3 : ∀ ys H σ' s' t, Fin ys H → Inv Xg ip σ' H s' → R (.ok (.ret (.int (isum ys) t))) s') :
    ∀ (n : Nat) (s : Shared) (tA : Tok) (c : Nat) (tot : Int) (stage : Int), (stage = 0 ∨ stage = 2) → s.heap.get? a = some go → s.heap.NoLimit → s.heap.get? S = some (lstObj #[.int tot tA] c) → GAt Xg ip (some S) CSum Go La Fin A.in1 g n s →
      codeAny (model Xg.prog Xg.w) A (.builtin "sum.loop" ⟨[.ref a, .ref S, rawInt stage, rawInt 0], []⟩) R s := by
  intro n
  induction n using Nat.strongRecOn with
  | ind n ih =>
  intro s tA c tot stage hstage ha hl hS hg
  refine codeAny_builtin F.entry_sum_loop ?_
  rw [Around.under_plainId F.plain_sum_loop _]
  show wpAny _ A.in1 (seqItems? (.ref S) >>= _) _ _ s
  refine wpAny_bind (wpAny_seqItems hS rfl ?_)
  show wpAny _ A.in1 (tryCatch (pyNext (.ref a)) _ >>= _) _ _ s
  refine wpAny_bind (wpAny_tryCatch (wpAny_mono (gen_next (E := fun _ _ => False) (A := A.in1) hh hroom hgo hip ha hl hg) (fun r s' hr => ?_) fun _ _ z => False.elim z))
  cases r with
  | none =>
    obtain ⟨ys, σ', H', I, cc, sk, q⟩ := hr
    obtain ⟨o, e1, _, t2, c2, rfl⟩ := cc S rfl
    rw [sk S _ rfl hS] at e1
    cases e1
    exact wpAny_pure (h3 ys H' σ' s' _ q I)
  | some v =>
    obtain ⟨ys, y, σ4, H4, ry, I, ha', hl', cc, sk, q⟩ := hr
    rcases q with ⟨hgo', nx⟩ | hla
    · obtain ⟨i, rfl⟩ := h1 ys y hgo'
      obtain ⟨t, rfl⟩ : ∃ t, v = Value.int i t := ry
      have hS' := sk S _ rfl hS
      obtain ⟨o, e1, _, t2, c2, rfl⟩ := cc S rfl
      rw [hS'] at e1
      cases e1
      have fin : ∀ (h' : Heap) (tk : Nat) (t' : Tok) (c' : Nat) (stage' : Int), (stage' = 0 ∨ stage' = 2) → (∀ b u, b ≠ S → s'.heap.get? b = some u → h'.get? b = some u) → h'.get? S = some (lstObj #[.int (isum ys + i) t'] c') →
          codeAny (model Xg.prog Xg.w) A (.builtin "sum.loop" ⟨[.ref a, .ref S, rawInt stage', rawInt 0], []⟩) R { s' with heap := h', toks := tk } := fun h' tk t' c' stage' hst hk hs => by
        obtain ⟨n', hn, hg'⟩ := nx { s' with heap := h', toks := tk } (slp_write I.bare hk hs (fun v z => by cases z) ⟨t', c', by rw [isum_snoc]⟩) rfl
        refine ih n' (by omega) _ t' c' _ stage' hst (hk _ _ haS ha') ?_ hs hg'
        obtain ⟨mc, hns, hnn⟩ := hl'
        exact ⟨mc, hns.at' fun o e => hk _ o (Ne.symm hSc) e, hnn⟩
      have upk : ∀ {hh : Heap} {f : Obj → Obj}, (∀ b u, b ≠ S → s'.heap.get? b = some u → hh.get? b = some u) → ∀ b u, b ≠ S → s'.heap.get? b = some u → (hh.update S f).get? b = some u := fun {hh f} q b u hb e => (Heap.get?_update_other _ _ (Ne.symm hb)).trans (q b u hb e)
      rcases hstage with rfl | rfl
      · show wpAny _ A.in1 (if (_ : Bool) = true then (mkInt (isum ys + i) >>= _) else _) _ _ _
        split
        · refine wpAny_bind (wpAny_mkInt ?_)
          show wpAny _ A.in1 (updateSeq S (fun _ => #[.int (isum ys + i) s'.toks]) >>= _) _ _ _
          refine wpAny_bind ?_
          exact wpAny_updateSeq hS' rfl (wpAny_pure ⟨plainId_quiet F.plain_sum_loop _, fin _ _ s'.toks _ 0 (.inl rfl) (upk fun _ _ _ e => e) (Heap.get?_update_self _ hS' rfl)⟩)
        · refine wpAny_bind (wpAny_rule ?_)
          refine wpAny_bind (wpAny_attempt (wpAny_holding (PySem.P.add_int ?_)))
          show wpAny _ A.in1 (updateSeq S (fun _ => #[.int (isum ys + i) s'.toks]) >>= _) _ _ _
          refine wpAny_bind ?_
          refine wpAny_updateSeq hS' rfl ?_
          have hS2 := Heap.get?_update_self (Obj.mapSeq fun _ => #[Value.int (isum ys + i) s'.toks]) hS' rfl
          refine wpAny_bind (wpAny_letGo ?_)
          refine wpAny_bind ?_
          exact wpAny_updateSeq hS2 rfl (wpAny_pure ⟨plainId_quiet F.plain_sum_loop _, fin _ _ s'.toks _ 2 (.inr rfl) (upk (upk fun _ _ _ e => e)) (Heap.get?_update_self _ hS2 rfl)⟩)
      · show wpAny _ A.in1 ((holding [Value.int i t] (binaryOp .Add (.int (isum ys) tA) (.int i t))).attempt >>= _) _ _ _
        refine wpAny_bind (wpAny_attempt (wpAny_holding (PySem.P.add_int ?_)))
        show wpAny _ A.in1 (updateSeq S (fun _ => #[.int (isum ys + i) s'.toks]) >>= _) _ _ _
        refine wpAny_bind ?_
        refine wpAny_updateSeq hS' rfl ?_
        have hS2 := Heap.get?_update_self (Obj.mapSeq fun _ => #[Value.int (isum ys + i) s'.toks]) hS' rfl
        refine wpAny_bind (wpAny_letGo ?_)
        refine wpAny_bind ?_
        exact wpAny_updateSeq hS2 rfl (wpAny_pure ⟨plainId_quiet F.plain_sum_loop _, fin _ _ s'.toks _ 2 (.inr rfl) (upk (upk fun _ _ _ e => e)) (Heap.get?_update_self _ hS2 rfl)⟩)
    · exact absurd hla (h2 ys y H4)
end
section
variable {X : Cx} {pins : List (Addr × Obj)} {σ : L2.St} {s : Shared} {Go : List V → V → Prop} {La : List V → V → Hp → Prop} {Fin : List V → Hp → Prop} {u : Value}
theorem call_sumG {Q : VK} (hr : Room 2 X.A) (M : Awake X pins σ X.A.in1 Go La Fin u s)
    (h1 : ∀ ys y, Go ys y → ∃ i, y = .int i) (h2 : ∀ ys y H, ¬ La ys y H) (h3 : ∀ ys H, Fin ys H → Q (.int (isum ys)) H) : wpAny (model X.prog X.w) X.A (call (.builtin "sum") [u]) (EP X pins σ Q) X.xe s := by
  obtain ⟨a, n, go, Xg, N, rfl, hgo, ha, hl, hb, e1, e2, e3, back, wake⟩ := M
  refine call_function_tree F.kind_sum F.plain_sum F.entry_sum (F.args_sum1 _) ?_
  unfold Builtin.«sum»
  simp only [List.length_cons, List.length_nil]
  rw [if_neg (by decide)]
  refine wpAny_bind (wpAny_of_eq (show Builtin.Builtins.bindParams "sum" ["start"] 0 { } = pure [none] from rfl) ?_)
  refine wpAny_bind (wpAny_pyIter_gen (hgo _ ha) ?_)
  refine wpAny_bind (wpAny_mkInt ?_)
  refine wpAny_bind (wpAny_pure ?_)
  simp only [List.forIn_cons, List.forIn_nil]
  refine wpAny_bind (wpAny_bind (wpAny_bind (wpAny_isInstance (T := "int") (b := false) (typeIs_int _ _ _) PySem.sub_int_str ?_)))
  simp only [Bool.false_eq_true, if_false]
  refine wpAny_pure (wpAny_bind (wpAny_bind (wpAny_isInstance (T := "int") (b := false) (typeIs_int _ _ _) PySem.sub_int_bytes ?_)))
  simp only [Bool.false_eq_true, if_false]
  refine wpAny_pure (wpAny_bind (wpAny_bind (wpAny_isInstance (T := "int") (b := false) (typeIs_int _ _ _) PySem.sub_int_bytearray ?_)))
  simp only [Bool.false_eq_true, if_false]
  refine wpAny_pure (wpAny_pure ?_)
  refine wpAny_bind (wpAny_newObj_type ?_)
  have hcl : cStatics < s.heap.objs.size := let ⟨_, hn, _⟩ := hl; hn.lt
  have hal : a < s.heap.objs.size := Heap.lt_size ha
  refine wpAny_pure ⟨plainId_quiet F.plain_sum_loop _, ?_⟩
  rw [← e1, ← e2]
  refine sum_loopG (Go := Go) (La := La) (Fin := Fin) (S := s.heap.objs.size) hr.hd (by have := hr.dp; omega) hgo rfl (Nat.ne_of_lt hal) (Nat.ne_of_gt hcl) h1 h2 (fun ys H σ' s' t q I => ⟨.int _, H, back _ _ _ I, ⟨t, rfl⟩, h3 ys H q⟩) N _ s.toks 0 0 0 (.inl rfl) (Heap.get?_push_of_some _ ha) (hl.push _) (Heap.get?_push_size _ rfl)
    (wake (some s.heap.objs.size) CSum _ (fun b q => by cases q; exact Nat.le_refl _) rfl rfl (fun b o _ e => Heap.get?_push_of_some _ e) fun b q => by cases q; exact ⟨_, Heap.get?_push_size _ rfl, fun v z => (by cases z), s.toks, 0, rfl⟩)
end
end Ev

set_option maxHeartbeats 4000000
namespace Ev
open PySem PySem.Spec PyProof.Rows L2 GenW

/-! ### tuple -/
/-- the consumer's list holds what is out -/
def CTup (ys : List V) (o : Obj) : Prop := ∃ acc c, o = lstObj acc c ∧ Vals ys acc.toList
section
variable {Xg : Cx} {ip : List (Addr × Obj)} {Go : List V → V → Prop} {La : List V → V → Hp → Prop} {Fin : List V → Hp → Prop}
theorem ext_loopG {A : Around} {a S : Addr} {g : Nat} {go : Obj} {res : Value} {R : Result → Shared → Prop} (hh : A.handled = none) (hroom : A.depth < recursionLimit) (hgo : ∀ h : Heap, h.get? a = some go → h.IsGen a g) (hip : ip = [(a, go)]) (haS : a ≠ S) (hSc : S ≠ cStatics)
    (h1 : ∀ ys y, Go ys y → ys.length < sizeLine) (h2 : ∀ ys y H, ¬ La ys y H) (h3 : ∀ ys H σ' s' acc c, Fin ys H → Inv Xg ip σ' H s' → s'.heap.get? S = some (lstObj acc c) → Vals ys acc.toList → R (.ok (.ret res)) s') :
    ∀ (n : Nat) (s : Shared) (acc : Array Value) (c : Nat), s.heap.get? a = some go → s.heap.NoLimit → s.heap.get? S = some (lstObj acc c) → GAt Xg ip (some S) CTup Go La Fin A.in1 g n s →
      codeAny (model Xg.prog Xg.w) A (.builtin "list.extend.loop" ⟨[.ref S, .ref a, res], []⟩) R s := by
  intro n
  induction n using Nat.strongRecOn with
  | ind n ih =>
  intro s acc c ha hl hS hg
  refine codeAny_builtin F.entry_extend_loop ?_
  rw [Around.under_plainId F.plain_extend_loop _]
  show wpAny _ A.in1 (pyNext (.ref a) >>= _) _ _ s
  refine wpAny_bind (wpAny_mono (gen_next (E := fun _ _ => False) (A := A.in1) hh hroom hgo hip ha hl hg) (fun r s' hr => ?_) fun _ _ z => False.elim z)
  cases r with
  | none =>
    obtain ⟨ys, σ', H', I, cc, sk, q⟩ := hr
    obtain ⟨o, e1, _, acc2, c2, rfl, rv⟩ := cc S rfl
    exact wpAny_pure (h3 ys H' σ' s' acc2 c2 q I e1 rv)
  | some v =>
    obtain ⟨ys, y, σ4, H4, ry, I, ha', hl', cc, sk, q⟩ := hr
    rcases q with ⟨hgo', nx⟩ | hla
    · have hlt := h1 ys y hgo'
      have hS' := sk S _ rfl hS
      obtain ⟨o, e1, _, acc2, c2, rfl, rv⟩ := cc S rfl
      rw [hS'] at e1
      cases e1
      have hsz : acc.size = ys.length := by
        have e1 := rv.length
        have e2 : acc.toList.length = acc.size := by simp
        omega
      show wpAny _ A.in1 (updateSeq S (·.push v) >>= _) _ _ _
      refine wpAny_bind ?_
      have hk : ∀ b u, b ≠ S → s'.heap.get? b = some u → (s'.heap.update S (Obj.mapSeq (·.push v))).get? b = some u := fun b u hb e => (Heap.get?_update_other _ _ (Ne.symm hb)).trans e
      refine wpAny_updateSeq hS' rfl (wpAny_pure ⟨plainId_quiet F.plain_extend_loop _, ?_⟩) (by omega) (by show (acc.push v).size ≤ sizeLine + 1; rw [Array.size_push]; omega)
      obtain ⟨n', hn, hg'⟩ := nx { s' with heap := s'.heap.update S (Obj.mapSeq (·.push v)), toks := s'.toks } (slp_write I.bare hk (Heap.get?_update_self _ hS' rfl) (fun v z => by cases z) ⟨acc.push v, _, rfl, by rw [Array.toList_push]; exact rv.append (.cons ry .nil)⟩) rfl
      refine ih n' (by omega) _ (acc.push v) _ (hk _ _ haS ha') ?_ (Heap.get?_update_self _ hS' rfl) hg'
      obtain ⟨mc, hns, hnn⟩ := hl'
      exact ⟨mc, hns.at' fun o e => hk _ o (Ne.symm hSc) e, hnn⟩
    · exact absurd hla (h2 ys y H4)
end
section
variable {X : Cx} {pins : List (Addr × Obj)} {σ : L2.St} {s : Shared} {Go : List V → V → Prop} {La : List V → V → Hp → Prop} {Fin : List V → Hp → Prop} {u : Value}
theorem collectG {A : Around} {E : Value → Shared → Prop} {Q : List Value → Shared → Prop} (hh : A.handled = none) (hroom : A.depth < recursionLimit) (M : Awake X pins σ A.in1 Go La Fin u s)
    (h1 : ∀ ys y, Go ys y → ys.length < sizeLine) (h2 : ∀ ys y H, ¬ La ys y H) (hQ : ∀ ys H s' vs, Fin ys H → Inv X pins σ H s' → Vals ys vs → Q vs s') : wpAny (model X.prog X.w) A (collect u) Q E s := by
  obtain ⟨a, n, go, Xg, N, rfl, hgo, ha, hl, hb, e1, e2, e3, back, wake⟩ := M
  have hcl : cStatics < s.heap.objs.size := let ⟨_, hn, _⟩ := hl; hn.lt
  have hal : a < s.heap.objs.size := Heap.lt_size ha
  have haS : s.heap.objs.size ≠ a := Nat.ne_of_gt hal
  unfold collect
  refine wpAny_bind (wpAny_runValue (codeAny_builtin F.entry_proto_collect ?_))
  rw [Around.under_plainId F.plain_proto_collect _]
  show wpAny _ A.in1 (newList [] >>= fun l => again (.builtin "list.__iadd__" ⟨[l, .ref a], []⟩)) _ _ s
  refine wpAny_bind (wpAny_newObj_type ?_)
  refine wpAny_pure ⟨plainId_quiet F.plain_list_iadd _, codeAny_builtin F.entry_list_iadd ?_⟩
  rw [Around.under_plainId F.plain_list_iadd _]
  have ty : ∀ {h : Heap} {tk : Nat}, (∀ b o, s.heap.get? b = some o → h.get? b = some o) → Shared.TypeIs { s with heap := h, toks := tk } (.ref a) "generator" := fun {h tk} k => Heap.IsGen.typeIs (s := { s with heap := h, toks := tk }) (g := n) (hgo h (k _ _ ha))
  have k1 : ∀ b o, s.heap.get? b = some o → (s.heap.push { cls := .type "list", data := .seq ([] : List Value).toArray }).get? b = some o := fun b o e => Heap.get?_push_of_some _ e
  show wpAny _ A.in1 (Builtin.List.listExtendWith (.ref s.heap.objs.size) (.ref a) (.ref s.heap.objs.size)) _ _ _
  unfold Builtin.List.listExtendWith
  refine wpAny_bind (wpAny_typeOf (ty k1) ?_)
  have h1' : Builtin.List.listSameRef (.ref s.heap.objs.size) (.ref a) = false := by simp [Builtin.List.listSameRef, haS]
  have h2' : (Value.type "generator" == Value.type "list") = false := by decide
  have h3' : (Value.type "generator" == Value.type "tuple") = false := by decide
  simp only [h1', h2', h3', Bool.or_false, Bool.false_eq_true, if_false]
  refine wpAny_bind (wpAny_pyIter_gen (hgo _ (k1 _ _ ha)) ?_)
  refine wpAny_bind (wpAny_holding ?_)
  unfold Builtin.List.listLengthHint
  refine wpAny_bind (wpAny_specialOf (ty k1) F.gen_no_len ?_)
  show wpAny _ A.in1 (specialOf (Value.ref a) (Str.ofString "__length_hint__") >>= _) _ _ _
  refine wpAny_bind (wpAny_specialOf (ty k1) F.gen_no_hint ?_)
  refine wpAny_pure ?_
  show wpAny _ A.in1 (rule "list.extend.makes-room" >>= fun _ => Builtin.List.listTouch (.ref s.heap.objs.size) >>= fun _ =>
    again (.builtin "list.extend.loop" ⟨[.ref s.heap.objs.size, .ref a, .ref s.heap.objs.size], []⟩)) _ _ _
  refine wpAny_bind (wpAny_rule ?_)
  have hS1 : (s.heap.push { cls := .type "list", data := .seq ([] : List Value).toArray }).get? s.heap.objs.size = some { cls := .type "list", data := .seq ([] : List Value).toArray } := Heap.get?_push_size _ rfl
  refine wpAny_bind ?_
  show wpAny _ A.in1 (updateSeq s.heap.objs.size (·.push .none) >>= fun _ => updateSeq s.heap.objs.size (·.pop)) _ _ _
  refine wpAny_bind (wpAny_updateSeq hS1 rfl ?_)
  have hS2 := Heap.get?_update_self (Obj.mapSeq (·.push Value.none)) hS1 rfl
  refine wpAny_updateSeq hS2 rfl ?_
  have hS3 := Heap.get?_update_self (Obj.mapSeq (·.pop)) hS2 rfl
  have oth : ∀ b o, b ≠ s.heap.objs.size → s.heap.get? b = some o →
      (((s.heap.push { cls := .type "list", data := .seq ([] : List Value).toArray }).update s.heap.objs.size (Obj.mapSeq (·.push Value.none))).update s.heap.objs.size (Obj.mapSeq (·.pop))).get? b = some o :=
    fun b o hb e => (Heap.get?_update_other _ _ (Ne.symm hb)).trans ((Heap.get?_update_other _ _ (Ne.symm hb)).trans (k1 b o e))
  refine wpAny_pure ⟨plainId_quiet F.plain_extend_loop _, ?_⟩
  have hl3 : (((s.heap.push { cls := .type "list", data := .seq ([] : List Value).toArray }).update s.heap.objs.size (Obj.mapSeq (·.push Value.none))).update s.heap.objs.size (Obj.mapSeq (·.pop))).NoLimit := by
    obtain ⟨mc, hns, hnn⟩ := hl
    exact ⟨mc, hns.at' fun o e => oth _ o (Nat.ne_of_lt hcl) e, hnn⟩
  rw [← e1, ← e2]
  refine ext_loopG (Go := Go) (La := La) (Fin := Fin) (S := s.heap.objs.size) hh hroom hgo rfl (Nat.ne_of_lt hal) (Nat.ne_of_gt hcl) h1 h2 (fun ys H σ' s' acc c q I hS' rv => ?_) N _ _ _ (oth _ _ (Nat.ne_of_lt hal) ha) hl3 hS3
    (wake (some s.heap.objs.size) CTup _ (fun b q => by cases q; exact Nat.le_refl _) rfl rfl (fun b o hne e => oth b o (fun z => hne (by rw [z])) e) fun b q => by cases q; exact ⟨_, hS3, fun v z => (by cases z), #[], _, rfl, .nil⟩)
  show wpAny _ A (load s.heap.objs.size >>= _) _ _ s'
  refine wpAny_bind (wpAny_load hS' ?_)
  exact wpAny_pure (hQ ys H s' _ q (back _ _ _ I) rv)
theorem call_tupG {Q : VK} (hr : Room 4 X.A) (M : Awake X pins σ X.A.in1.in1.in1 Go La Fin u s)
    (h1 : ∀ ys y, Go ys y → ys.length < sizeLine) (h2 : ∀ ys y H, ¬ La ys y H) (h3 : ∀ ys H, Fin ys H → ys.length ≤ sizeLine ∧ ∀ p, H p = none → Q (.ref p) (upd H p (.tup ys))) : wpAny (model X.prog X.w) X.A (call (.type "tuple") [u]) (EP X pins σ Q) X.xe s := by
  have hTI : ∃ a n go, u = .ref a ∧ (∀ h : Heap, h.get? a = some go → h.IsGen a n) ∧ s.heap.get? a = some go := by
    obtain ⟨a, n, go, Xg, N, rfl, hgo, ha, _⟩ := M
    exact ⟨a, n, go, rfl, hgo, ha⟩
  obtain ⟨a, n, go, rfl, hgo, ha⟩ := hTI
  refine callType_codes (Q₁ := fun obj s1 => s1.TypeIs obj "tuple" ∧ EP X pins σ Q obj s1) F.called_tuple (F.typeCall_tuple_1 _) F.entry_object_init ?_ fun obj s1 h1' => ?_
  · refine codeAny_of_tree ?_
    show wpAny _ X.A.in1.in1 (do checkBuiltinCall "tuple.__new__" ⟨[.type "tuple", .ref a], []⟩; again (.builtin "tuple.__new__" ⟨[.type "tuple", .ref a], []⟩)) _ _ s
    refine wpAny_bind (wpAny_of_eq (F.newCall_tuple_1 _) (wpAny_pure ⟨plainId_quiet F.plain_tuple_new _, codeAny_builtin F.entry_tuple_new ?_⟩))
    rw [Around.under_plainId F.plain_tuple_new _]
    have hsub := sub_tuple_self
    have hinit := init_tuple_lookup
    have hmh := madeHere_tuple
    have hT := (hgo _ ha).typeIs
    wp_walk using wpAny_typeOf hT, collectG (A := X.A.in1.in1) hr.hd (by have := hr.dp; show X.A.depth < _; omega) M h1 h2
    intro ys H s' vs q I rv
    show wpAny _ _ (Builtin.Tuple.tupleExact vs.toArray >>= fun v => ret v) _ _ _
    unfold Builtin.Tuple.tupleExact
    obtain ⟨hz, hQ⟩ := h3 ys H q
    have hlen := rv.length
    refine wpAny_bind (wpAny_newObj_type ?_ (by show vs.toArray.size ≤ sizeLine; simp only [List.size_toArray]; omega))
    refine wpAny_pure ?_
    have hn : H s'.heap.objs.size = none := I.hok.fresh (Nat.le_refl _)
    have hp : (s'.heap.push { cls := .type "tuple", data := .seq vs.toArray }).get? s'.heap.objs.size = some { cls := .type "tuple", data := .seq vs.toArray } := Heap.get?_push_size _ rfl
    refine ⟨⟨_, hp, rfl⟩, .ref s'.heap.objs.size, _, I.laid (t' := s'.toks) (fun b o e => Heap.get?_push_of_some _ e) (Nat.le_refl _) (o := .tup ys) ⟨hz, vs, rv, ?_⟩, rfl, hQ _ hn⟩
    exact ⟨_, hp, rfl, 0, rfl⟩
  · exact ⟨h1'.1, F.args_object_init_2 obj _, object_init_meets F.called_tuple.init.lookup F.called_tuple.made (by decide) _ _ X.A.in1 _ s1 ⟨h1'.1, rfl, h1'.2⟩⟩
end
end Ev

set_option maxHeartbeats 4000000
namespace Ev
open PySem PySem.Spec PyProof.Rows L2 GenW

/-! ### generator expressions, in the small language -/
section
variable {st : D → Bool} {f : D → En → Option (Option D × En)}
theorem evGen_pre : ∀ {xs acc : List D} {ρ : En} {r : List D × En}, evGen st f xs acc ρ = some r → acc <+: r.1
  | [], acc, ρ, r, h => by cases h; exact List.prefix_refl _
  | x :: xs, acc, ρ, r, h => by
    simp only [evGen] at h
    split at h
    · split at h
      · cases h; exact List.prefix_append _ _
      · exact (List.prefix_append _ _).trans (evGen_pre h)
    · exact evGen_pre h
    · cases h
end
theorem Rel.grow {K : PySem.W.Frag} {tb : List Addr} {pa : Nat → Addr} {B F : Hp} {σ : St} {H : Hp} {ρ : En} {P : Addr} {ps more : Array Value} (r : Rel K tb pa B F σ H ρ) (hP : P ∈ tb) (e : H P = some (.tbl ps)) (ht : TriplesOk (ps ++ more).toList) : Rel K tb pa B F σ (upd H P (.tbl (ps ++ more))) ρ := by
  obtain ⟨_, f0, b0⟩ := r.wf.tabs P hP
  refine ⟨⟨fun p o q => ?_, fun p o q => ?_, fun P' hP' => ?_⟩, r.len, fun i s hs => (r.sl i s hs).same (Sm.refl _) fun p w z => ⟨fun u q => ?_, fun y => y⟩, r.ne⟩
  · rw [upd_ne (ne_of_none q f0)]; exact r.wf.fz p o q
  · rw [upd_ne (ne_of_none q b0)]; exact r.wf.bg p o q
  · obtain ⟨a, b, c⟩ := r.wf.tabs P' hP'
    refine ⟨?_, b, c⟩
    by_cases z : P' = P
    · subst z
      exact ⟨_, upd_same, ht⟩
    · obtain ⟨ps', e', t'⟩ := a
      exact ⟨ps', by rw [upd_ne z]; exact e', t'⟩
  · by_cases y : p = P
    · subst y
      have := r.sl i s hs
      cases s with
      | u => cases w
      | v d => cases w
      | o mt ds =>
        obtain ⟨p', vs, a, _, b, _⟩ := this
        rw [a] at z; cases z
        rw [e] at b; cases b
    · rw [upd_ne y]; exact q

section
variable {T : Tb} {tb : List Addr} {k : Nat} {s : Sc} {X : Cx} {a b c e : Expr} {es : List Expr} {ρ ρ1 ρ2 ρ3 : En} {oa ob oc op res : Op} {ops : List Op} {ds : List D} {pa : Nat → Addr} {B F H : Hp} {σ : St} {pos : Pos} {r1 r2 : Bool}
theorem XOk.gx (o : XOk T tb k s X) (scope : Scope) (A : Around) (s0 : Shared) (H0 : Hp) (C : Addr) (code : Value) (fp : List Addr) (hr : Room k A) (hg : A.guards = some []) : XOk T tb k (gnS s scope) (Ev.gx X A s0 H0 (envG X scope C code) fp) :=
  { fns := o.fns, kws := o.kws, gls := o.gls, blt := o.blt, nm := o.nm, nd := o.nd, sc := rfl, fn := (fun x h => by cases h), calm := rfl, room8 := hr, tab := (fun h => by cases h), grd := hg, own := PassesOwn.never }
def gG (X : Cx) (k : Nat) (scope : Scope) (tg : Expr) : TG := fun v σ H Q => ∀ (A : Around) s H0 C code fp, Room k A → A.guards = some [] → WG (Ev.gx X A s H0 (envG X scope C code) fp) tg v σ H Q
def ttG (X : Cx) (k : Nat) (scope : Scope) (ifs : List Expr) : TT := fun σ H Q => ∀ (A : Around) s H0 C code fp, Room k A → A.guards = some [] → WTs (Ev.gx X A s H0 (envG X scope C code) fp) ifs σ H Q
def teG (X : Cx) (k : Nat) (scope : Scope) (elt : Expr) : TE := fun σ H Q => ∀ (A : Around) s H0 C code fp, Room k A → A.guards = some [] → WE (Ev.gx X A s H0 (envG X scope C code) fp) elt σ H Q
theorem gparts (X : Cx) (k : Nat) (elt tg : Expr) (ifs : List Expr) (scope : Scope) : GParts X k elt tg ifs scope (gG X k scope tg) (ttG X k scope ifs) (teG X k scope elt) :=
  ⟨fun A s H C code fp hr hg => ⟨fun pins s' σ H v u Q I r h => h A s _ C code fp hr hg pins s' u I r⟩, fun A s H C code fp hr hg => ⟨fun pins s' σ H Q I h => h A s _ C code fp hr hg pins s' I⟩, fun A s H C code fp hr hg => ⟨fun pins s' σ H Q I h => h A s _ C code fp hr hg pins s' I⟩⟩
/-- what a consumer may rely on: out, all that comes -/
structure GFacts (K : PySem.W.Frag) (st : D → Bool) (out : List D) (Fz : Hp → Hp → Prop) (Go : List V → V → Prop) (La : List V → V → Hp → Prop) (Fin : List V → Hp → Prop) : Prop where
  go : ∀ ys y, Go ys y → ∃ F acc d, RpAll K F ys acc ∧ Rp K F y d ∧ st d = false ∧ (acc ++ [d]) <+: out
  la : ∀ ys y H, La ys y H → ∃ F acc d, RpAll K F ys acc ∧ Rp K F y d ∧ st d = true ∧ out = acc ++ [d] ∧ Fz F H
  fin : ∀ ys H, Fin ys H → ∃ F, RpAll K F ys out ∧ (∀ d ∈ out, st d = false) ∧ Fz F H
theorem gn_ok {elt tg iter : Expr} {ifs : List Expr} {scope : Scope} {own : List (Str × Nat)} {ix : List Nat} {st : D → Bool} {f : D → En → Option (Option D × En)} {out : List D} {ρn : En} {P : Addr}
    (hP : P ∈ tb) (hi : SI tb X tg iter ρ ds ρ1) (hix : ∀ i ∈ ix, i ∈ own.map (·.2))
    (hb : ∀ x ρa q, f x ρa = some q → ∃ ρ2 b ρ3, (∀ A s H C code fp, Room k A → A.guards = some [] → SG tb (Ev.gx X A s H (envG X scope C code) fp) tg ix (wipeE ρa (own.map (·.2))) x ρ2) ∧ (∀ A s H C code fp, Room k A → A.guards = some [] → STs tb (Ev.gx X A s H (envG X scope C code) fp) ifs ρ2 b ρ3) ∧
      ((b = false ∧ q = (none, ρ3)) ∨ (b = true ∧ ∃ op ρ4 d ρb, (∀ A s H C code fp, Room k A → A.guards = some [] → SE tb (Ev.gx X A s H (envG X scope C code) fp) elt ρ3 op ρ4) ∧ keepOp ρ4 op = some (d, ρb) ∧ q = (some d, ρb))))
    (h : evGen st f ds [] ρ1 = some (out, ρn)) (r : Rel X.K tb pa B F σ H ρ) :
    WI X tg iter σ H (Grows P fun J H1 => ∃ Go La Fin, GFacts X.K st out (fun F' H' => Sm F F' ∧ Rel X.K tb pa B F' σ H' (backE ρ1 ρn (own.map (·.2)))) Go La Fin ∧ GenR (gG X k scope tg) (ttG X k scope ifs) (teG X k scope elt) σ (own.map (·.2)) Go La Fin J H1) := by
  obtain ⟨vs, hvs⟩ : ∃ vs, vs = own.map (·.2) := ⟨_, rfl⟩
  rw [← hvs] at hb hix ⊢
  refine hi pa B F σ H r _ fun J F1 H1 s1 r1 wk => ?_
  obtain ⟨⟨ps, eP, htp⟩, _, _⟩ := r1.wf.tabs P hP
  refine ⟨ps, eP, htp, fun more hmore => ?_⟩
  have r1' := r1.grow hP eP hmore
  generalize hH1 : upd H1 P (.tbl (ps ++ more)) = H1' at r1' ⊢
  have fz : ∀ {F' H'}, Sm F1 F' → Rel X.K tb pa B F' (wipe σ vs) H' (wipeE ρn vs) → Sm F F' ∧ Rel X.K tb pa B F' σ H' (backE ρ1 ρn vs) := fun s2 r2 => ⟨s1.trans s2, Rel.back r1 s2 r2⟩
  refine ⟨fun ys y => ∃ F acc d, RpAll X.K F ys acc ∧ Rp X.K F y d ∧ st d = false ∧ (acc ++ [d]) <+: out, fun ys y H => ∃ F' acc d, RpAll X.K F' ys acc ∧ Rp X.K F' y d ∧ st d = true ∧ out = acc ++ [d] ∧ Sm F1 F' ∧ Rel X.K tb pa B F' (wipe σ vs) H (wipeE ρn vs), fun ys H => ∃ F', RpAll X.K F' ys out ∧ (∀ d ∈ out, st d = false) ∧ Sm F1 F' ∧ Rel X.K tb pa B F' (wipe σ vs) H (wipeE ρn vs),
    ⟨fun ys y q => q, fun ys y H q => ?_, fun ys H q => ?_⟩, ?_⟩
  · obtain ⟨F', acc, d, a1, a2, a3, a4, a5, a6⟩ := q
    exact ⟨F', acc, d, a1, a2, a3, a4, fz a5 a6⟩
  · obtain ⟨F', a1, a2, a3, a4⟩ := q
    exact ⟨F', a1, a2, fz a3 a4⟩
  refine ⟨fun ys n i m H => m = ds.length - i ∧ ∃ F' ρa acc, Sm F1 F' ∧ RpAll X.K F' ys acc ∧ (∀ d ∈ acc, st d = false) ∧ Rel X.K tb pa B F' (wipe σ vs) H (wipeE ρa vs) ∧ n + acc.length = out.length ∧ evGen st f (ds.drop i) acc ρa = some (out, ρn), out.length, ds.length - 0,
    ⟨rfl, F1, ρ1, [], Sm.refl _, .nil, by simp, r1'.wipe vs, by simp, h⟩, ?_⟩
  rintro ys n i m H2 ⟨rfl, F2, ρa, acc, s2, rp, hacc, r2, hn, ev⟩
  by_cases hi2 : i < ds.length
  · have m2 : Sm F1 H2 := s2.trans r2.wf.fz
    refine .inr ⟨wk.go i H2 m2 hi2, fun x H3 hy => ?_⟩
    have hd : ds[i]? = some ds[i] := List.getElem?_eq_getElem hi2
    rw [List.drop_eq_getElem_cons hi2] at ev
    simp only [evGen] at ev
    obtain ⟨F3, s3, sH3, r3, dx⟩ := Yld.ok (tb := tb) (F := F2) (H := H2) (by
      rcases wk.yld i H2 x H3 _ m2 hd hy with ⟨a, b⟩ | ⟨p, ws, ds', a, b, c, e, g⟩
      · exact .inl ⟨a, Rp.mono s2 b⟩
      · exact .inr ⟨p, ws, ds', a, b, c, e, RpAll.mono s2 g⟩) r2
    cases hq : f ds[i] ρa with
    | none => rw [hq] at ev; cases ev
    | some qq =>
      rw [hq] at ev
      obtain ⟨ρ2, b, ρ3, h1, h2, h3⟩ := hb _ _ _ hq
      intro A s0 H0 C code fp hr hg
      refine h1 A s0 H0 C code fp hr hg pa _ F3 _ H3 x r3 dx _ fun σ2 r4 hw => ?_
      have hw : wipe σ2 vs = wipe σ vs := by
        rw [hw vs hix]
        have : ∀ us : List Nat, (∀ i ∈ us, i ∈ vs) → wipe (wipe σ us) vs = wipe σ vs := by
          intro us hu
          induction us with
          | nil => rfl
          | cons u us ih =>
            show wipe ((wipe σ us).set u none) vs = _
            rw [wipe_set (hu u List.mem_cons_self)]
            exact ih fun i hi => hu i (List.mem_cons_of_mem _ hi)
        exact this vs fun i hi => hi
      refine ⟨hw, fun A s0 H0 C code fp hr hg => ?_⟩
      refine h2 A s0 H0 C code fp hr hg pa _ F3 σ2 H3 r4 _ fun F4 H4 s4 r5 => ?_
      have wipd : ∀ {F5 : Hp} {H5 : Hp} {ρb : En}, Rel X.K tb pa B F5 σ2 H5 ρb → Rel X.K tb pa B F5 (wipe σ vs) H5 (wipeE ρb vs) := fun {F5 H5 ρb} r6 => by
        have r7 := r6.wipe vs
        rw [hw] at r7
        exact r7
      rcases h3 with ⟨rfl, rfl⟩ | ⟨rfl, op, ρ4, d, ρb, h4, h5, rfl⟩
      · rw [if_neg Bool.false_ne_true]
        exact ⟨_, by omega, rfl, F4, ρ3, acc, (s2.trans s3).trans s4, RpAll.mono (s3.trans s4) rp, hacc, wipd r5, hn, ev⟩
      · rw [if_pos rfl]
        intro A s0 H0 C code fp hr hg
        refine h4 A s0 H0 C code fp hr hg pa _ F4 σ2 H4 r5 _ fun y F5 H5 s5 r6 oy => ?_
        obtain ⟨F6, s6, r7, dy⟩ := keep_ok r6 oy h5
        have sA : Sm F2 F6 := ((s3.trans s4).trans s5).trans s6
        cases hst : st d with
        | true =>
          simp only [hst, if_true] at ev
          cases ev
          rw [List.length_append] at hn
          simp only [List.length_cons, List.length_nil] at hn
          exact ⟨0, by omega, .inr ⟨F6, acc, d, RpAll.mono sA rp, dy, hst, rfl, s2.trans sA, wipd r7⟩⟩
        | false =>
          simp only [hst, Bool.false_eq_true, if_false] at ev
          have hpre := evGen_pre ev
          have hlen := hpre.length_le
          rw [List.length_append] at hlen
          simp only [List.length_cons, List.length_nil] at hlen
          refine ⟨out.length - acc.length - 1, by omega, .inl ⟨⟨F6, acc, d, RpAll.mono sA rp, dy, hst, hpre⟩, _, rfl, F6, ρb, acc ++ [d], s2.trans sA, RpAll.append (RpAll.mono sA rp) (.cons dy .nil), fun e he => ?_, wipd r7, ?_, ev⟩⟩
          · rcases List.mem_append.mp he with z | z
            · exact hacc e z
            · rw [List.mem_singleton.mp z]; exact hst
          · rw [List.length_append]; simp only [List.length_cons, List.length_nil]; omega
  · have hdr : ds.drop i = [] := List.drop_eq_nil_of_le (by omega)
    rw [hdr] at ev
    cases ev
    exact .inl ⟨wk.stop i H2 (s2.trans r2.wf.fz) (by omega), F2, rp, hacc, s2, r2⟩
theorem GMk.split {pins : List (Addr × Obj)} {vs : List Nat} {elt tg iter : Expr} {ifs : List Expr} {scope : Scope} {gpos : Pos} {u : Value} {sh : Shared} {CF : (List V → V → Prop) → (List V → V → Hp → Prop) → (List V → Hp → Prop) → Prop} {R : (List V → V → Prop) → (List V → V → Hp → Prop) → (List V → Hp → Prop) → It → Hp → Prop}
    (M : GMk X pins σ vs elt tg iter ifs scope gpos (fun J H1 => ∃ Go La Fin, CF Go La Fin ∧ R Go La Fin J H1) u sh) : ∃ Go La Fin, CF Go La Fin ∧ GMk X pins σ vs elt tg iter ifs scope gpos (R Go La Fin) u sh := by
  obtain ⟨a, n, go, it, fp, tn, J, s4, H4, code, e1, hgo, ha, hnc, I4, Tn, st, hfp, ⟨Go, La, Fin, cf, hR⟩, rest⟩ := M
  exact ⟨Go, La, Fin, cf, a, n, go, it, fp, tn, J, s4, H4, code, e1, hgo, ha, hnc, I4, Tn, st, hfp, hR, rest⟩
theorem boolsD_all {out : List D} {bs : List Bool} (h : boolsD out = some bs) : out = bs.map .bool := by
  induction out generalizing bs with
  | nil => cases h; rfl
  | cons d ds ih =>
    cases d <;> simp [boolsD] at h
    obtain ⟨m, h1, rfl⟩ := h
    rw [ih h1]; rfl
theorem intsD_all {out : List D} {bs : List Int} (h : intsD out = some bs) : out = bs.map .int := by
  induction out generalizing bs with
  | nil => cases h; rfl
  | cons d ds ih =>
    cases d <;> simp [intsD] at h
    obtain ⟨m, h1, rfl⟩ := h
    rw [ih h1]; rfl
theorem se_gn (o : XOk T tb k s X) {f : String} {elt tg iter : Expr} {ifs : List Expr} {scope : Scope} {own : List (Str × Nat)} {ix : List Nat} {fv : D → En → Option (Option D × En)} {out : List D} {ρn : En} {pn gpos : Pos} {d : D}
    (hgl : glB s.sc (Str.ofString f) = true) (hok : okN (Str.ofString f) = true) (hgd : s.gd = true) (ok : GnOk X.N X.env.scope scope own) (hfold : ∀ v, genFold iter X.env v = pure v)
    (hi : SI tb X tg iter ρ ds ρ1) (hix : ∀ i ∈ ix, i ∈ own.map (·.2))
    (hb : ∀ x ρa q, fv x ρa = some q → ∃ ρ2 b ρ3, (∀ A s H C code fp, Room k A → A.guards = some [] → SG tb (Ev.gx X A s H (envG X scope C code) fp) tg ix (wipeE ρa (own.map (·.2))) x ρ2) ∧ (∀ A s H C code fp, Room k A → A.guards = some [] → STs tb (Ev.gx X A s H (envG X scope C code) fp) ifs ρ2 b ρ3) ∧
      ((b = false ∧ q = (none, ρ3)) ∨ (b = true ∧ ∃ op ρ4 d ρb, (∀ A s H C code fp, Room k A → A.guards = some [] → SE tb (Ev.gx X A s H (envG X scope C code) fp) elt ρ3 op ρ4) ∧ keepOp ρ4 op = some (d, ρb) ∧ q = (some d, ρb))))
    (h : evGen (gnSt f) fv ds [] ρ1 = some (out, ρn)) (hd : gnD f out = some d) :
    SE tb X (.Call (.Name (Str.ofString f) pn) [.GeneratorExp elt [⟨tg, iter, ifs, 0⟩] scope gpos] [] pos) ρ (.val d) (backE ρ1 ρn (own.map (·.2))) := by
  intro pa B F σ H r Q q pins sh I
  obtain ⟨c, P, hcode, TB, hP⟩ := o.tab hgd
  have hr := o.room5 hgd
  have he : starEach [.GeneratorExp elt [⟨tg, iter, ifs, 0⟩] scope gpos] X.env = (false, eval (.GeneratorExp elt [⟨tg, iter, ifs, 0⟩] scope gpos) X.env) :: starEach [] X.env := by rfl
  have hw := gn_ok (k := k) (scope := scope) (pa := pa) (B := B) (F := F) (σ := σ) (H := H) hP hi hix hb h r
  have hdb := (okN_ok hok).1
  have mk : ∀ (A : Around), Room (k + 3) A → A.frames = some X.stack → A.guards = some [] → ∀ {Q' : Value → Shared → Prop}, (∀ u s' Go La Fin, GFacts X.K (gnSt f) out (fun F' H' => Sm F F' ∧ Rel X.K tb pa B F' σ H' (backE ρ1 ρn (own.map (·.2)))) Go La Fin → Awake X pins σ A Go La Fin u s' → Q' u s') → wpAny (model X.prog X.w) X.A (eval (.GeneratorExp elt [⟨tg, iter, ifs, 0⟩] scope gpos) X.env) Q' X.xe sh := fun A hrA hfA hgA {Q'} hQ' => by
    refine gen_make hr TB hcode ok o.nd hfold I hw fun u s' M => ?_
    obtain ⟨Go, La, Fin, cf, M'⟩ := M.split
    exact hQ' u s' Go La Fin cf (gmk_wake (A := A) (k := k) (hrA.mono (by omega)) hfA hgA ok.co (gparts X k elt tg ifs scope) M')
  have hr1 : Room (k + 3) X.A.in1 := (hr.mono (show k + 4 ≤ k + 8 by omega)).in1
  have hr3 : Room (k + 3) X.A.in1.in1.in1 := (((hr.mono (show k + 6 ≤ k + 8 by omega)).in1).in1).in1
  unfold gnD at hd
  split at hd
  · simp only [Option.map_eq_some_iff] at hd
    obtain ⟨bs, h1, rfl⟩ := hd
    have hout := boolsD_all h1
    refine wpAny_Call_Name_kw (ld_blt I (glB_ok o hgl) (o.blt _ (by decide)) boot_all ?_)
    refine PyProof.Rows.callWith_builtin1 ?_ he (by rfl)
    rw [he]
    show wpAny _ _ (spliced ((false, eval (.GeneratorExp elt [⟨tg, iter, ifs, 0⟩] scope gpos) X.env) :: backTo pos (starEach [] X.env))) _ _ sh
    refine Calls.spliced_cons (mk X.A.in1 hr1 I.ok.frames o.grd fun u s' Go La Fin cf aw => ?_)
    refine Calls.spliced_nil ?_
    refine call_allG (x := .non) (hr.mono (by omega)) aw (fun ys y hg => ?_) (fun ys y H hl => ?_) (fun ys H hf => ?_)
    · obtain ⟨F', acc, d, a1, a2, a3, a4⟩ := cf.go ys y hg
      have hm : d ∈ out := a4.subset (List.mem_append_right _ (List.mem_singleton.mpr rfl))
      rw [hout] at hm
      obtain ⟨b, hb, rfl⟩ := List.mem_map.mp hm
      cases a2
      simp only [gnSt, Bool.not_eq_false'] at a3
      rw [a3]
    · obtain ⟨F', acc, d, a1, a2, a3, a4, a5, a6⟩ := cf.la ys y H hl
      have hm : d ∈ out := by rw [a4]; simp
      rw [hout] at hm
      obtain ⟨b, hb, rfl⟩ := List.mem_map.mp hm
      cases a2
      simp only [gnSt, Bool.not_eq_true'] at a3
      subst a3
      refine ⟨rfl, ?_⟩
      have : bs.all id = false := by
        rw [List.all_eq_false]
        exact ⟨false, hb, by simp⟩
      rw [this] at q
      exact q _ F' H a5 a6 (.bl false)
    · obtain ⟨F', a1, a2, a5, a6⟩ := cf.fin ys H hf
      have : bs.all id = true := by
        rw [List.all_eq_true]
        intro b hb
        have := a2 (.bool b) (by rw [hout]; exact List.mem_map.mpr ⟨b, hb, rfl⟩)
        simpa [gnSt] using this
      rw [this] at q
      exact q _ F' H a5 a6 (.bl true)
  · simp only [Option.map_eq_some_iff] at hd
    obtain ⟨bs, h1, rfl⟩ := hd
    have hout := boolsD_all h1
    refine wpAny_Call_Name_kw (ld_blt I (glB_ok o hgl) (o.blt _ (by decide)) boot_any ?_)
    refine PyProof.Rows.callWith_builtin1 ?_ he (by rfl)
    rw [he]
    show wpAny _ _ (spliced ((false, eval (.GeneratorExp elt [⟨tg, iter, ifs, 0⟩] scope gpos) X.env) :: backTo pos (starEach [] X.env))) _ _ sh
    refine Calls.spliced_cons (mk X.A.in1 hr1 I.ok.frames o.grd fun u s' Go La Fin cf aw => ?_)
    refine Calls.spliced_nil ?_
    refine call_anyG (x := .non) (hr.mono (by omega)) aw (fun ys y hg => ?_) (fun ys y H hl => ?_) (fun ys H hf => ?_)
    · obtain ⟨F', acc, d, a1, a2, a3, a4⟩ := cf.go ys y hg
      have hm : d ∈ out := a4.subset (List.mem_append_right _ (List.mem_singleton.mpr rfl))
      rw [hout] at hm
      obtain ⟨b, hb, rfl⟩ := List.mem_map.mp hm
      cases a2
      simp only [gnSt] at a3
      rw [a3]
    · obtain ⟨F', acc, d, a1, a2, a3, a4, a5, a6⟩ := cf.la ys y H hl
      have hm : d ∈ out := by rw [a4]; simp
      rw [hout] at hm
      obtain ⟨b, hb, rfl⟩ := List.mem_map.mp hm
      cases a2
      simp only [gnSt] at a3
      subst a3
      refine ⟨rfl, ?_⟩
      have : bs.any id = true := by
        rw [List.any_eq_true]
        exact ⟨true, hb, rfl⟩
      rw [this] at q
      exact q _ F' H a5 a6 (.bl true)
    · obtain ⟨F', a1, a2, a5, a6⟩ := cf.fin ys H hf
      have : bs.any id = false := by
        rw [List.any_eq_false]
        intro b hb
        have := a2 (.bool b) (by rw [hout]; exact List.mem_map.mpr ⟨b, hb, rfl⟩)
        simpa [gnSt] using this
      rw [this] at q
      exact q _ F' H a5 a6 (.bl false)
  · simp only [Option.map_eq_some_iff] at hd
    obtain ⟨ns, h1, rfl⟩ := hd
    have hout := intsD_all h1
    refine wpAny_Call_Name_kw (ld_blt I (glB_ok o hgl) (o.blt _ (by decide)) boot_sum ?_)
    refine PyProof.Rows.callWith_builtin1 ?_ he (by rfl)
    rw [he]
    show wpAny _ _ (spliced ((false, eval (.GeneratorExp elt [⟨tg, iter, ifs, 0⟩] scope gpos) X.env) :: backTo pos (starEach [] X.env))) _ _ sh
    refine Calls.spliced_cons (mk X.A.in1 hr1 I.ok.frames o.grd fun u s' Go La Fin cf aw => ?_)
    refine Calls.spliced_nil ?_
    refine call_sumG (hr.mono (by omega)) aw (fun ys y hg => ?_) (fun ys y H hl => ?_) (fun ys H hf => ?_)
    · obtain ⟨F', acc, d, a1, a2, a3, a4⟩ := cf.go ys y hg
      have hm : d ∈ out := a4.subset (List.mem_append_right _ (List.mem_singleton.mpr rfl))
      rw [hout] at hm
      obtain ⟨b, hb, rfl⟩ := List.mem_map.mp hm
      cases a2
      exact ⟨b, rfl⟩
    · obtain ⟨F', acc, d, a1, a2, a3, a4, a5, a6⟩ := cf.la ys y H hl
      have : gnSt "sum" d = false := by cases d <;> rfl
      rw [this] at a3
      cases a3
    · obtain ⟨F', a1, a2, a5, a6⟩ := cf.fin ys H hf
      have e : ys = ns.map V.int := intsD_ok a1 h1
      have : isum ys = ns.sum := by
        rw [e]; unfold isum
        rw [List.map_map]
        congr 1
        exact List.map_id _
      rw [this]
      exact q _ F' H a5 a6 (.int _)
  · split at hd
    · rename_i hlen
      cases hd
      have hlen : out.length ≤ sizeLine := of_decide_eq_true hlen
      refine wpAny_Call_Name_kw (ld_blt I (glB_ok o hgl) (o.blt _ (by decide)) boot_tuple ?_)
      refine PyProof.Rows.callWith_type1 ?_ he (by rfl)
      rw [he]
      show wpAny _ _ (spliced ((false, eval (.GeneratorExp elt [⟨tg, iter, ifs, 0⟩] scope gpos) X.env) :: backTo pos (starEach [] X.env))) _ _ sh
      refine Calls.spliced_cons (mk X.A.in1.in1.in1 hr3 I.ok.frames o.grd fun u s' Go La Fin cf aw => ?_)
      refine Calls.spliced_nil ?_
      refine call_tupG (hr.mono (by omega)) aw (fun ys y hg => ?_) (fun ys y H hl => ?_) (fun ys H hf => ?_)
      · obtain ⟨F', acc, d, a1, a2, a3, a4⟩ := cf.go ys y hg
        have h1 := a4.length_le
        rw [List.length_append] at h1
        simp only [List.length_cons, List.length_nil] at h1
        have h2 := RpAll.length a1
        omega
      · obtain ⟨F', acc, d, a1, a2, a3, a4, a5, a6⟩ := cf.la ys y H hl
        have : gnSt "tuple" d = false := by cases d <;> rfl
        rw [this] at a3
        cases a3
      · obtain ⟨F', a1, a2, a5, a6⟩ := cf.fin ys H hf
        refine ⟨by rw [RpAll.length a1]; exact hlen, fun p hp => ?_⟩
        obtain ⟨f0, b0⟩ := a6.wf.none hp
        exact q _ (upd F' p (.tup ys)) _ (a5.trans (Sm.upd f0)) ((a6.laid hp (.tup ys)).freeze upd_same (fun ps z => by cases z) f0 b0 (a6.off_none hp)) (.tup (SqT.of upd_same) (RpAll.mono (Sm.upd f0) a1))
    · cases hd
  · cases hd
end
end Ev

set_option maxHeartbeats 4000000
namespace Ev
open PySem PySem.Spec PyProof.Rows L2

section
variable {T : Tb} {tb : List Addr} {k : Nat} {s : Sc} {X : Cx} {a b c e tg : Expr} {es : List Expr} {ρ ρ1 ρ2 ρ3 : En} {oa ob oc op res : Op} {ops : List Op} {ds : List D} {d : D} {pa : Nat → Addr} {B F H : Hp} {σ : St} {pos : Pos} {r1 r2 : Bool}

/-! ### tests -/
def plainT : Expr → Bool
  | .UnaryOp .. => false
  | .BoolOp .. => false
  | .IfExp .. => false
  | .Compare .. => false
  | _ => true
theorem plainT_eq {e : Expr} (h : plainT e = true) (env : Env) (whole : Sem Value) : isTrue e env whole = (do let v ← whole; standAt e.pos; holding [v] (truthy v)) := by
  cases e <;> first | rfl | cases h
theorem tru_of {K : PySem.W.Frag} {x : V} {t : Bool} (v : Vw K F H x d) (m : Sm F H) (h : trD d = some t) : TruV K x H t := by
  cases v with
  | non => cases h; rfl
  | bl b => cases h; rfl
  | int i => cases h; rfl
  | str y => cases h
  | lst a b =>
    cases h
    refine .inl ⟨_, .inl a, ?_⟩
    cases b <;> rfl
  | tup a b =>
    cases h
    refine .inr (.inl ⟨_, SqT.mono m a, ?_⟩)
    cases b <;> rfl
theorem st_val {t : Bool} (hp : plainT a = true) (ha : SE tb X a ρ op ρ1) (hd : viewOp ρ1 op = some d) (ht : trD d = some t) : ST tb X a ρ t ρ1 := by
  intro pa B F σ H r Q q
  refine wt_of (pt_truth (pe_we X a) (plainT_eq hp X.env)) (ha.use r hd fun x F' H' s' r' v => ?_)
  exact ⟨t, tru_of v r'.wf.fz ht, q F' H' s' r'⟩
theorem st_not {t : Bool} (ha : ST tb X a ρ t ρ1) : ST tb X (.UnaryOp .Not a pos) ρ (!t) ρ1 := by
  intro pa B F σ H r Q q pins s I
  exact isTrue_not (ha pa B F σ H r (fun c H1 => Q (!c) H1) (fun F' H' s' r' => q F' H' s' r') pins s I)
theorem st_andT {rest : List Expr} {t : Bool} (ha : ST tb X a ρ true ρ1) (hb : ST tb X (.BoolOp .And rest pos) ρ1 t ρ2) : ST tb X (.BoolOp .And (a :: rest) pos) ρ t ρ2 := by
  intro pa B F σ H r Q q pins s I
  refine isTrue_and (thn (ha pa B F σ H r (fun c H1 => c = true ∧ WT X (.BoolOp .And rest pos) σ H1 Q) (fun F' H' s' r' => ⟨rfl, hb pa B F' σ H' r' Q fun F2 H2 s2 r2 => q F2 H2 (s'.trans s2) r2⟩) pins s I) fun c s1 ⟨H1, I1, hc, h⟩ => ?_)
  subst hc
  rw [if_pos rfl]
  exact h pins s1 I1
theorem st_andF {rest : List Expr} (ha : ST tb X a ρ false ρ1) : ST tb X (.BoolOp .And (a :: rest) pos) ρ false ρ1 := by
  intro pa B F σ H r Q q pins s I
  refine isTrue_and (thn (ha pa B F σ H r (fun c H1 => c = false ∧ Q false H1) (fun F' H' s' r' => ⟨rfl, q F' H' s' r'⟩) pins s I) fun c s1 ⟨H1, I1, hc, h⟩ => ?_)
  subst hc
  rw [if_neg Bool.false_ne_true]
  exact ⟨H1, I1, h⟩
theorem st_orF {rest : List Expr} {t : Bool} (ha : ST tb X a ρ false ρ1) (hb : ST tb X (.BoolOp .Or rest pos) ρ1 t ρ2) : ST tb X (.BoolOp .Or (a :: rest) pos) ρ t ρ2 := by
  intro pa B F σ H r Q q pins s I
  refine isTrue_or (thn (ha pa B F σ H r (fun c H1 => c = false ∧ WT X (.BoolOp .Or rest pos) σ H1 Q) (fun F' H' s' r' => ⟨rfl, hb pa B F' σ H' r' Q fun F2 H2 s2 r2 => q F2 H2 (s'.trans s2) r2⟩) pins s I) fun c s1 ⟨H1, I1, hc, h⟩ => ?_)
  subst hc
  rw [if_neg Bool.false_ne_true]
  exact h pins s1 I1
theorem st_orT {rest : List Expr} (ha : ST tb X a ρ true ρ1) : ST tb X (.BoolOp .Or (a :: rest) pos) ρ true ρ1 := by
  intro pa B F σ H r Q q pins s I
  refine isTrue_or (thn (ha pa B F σ H r (fun c H1 => c = true ∧ Q true H1) (fun F' H' s' r' => ⟨rfl, q F' H' s' r'⟩) pins s I) fun c s1 ⟨H1, I1, hc, h⟩ => ?_)
  subst hc
  rw [if_pos rfl]
  exact ⟨H1, I1, h⟩
theorem st_one {o : BoolOp} {t : Bool} (ha : ST tb X a ρ t ρ1) : ST tb X (.BoolOp o [a] pos) ρ t ρ1 := by
  intro pa B F σ H r Q q pins s I
  cases o with
  | And =>
    refine isTrue_and (thn (ha pa B F σ H r Q q pins s I) fun c s1 ⟨H1, I1, h⟩ => ?_)
    cases c
    · exact ⟨H1, I1, h⟩
    · exact isTrue_and_nil ⟨H1, I1, h⟩
  | Or =>
    refine isTrue_or (thn (ha pa B F σ H r Q q pins s I) fun c s1 ⟨H1, I1, h⟩ => ?_)
    cases c
    · exact isTrue_or_nil ⟨H1, I1, h⟩
    · exact ⟨H1, I1, h⟩
theorem sts_nil : STs tb X [] ρ true ρ := fun pa B F σ H r Q q => wts_of pts_nil (q F H (Sm.refl _) r)
theorem sts_one {t : Bool} (h : ST tb X c ρ t ρ1) : STs tb X [c] ρ t ρ1 := fun pa B F σ H r Q q => wts_of (pts_one (pt_wt X c)) (h pa B F σ H r Q q)

/-! ### targets -/
theorem stB_ok (o : XOk T tb k s X) {x : Str} (h : stB s x = true) : Loc X.env.scope x ∧ (X.fn x = true ∨ X.env.scope.names.lookup x = some .local) := by
  unfold stB at h
  rw [o.sc]
  split at h
  · rename_i e; exact ⟨.inl e, .inr e⟩
  · rename_i e; exact ⟨.inr e, .inl (o.fn x h)⟩
  · cases h
theorem sg_nm (o : XOk T tb k s X) {i : Nat} {x : Str} (hN : s.N[i]? = some x) (hs : stB s x = true) (h : setE ρ i (.v d) = some ρ1) : SG tb X (.Name x pos) [i] ρ d ρ1 := by
  intro pa B F σ H y r rp Q q
  unfold setE at h
  split at h
  · rename_i hi
    cases h
    obtain ⟨h1, h2⟩ := stB_ok o hs
    refine wg_of (pg_name o.nd (by rw [o.nm]; exact hN) h1 h2) (q _ (r.store rp (of_decide_eq_true hi)) fun vs hv => wipe_set (hv i List.mem_cons_self))
  · cases h
def WGs (X : Cx) (es : List Expr) : TGs := fun vs σ H Q => ∀ (pins : List (Addr × Obj)) (s : Shared) (us : List Value), Inv X pins σ H s → Vals vs us →
  wpAny (model X.prog X.w) X.A (assignInOrder ((assignEach es X.env).map (·.2)) us) (fun _ s' => ∃ σ' H', Inv X pins σ' H' s' ∧ Q σ' H') X.xe s
theorem pgs_wgs (X : Cx) (es : List Expr) : PGs X es (WGs X es) := ⟨fun pins s σ H vs us Q I r h => h pins s us I r⟩
theorem wgs_of {t : TGs} {vs : List V} {Q : St → Hp → Prop} (h : PGs X es t) (q : t vs σ H Q) : WGs X es vs σ H Q := fun pins s us I r => h.run pins s σ H vs us Q I r q
def SGs (tb : List Addr) (X : Cx) (es : List Expr) (ix : List Nat) (ρ : En) (ds : List D) (ρ' : En) : Prop := ∀ pa B F σ H xs, Rel X.K tb pa B F σ H ρ → RpAll X.K F xs ds → ∀ Q : St → Hp → Prop, (∀ σ', Rel X.K tb pa B F σ' H ρ' → (∀ vs : List Nat, (∀ i ∈ ix, i ∈ vs) → wipe σ' vs = wipe σ vs) → Q σ' H) → WGs X es xs σ H Q
theorem sgs_nil : SGs tb X [] [] ρ [] ρ := fun pa B F σ H xs r rp Q q => by
  cases rp
  exact wgs_of pgs_nil ⟨rfl, q σ r fun vs _ => rfl⟩
theorem asg_cons {e : Expr} (h : noStar e = true) (es : List Expr) (env : Env) : assignEach (e :: es) env = (false, assign e env) :: assignEach es env := by
  cases e <;> first | rfl | cases h
theorem asg_plain : ∀ {es : List Expr} (env : Env), (∀ e ∈ es, noStar e = true) → (assignEach es env).length = es.length ∧ (assignEach es env).findIdx? (·.1) = none
  | [], _, _ => ⟨rfl, rfl⟩
  | e :: es, env, h => by
    rw [asg_cons (h e List.mem_cons_self)]
    obtain ⟨a, b⟩ := asg_plain env fun e' he => h e' (List.mem_cons_of_mem _ he)
    exact ⟨by rw [List.length_cons, List.length_cons, a], by rw [List.findIdx?_cons, b]; rfl⟩
theorem sgs_cons {ix jx : List Nat} (hn : noStar e = true) (h1 : SG tb X e ix ρ d ρ1) (h2 : SGs tb X es jx ρ1 ds ρ2) : SGs tb X (e :: es) (ix ++ jx) ρ (d :: ds) ρ2 := by
  intro pa B F σ H xs r rp Q q
  cases rp with
  | cons a rr =>
    refine wgs_of (pgs_cons (pg_wg X e) (pgs_wgs X es) (by rw [asg_cons hn]; rfl)) ⟨_, _, rfl, ?_⟩
    refine h1 pa B F σ H _ r a _ fun σ1 r1 w1 => ?_
    refine h2 pa B F σ1 H _ r1 rr _ fun σ2 r2 w2 => q σ2 r2 fun vs hv => ?_
    rw [w2 vs fun i hi => hv i (List.mem_append_right _ hi), w1 vs fun i hi => hv i (List.mem_append_left _ hi)]
theorem sg_tup (o : XOk T tb k s X) {j : Nat} {ix : List Nat} (hn : ∀ e ∈ es, noStar e = true) (h : SGs tb X es ix ρ ds ρ1) (hl : es.length = ds.length) : SG tb X (.Tuple es j pos) ix ρ (.tuple ds) ρ1 := by
  intro pa B F σ H y r rp Q q
  obtain ⟨h1, h2⟩ := asg_plain X.env hn
  cases rp with
  | tup a b =>
    refine wg_of (pg_tup o.calm (pgs_wgs X es) h1 h2) ⟨_, _, rfl, SqT.mono r.wf.fz a, by rw [RpAll.length b]; exact hl.symm, ?_⟩
    exact h pa B F σ H _ r b Q q

/-! ### what loops walk -/
theorem wk_list {K : PySem.W.Frag} {a : Addr} {xs : List V} (h : Rd F a (.lst xs)) (rp : RpAll K F xs ds) : Wk K F (Itl K a) ds := by
  have l := RpAll.length rp
  refine ⟨fun i H m hi => ⟨xs, xs[i]'(by omega), .inl (Rd.mono m h), List.getElem?_eq_getElem _⟩, fun i H m hi => ⟨xs, .inl (Rd.mono m h), by omega⟩, fun i H x H' d m hd hy => ?_⟩
  obtain ⟨rfl, q⟩ := hy
  obtain ⟨x', e1, e2⟩ := RpAll.get rp hd
  have := q xs (.inl (Rd.mono m h))
  rw [e1] at this; cases this
  exact .inl ⟨rfl, e2⟩
theorem wk_tup {K : PySem.W.Frag} {a : Addr} {xs : List V} (h : SqT K F a xs) (rp : RpAll K F xs ds) : Wk K F (Itt K a) ds := by
  have l := RpAll.length rp
  refine ⟨fun i H m hi => ⟨xs, xs[i]'(by omega), SqT.mono m h, List.getElem?_eq_getElem _⟩, fun i H m hi => ⟨xs, SqT.mono m h, by omega⟩, fun i H x H' d m hd hy => ?_⟩
  obtain ⟨rfl, q⟩ := hy
  obtain ⟨x', e1, e2⟩ := RpAll.get rp hd
  have := q xs (SqT.mono m h)
  rw [e1] at this; cases this
  exact .inl ⟨rfl, e2⟩
theorem wk_rng {K : PySem.W.Frag} (lo : Int) (n : Nat) : Wk K F (Itr lo n) (rngD lo n) := by
  have l : (rngD lo n).length = n := by unfold rngD; rw [List.length_map, List.length_range]
  refine ⟨fun i H m hi => (by rw [l] at hi; exact hi), fun i H m hi => (by rw [l] at hi; exact hi), fun i H x H' d m hd hy => ?_⟩
  obtain ⟨rfl, rfl⟩ := hy
  have hi : i < n := by
    have := (List.getElem?_eq_some_iff.mp hd).1
    rw [l] at this; exact this
  unfold rngD at hd
  rw [List.getElem?_map, List.getElem?_range hi] at hd
  cases hd
  exact .inl ⟨rfl, .int _⟩
theorem si_ex (ha : SE tb X a ρ op ρ1) (hk : keepOp ρ1 op = some (d, ρ2)) (hd : d = .list ds ∨ d = .tuple ds) : SI tb X tg a ρ ds ρ2 := by
  intro pa B F σ H r R q
  rcases hd with rfl | rfl
  · refine wi_of (pi_list (pe_we X a)) (ha pa B F σ H r _ fun x F' H' s' r' o' => ?_)
    obtain ⟨F2, s2, r2, dp⟩ := keep_ok r' o' hk
    cases dp with
    | lst h1 h2 => exact ⟨_, rfl, ⟨_, .inl (Rd.mono r2.wf.fz h1)⟩, q _ F2 H' (s'.trans s2) r2 (wk_list h1 h2)⟩
  · refine wi_of (pi_tup (pe_we X a)) (ha pa B F σ H r _ fun x F' H' s' r' o' => ?_)
    obtain ⟨F2, s2, r2, dp⟩ := keep_ok r' o' hk
    cases dp with
    | tup h1 h2 => exact ⟨_, rfl, ⟨_, SqT.mono r2.wf.fz h1⟩, q _ F2 H' (s'.trans s2) r2 (wk_tup h1 h2)⟩
theorem pa_one (hn : noStar a = true) : PA X [a] (fun σ H Q => WE X a σ H fun x H1 => Q [x] H1) := ⟨fun pos pins s σ H Q I h => (pa_cons (pe_we X a) pa_nil (noStar_eq hn _ _)).run pos pins s σ H Q I h⟩
theorem rngOk_iff {i : Int} (h : rngOk i = true) : -(2 ^ 62) ≤ i ∧ i < 2 ^ 62 := of_decide_eq_true h
theorem si_r1 (o : XOk T tb k s X) {j : Int} {P : Pos} (hg : glB s.sc "range" = true) (hn : noStar a = true) (ha : SE tb X a ρ op ρ1) (hd : viewOp ρ1 op = some (.int j)) (hj : rngOk j = true) : SI tb X tg (.Call (.Name "range" P) [a] [] pos) ρ (rngD 0 j.toNat) ρ1 := by
  intro pa B F σ H r R q
  obtain ⟨h1, h2⟩ := rngOk_iff hj
  refine wi_of (pi_range1 (glB_ok o hg) (o.blt _ (by decide)) (pa_cons (pe_we X a) pa_nil (noStar_eq hn _ _)) (noStar_eq hn [] X.env)) ?_
  refine ha.use r hd fun x F' H' s' r' v => ?_
  exact ⟨j, by rw [v.intE], h1, h2, q _ F' H' s' r' (wk_rng _ _)⟩
theorem si_r2 (o : XOk T tb k s X) {i j : Int} {P : Pos} (hg : glB s.sc "range" = true) (hn : noStar a = true) (hn2 : noStar b = true) (ha : SE tb X a ρ oa ρ1) (hb : SE tb X b ρ1 ob ρ2) (hd : viewOp ρ2 oa = some (.int i)) (hd2 : viewOp ρ2 ob = some (.int j)) (hi : rngOk i = true) (hj : rngOk j = true) :
    SI tb X tg (.Call (.Name "range" P) [a, b] [] pos) ρ (rngD i (j - i).toNat) ρ2 := by
  intro pa B F σ H r R q
  obtain ⟨h1, h2⟩ := rngOk_iff hi
  obtain ⟨h3, h4⟩ := rngOk_iff hj
  refine wi_of (pi_range2 (glB_ok o hg) (o.blt _ (by decide)) (pa_cons (pe_we X a) (pa_cons (pe_we X b) pa_nil (noStar_eq hn2 _ _)) (noStar_eq hn _ _)) ((noStar_eq hn [b] X.env).trans (by rw [noStar_eq hn2]; rfl)) (noStar_eq hn2 [] X.env)) ?_
  refine SE.two' ha hb r hd hd2 fun x y F' H' s1 r1 v1 v2 => ?_
  exact ⟨i, j, by rw [v1.intE, v2.intE], ⟨h1, h2, h3, h4⟩, q _ F' H' s1 r1 (wk_rng _ _)⟩
theorem wk_rngC {K : PySem.W.Frag} (lo c : Int) (n : Nat) : Wk K F (Itc lo c n) (rngC lo c n) := by
  have l : (rngC lo c n).length = n := by unfold rngC; rw [List.length_map, List.length_range]
  refine ⟨fun i H m hi => (by rw [l] at hi; exact hi), fun i H m hi => (by rw [l] at hi; exact hi), fun i H x H' d m hd hy => ?_⟩
  obtain ⟨rfl, rfl⟩ := hy
  have hi : i < n := by
    have := (List.getElem?_eq_some_iff.mp hd).1
    rw [l] at this; exact this
  unfold rngC at hd
  rw [List.getElem?_map, List.getElem?_range hi] at hd
  cases hd
  exact .inl ⟨rfl, .int _⟩
theorem VwAll.three {K : PySem.W.Frag} {F H : Hp} {xs : List V} {d e f : D} (h : VwAll K F H xs [d, e, f]) : ∃ x y z, xs = [x, y, z] ∧ Vw K F H x d ∧ Vw K F H y e ∧ Vw K F H z f := by
  cases h with
  | cons a r =>
    cases r with
    | cons b r =>
      cases r with
      | cons c r => cases r; exact ⟨_, _, _, rfl, a, b, c⟩
theorem si_r3 (o : XOk T tb k s X) {i j : Int} {P : Pos} (hg : glB s.sc "range" = true) (hn : ∀ e' ∈ [a, b, c], noStar e' = true) (ha : SA tb X [a, b, c] ρ ops ρ1) (hd : viewL ρ1 ops = some [.int i, .int j, .int (-1)]) (hi : rngOk i = true) (hj : rngOk j = true) :
    SI tb X tg (.Call (.Name "range" P) [a, b, c] [] pos) ρ (rngC i (-1) (i - j).toNat) ρ1 := by
  intro pa B F σ H r R q
  obtain ⟨h1, h2⟩ := rngOk_iff hi
  obtain ⟨h3, h4⟩ := rngOk_iff hj
  refine wi_of (pi_range3 (glB_ok o hg) (o.blt _ (by decide)) (pa_wa X [a, b, c]) (noStar_eq (hn a List.mem_cons_self) _ _) (noStar_any _ _ fun e' he => hn e' (List.mem_cons_of_mem _ he))) ?_
  refine ha pa B F σ H r _ fun xs F' H' s' r' os => ?_
  obtain ⟨x, y, z, rfl, v1, v2, v3⟩ := (viewL_ok r' os hd).three
  exact ⟨i, j, -1, _, by rw [v1.intE, v2.intE, v3.intE], RgC.neg h1 h2 h3 h4, q _ F' H' s' r' (wk_rngC _ _ _)⟩
theorem enumD_get {ds : List D} {i : Nat} {d : D} (h : (enumD ds)[i]? = some d) : ∃ d', ds[i]? = some d' ∧ d = .tuple [.int (i : Nat), d'] := by
  unfold enumD at h
  rw [List.getElem?_zipWith] at h
  split at h
  · rename_i x y hx hy
    cases h
    have hi := (List.getElem?_eq_some_iff.mp hx).1
    rw [List.length_range] at hi
    rw [List.getElem?_range hi] at hx
    cases hx
    exact ⟨y, hy, rfl⟩
  · cases h
theorem enumD_len (ds : List D) : (enumD ds).length = ds.length := by unfold enumD; rw [List.length_zipWith, List.length_range, Nat.min_self]
theorem wk_enum {K : PySem.W.Frag} {a : Addr} {xs : List V} (h : Rd F a (.lst xs)) (rp : RpAll K F xs ds) : Wk K F (Ite K a) (enumD ds) := by
  have l := RpAll.length rp
  have l2 := enumD_len ds
  refine ⟨fun i H m hi => ⟨xs, xs[i]'(by omega), .inl (Rd.mono m h), List.getElem?_eq_getElem _⟩, fun i H m hi => ⟨xs, .inl (Rd.mono m h), by omega⟩, fun i H x H' d m hd hy => ?_⟩
  obtain ⟨T, y, rfl, hT, rfl, q⟩ := hy
  obtain ⟨d', e1, rfl⟩ := enumD_get hd
  obtain ⟨x', e2, e3⟩ := RpAll.get rp e1
  have := q xs (.inl (Rd.mono m h))
  rw [e2] at this; cases this
  exact .inr ⟨T, _, _, rfl, hT, rfl, rfl, .cons (.int _) (.cons e3 .nil)⟩
theorem zipD_get {xs ys : List D} {i : Nat} {d : D} (h : (zipD xs ys)[i]? = some d) : ∃ x y, xs[i]? = some x ∧ ys[i]? = some y ∧ d = .tuple [x, y] := by
  unfold zipD at h
  rw [List.getElem?_zipWith] at h
  split at h
  · rename_i x y hx hy
    cases h
    exact ⟨x, y, hx, hy, rfl⟩
  · cases h
theorem zipD_len (xs ys : List D) : (zipD xs ys).length = min xs.length ys.length := by unfold zipD; rw [List.length_zipWith]
theorem wk_zip {K : PySem.W.Frag} {a b : Addr} {xs ys : List V} {ds es : List D} (h : Rd F a (.lst xs)) (rp : RpAll K F xs ds) (h2 : Rd F b (.lst ys)) (rp2 : RpAll K F ys es) : Wk K F (Itz K a b) (zipD ds es) := by
  have l := RpAll.length rp
  have l' := RpAll.length rp2
  have l2 := zipD_len ds es
  refine ⟨fun i H m hi => ⟨xs, ys, xs[i]'(by omega), ys[i]'(by omega), .inl (Rd.mono m h), .inl (Rd.mono m h2), List.getElem?_eq_getElem _, List.getElem?_eq_getElem _⟩, fun i H m hi => ⟨xs, ys, .inl (Rd.mono m h), .inl (Rd.mono m h2), by omega⟩, fun i H x H' d m hd hy => ?_⟩
  obtain ⟨T, y, z, rfl, hT, rfl, q, q2⟩ := hy
  obtain ⟨d1, d2, e1, e2, rfl⟩ := zipD_get hd
  obtain ⟨x1, e3, e4⟩ := RpAll.get rp e1
  obtain ⟨x2, e5, e6⟩ := RpAll.get rp2 e2
  have := q xs (.inl (Rd.mono m h))
  rw [e3] at this; cases this
  have := q2 ys (.inl (Rd.mono m h2))
  rw [e5] at this; cases this
  exact .inr ⟨T, _, _, rfl, hT, rfl, rfl, .cons e4 (.cons e6 .nil)⟩
theorem wk_zipT {K : PySem.W.Frag} {a b : Addr} {xs ys : List V} {ds es : List D} (h : SqT K F a xs) (rp : RpAll K F xs ds) (h2 : SqT K F b ys) (rp2 : RpAll K F ys es) : Wk K F (RZ.ItzT K a b) (zipD ds es) := by
  have l := RpAll.length rp
  have l' := RpAll.length rp2
  have l2 := zipD_len ds es
  refine ⟨fun i H m hi => ⟨xs, ys, xs[i]'(by omega), ys[i]'(by omega), SqT.mono m h, SqT.mono m h2, List.getElem?_eq_getElem _, List.getElem?_eq_getElem _⟩, fun i H m hi => ⟨xs, ys, SqT.mono m h, SqT.mono m h2, by omega⟩, fun i H x H' d m hd hy => ?_⟩
  obtain ⟨T, y, z, rfl, hT, rfl, q, q2⟩ := hy
  obtain ⟨d1, d2, e1, e2, rfl⟩ := zipD_get hd
  obtain ⟨x1, e3, e4⟩ := RpAll.get rp e1
  obtain ⟨x2, e5, e6⟩ := RpAll.get rp2 e2
  have := q xs (SqT.mono m h)
  rw [e3] at this; cases this
  have := q2 ys (SqT.mono m h2)
  rw [e5] at this; cases this
  exact .inr ⟨T, _, _, rfl, hT, rfl, rfl, .cons e4 (.cons e6 .nil)⟩
theorem si_en (o : XOk T tb k s X) {P tpos : Pos} {elts : List Expr} {kk : Nat} (hg : glB s.sc "enumerate" = true) (hn : noStar a = true) (ha : SE tb X a ρ op ρ1) (hk : keepOp ρ1 op = some (.list ds, ρ2)) : SI tb X (.Tuple elts kk tpos) (.Call (.Name "enumerate" P) [a] [] pos) ρ (enumD ds) ρ2 := by
  intro pa B F σ H r R q
  refine wi_of (pi_enum (glB_ok o hg) (o.blt _ (by decide)) (pa_cons (pe_we X a) pa_nil (noStar_eq hn _ _)) (noStar_eq hn [] X.env)) ?_
  refine ha pa B F σ H r _ fun x F' H' s' r' o' => ?_
  obtain ⟨F2, s2, r2, dp⟩ := keep_ok r' o' hk
  cases dp with
  | lst h1 h2 => exact ⟨_, _, rfl, .inl (Rd.mono r2.wf.fz h1), q _ F2 H' (s'.trans s2) r2 (wk_enum h1 h2)⟩
theorem si_zp (o : XOk T tb k s X) {P tpos : Pos} {elts : List Expr} {kk : Nat} {xs ys : List D} {da db : D} (hg : glB s.sc "zip" = true) (hn : noStar a = true) (hn2 : noStar b = true) (ha : SE tb X a ρ oa ρ1) (hb : SE tb X b ρ1 ob ρ2) (hk : keepL ρ2 [oa, ob] = some ([da, db], ρ3))
    (hd : (da = .list xs ∧ db = .list ys) ∨ (da = .tuple xs ∧ db = .tuple ys)) : SI tb X (.Tuple elts kk tpos) (.Call (.Name "zip" P) [a, b] [] pos) ρ (zipD xs ys) ρ3 := by
  intro pa B F σ H r R q
  refine wi_of (RZ.pi_zipA (glB_ok o hg) (o.blt _ (by decide)) (pa_wa X [a, b]) (noStar_eq hn _ _) (noStar_any _ _ fun e' he => by
    rcases List.mem_cons.mp he with rfl | he
    · exact hn2
    · cases he)) ?_
  refine sa_cons hn ha (sa_cons hn2 hb sa_nil) pa B F σ H r _ fun zs F' H' s' r' os => ?_
  obtain ⟨F2, s2, r2, dp⟩ := keepL_ok r' os hk
  cases dp with
  | cons d1 dp =>
    cases dp with
    | cons d2 dp =>
      cases dp
      rcases hd with ⟨rfl, rfl⟩ | ⟨rfl, rfl⟩
      · cases d1 with
        | lst h1 h2 =>
          cases d2 with
          | lst h3 h4 => exact ⟨_, _, _, _, rfl, .inl ⟨.inl (Rd.mono r2.wf.fz h1), .inl (Rd.mono r2.wf.fz h3), q _ F2 H' (s'.trans s2) r2 (wk_zip h1 h2 h3 h4)⟩⟩
      · cases d1 with
        | tup h1 h2 =>
          cases d2 with
          | tup h3 h4 => exact ⟨_, _, _, _, rfl, .inr ⟨SqT.mono r2.wf.fz h1, SqT.mono r2.wf.fz h3, q _ F2 H' (s'.trans s2) r2 (wk_zipT h1 h2 h3 h4)⟩⟩
theorem zipD3_get {xs ys zs : List D} {i : Nat} {d : D} (h : (zipD3 xs ys zs)[i]? = some d) : ∃ x y z, xs[i]? = some x ∧ ys[i]? = some y ∧ zs[i]? = some z ∧ d = .tuple [x, y, z] := by
  unfold zipD3 at h
  rw [List.getElem?_zipWith] at h
  split at h
  · rename_i x p hx hp
    cases h
    obtain ⟨hy, hz⟩ := List.getElem?_zip_eq_some.mp hp
    exact ⟨x, p.1, p.2, hx, hy, hz, rfl⟩
  · cases h
theorem zipD3_len (xs ys zs : List D) : (zipD3 xs ys zs).length = min xs.length (min ys.length zs.length) := by unfold zipD3; rw [List.length_zipWith, List.length_zip]
theorem wk_zip3 {K : PySem.W.Frag} {a b c : Addr} {xs ys zs : List V} {ds es fs : List D} (h : SqT K F a xs) (rp : RpAll K F xs ds) (h2 : SqT K F b ys) (rp2 : RpAll K F ys es) (h3 : SqT K F c zs) (rp3 : RpAll K F zs fs) : Wk K F (Z3.Itz3 K a b c) (zipD3 ds es fs) := by
  have l := RpAll.length rp
  have l' := RpAll.length rp2
  have l'' := RpAll.length rp3
  have l2 := zipD3_len ds es fs
  refine ⟨fun i H m hi => ⟨xs, ys, zs, xs[i]'(by omega), ys[i]'(by omega), zs[i]'(by omega), SqT.mono m h, SqT.mono m h2, SqT.mono m h3, List.getElem?_eq_getElem _, List.getElem?_eq_getElem _, List.getElem?_eq_getElem _⟩, fun i H m hi => ⟨xs, ys, zs, SqT.mono m h, SqT.mono m h2, SqT.mono m h3, by omega⟩, fun i H x H' d m hd hy => ?_⟩
  obtain ⟨T, y, z, u, rfl, hT, rfl, q, q2, q3⟩ := hy
  obtain ⟨d1, d2, d3, e1, e2, e9, rfl⟩ := zipD3_get hd
  obtain ⟨x1, e3, e4⟩ := RpAll.get rp e1
  obtain ⟨x2, e5, e6⟩ := RpAll.get rp2 e2
  obtain ⟨x3, e7, e8⟩ := RpAll.get rp3 e9
  have := q xs (SqT.mono m h)
  rw [e3] at this; cases this
  have := q2 ys (SqT.mono m h2)
  rw [e5] at this; cases this
  have := q3 zs (SqT.mono m h3)
  rw [e7] at this; cases this
  exact .inr ⟨T, _, _, rfl, hT, rfl, rfl, .cons e4 (.cons e6 (.cons e8 .nil))⟩
theorem wk_enumT {K : PySem.W.Frag} {a : Addr} {xs : List V} (h : SqT K F a xs) (rp : RpAll K F xs ds) : Wk K F (Z3.IteT K a) (enumD ds) := by
  have l := RpAll.length rp
  have l2 := enumD_len ds
  refine ⟨fun i H m hi => ⟨xs, xs[i]'(by omega), SqT.mono m h, List.getElem?_eq_getElem _⟩, fun i H m hi => ⟨xs, SqT.mono m h, by omega⟩, fun i H x H' d m hd hy => ?_⟩
  obtain ⟨T, y, rfl, hT, rfl, q⟩ := hy
  obtain ⟨d', e1, rfl⟩ := enumD_get hd
  obtain ⟨x', e2, e3⟩ := RpAll.get rp e1
  have := q xs (SqT.mono m h)
  rw [e2] at this; cases this
  exact .inr ⟨T, _, _, rfl, hT, rfl, rfl, .cons (.int _) (.cons e3 .nil)⟩
theorem si_enT (o : XOk T tb k s X) {P tpos : Pos} {elts : List Expr} {kk : Nat} (hg : glB s.sc "enumerate" = true) (hn : noStar a = true) (ha : SE tb X a ρ op ρ1) (hk : keepOp ρ1 op = some (.tuple ds, ρ2)) : SI tb X (.Tuple elts kk tpos) (.Call (.Name "enumerate" P) [a] [] pos) ρ (enumD ds) ρ2 := by
  intro pa B F σ H r R q
  refine wi_of (Z3.pi_enT (glB_ok o hg) (o.blt _ (by decide)) (pa_cons (pe_we X a) pa_nil (noStar_eq hn _ _)) (noStar_eq hn [] X.env)) ?_
  refine ha pa B F σ H r _ fun x F' H' s' r' o' => ?_
  obtain ⟨F2, s2, r2, dp⟩ := keep_ok r' o' hk
  cases dp with
  | tup h1 h2 => exact ⟨_, _, rfl, SqT.mono r2.wf.fz h1, q _ F2 H' (s'.trans s2) r2 (wk_enumT h1 h2)⟩
theorem si_zp3 (o : XOk T tb k s X) {P tpos : Pos} {elts : List Expr} {kk : Nat} {xs ys zs : List D} (hg : glB s.sc "zip" = true) (hn : ∀ e' ∈ [a, b, c], noStar e' = true) (ha : SA tb X [a, b, c] ρ ops ρ1) (hk : keepL ρ1 ops = some ([.tuple xs, .tuple ys, .tuple zs], ρ2)) : SI tb X (.Tuple elts kk tpos) (.Call (.Name "zip" P) [a, b, c] [] pos) ρ (zipD3 xs ys zs) ρ2 := by
  intro pa B F σ H r R q
  refine wi_of (Z3.pi_zip3 (glB_ok o hg) (o.blt _ (by decide)) (pa_wa X [a, b, c]) (noStar_eq (hn a List.mem_cons_self) _ _) (noStar_any _ _ fun e' he => hn e' (List.mem_cons_of_mem _ he))) ?_
  refine ha pa B F σ H r _ fun vs F' H' s' r' os => ?_
  obtain ⟨F2, s2, r2, dp⟩ := keepL_ok r' os hk
  cases dp with
  | cons d1 dp =>
    cases dp with
    | cons d2 dp =>
      cases dp with
      | cons d3 dp =>
        cases dp
        cases d1 with
        | tup h1 h2 =>
          cases d2 with
          | tup h3 h4 =>
            cases d3 with
            | tup h5 h6 => exact ⟨_, _, _, _, _, _, rfl, SqT.mono r2.wf.fz h1, SqT.mono r2.wf.fz h3, SqT.mono r2.wf.fz h5, q _ F2 H' (s'.trans s2) r2 (wk_zip3 h1 h2 h3 h4 h5 h6)⟩
theorem si_zps (o : XOk T tb k s X) {P sp tpos : Pos} {elts : List Expr} {kk : Nat} {xs ys zs : List D} (hg : glB s.sc "zip" = true) (ha : SE tb X a ρ op ρ1) (hk : keepOp ρ1 op = some (.tuple [.tuple xs, .tuple ys, .tuple zs], ρ2)) : SI tb X (.Tuple elts kk tpos) (.Call (.Name "zip" P) [.Starred a sp] [] pos) ρ (zipD3 xs ys zs) ρ2 := by
  intro pa B F σ H r R q
  refine wi_of (Z3.pi_zipS (glB_ok o hg) (o.blt _ (by decide)) (pe_we X a)) ?_
  refine ha pa B F σ H r _ fun x F' H' s' r' o' => ?_
  obtain ⟨F2, s2, r2, dp⟩ := keep_ok r' o' hk
  cases dp with
  | tup h0 dp =>
    cases dp with
    | cons d1 dp =>
      cases dp with
      | cons d2 dp =>
        cases dp with
        | cons d3 dp =>
          cases dp
          cases d1 with
          | tup h1 h2 =>
            cases d2 with
            | tup h3 h4 =>
              cases d3 with
              | tup h5 h6 => exact ⟨_, _, _, _, _, _, _, rfl, SqT.mono r2.wf.fz h0, SqT.mono r2.wf.fz h1, SqT.mono r2.wf.fz h3, SqT.mono r2.wf.fz h5, q _ F2 H' (s'.trans s2) r2 (wk_zip3 h1 h2 h3 h4 h5 h6)⟩
theorem wk_zip2 {K : PySem.W.Frag} {a b : Addr} {xs ys : List V} {ds es : List D} (h : SqT K F a xs) (rp : RpAll K F xs ds) (h2 : Rd F b (.lst ys)) (rp2 : RpAll K F ys es) : Wk K F (Z2.Itz2 K a b) (zipD ds es) := by
  have l := RpAll.length rp
  have l' := RpAll.length rp2
  have l2 := zipD_len ds es
  refine ⟨fun i H m hi => ⟨xs, ys, xs[i]'(by omega), ys[i]'(by omega), SqT.mono m h, .inl (Rd.mono m h2), List.getElem?_eq_getElem _, List.getElem?_eq_getElem _⟩, fun i H m hi => ⟨xs, ys, SqT.mono m h, .inl (Rd.mono m h2), by omega⟩, fun i H x H' d m hd hy => ?_⟩
  obtain ⟨T, y, z, rfl, hT, rfl, q, q2⟩ := hy
  obtain ⟨d1, d2, e1, e2, rfl⟩ := zipD_get hd
  obtain ⟨x1, e3, e4⟩ := RpAll.get rp e1
  obtain ⟨x2, e5, e6⟩ := RpAll.get rp2 e2
  have := q xs (SqT.mono m h)
  rw [e3] at this; cases this
  have := q2 ys (.inl (Rd.mono m h2))
  rw [e5] at this; cases this
  exact .inr ⟨T, _, _, rfl, hT, rfl, rfl, .cons e4 (.cons e6 .nil)⟩
theorem si_zp2 (o : XOk T tb k s X) {P tpos : Pos} {elts : List Expr} {kk : Nat} {xs ys : List D} (hg : glB s.sc "zip" = true) (hn : noStar a = true) (hn2 : noStar b = true) (ha : SE tb X a ρ oa ρ1) (hb : SE tb X b ρ1 ob ρ2) (hk : keepL ρ2 [oa, ob] = some ([.tuple xs, .list ys], ρ3)) :
    SI tb X (.Tuple elts kk tpos) (.Call (.Name "zip" P) [a, b] [] pos) ρ (zipD xs ys) ρ3 := by
  intro pa B F σ H r R q
  refine wi_of (Z2.pi_zip2 (glB_ok o hg) (o.blt _ (by decide)) (pa_wa X [a, b]) (noStar_eq hn _ _) (noStar_any _ _ fun e' he => by
    rcases List.mem_cons.mp he with rfl | he
    · exact hn2
    · cases he)) ?_
  refine sa_cons hn ha (sa_cons hn2 hb sa_nil) pa B F σ H r _ fun zs F' H' s' r' os => ?_
  obtain ⟨F2, s2, r2, dp⟩ := keepL_ok r' os hk
  cases dp with
  | cons d1 dp =>
    cases dp with
    | cons d2 dp =>
      cases dp
      cases d1 with
      | tup h1 h2 =>
        cases d2 with
        | lst h3 h4 => exact ⟨_, _, _, _, rfl, SqT.mono r2.wf.fz h1, .inl (Rd.mono r2.wf.fz h3), q _ F2 H' (s'.trans s2) r2 (wk_zip2 h1 h2 h3 h4)⟩
/-! ### a comprehension over a list that goes on being changed -/
theorem smp_ok {j : Nat} : ∀ (ir : IE) {ρ ρ' : En} {op : Op}, smp j ir = true → evE T ρ ir = some (op, ρ') → ρ' = ρ
  | .var i, ρ, ρ', op, hs, h => by
    simp only [evE] at h
    split at h
    · cases h
    · cases h; rfl
    · cases h
  | .cst c, ρ, ρ', op, hs, h => by
    simp only [evE, Option.map_eq_some_iff] at h
    obtain ⟨d, _, e⟩ := h
    cases e; rfl
  | .bin f a b, ρ, ρ', op, hs, h => by
    simp only [smp, Bool.and_eq_true] at hs
    simp only [evE, Option.bind_eq_some_iff, Option.map_eq_some_iff] at h
    obtain ⟨⟨o1, ρ1⟩, h1, ⟨o2, ρ2⟩, h2, d1, _, d2, _, r, _, e⟩ := h
    have e1 := smp_ok a hs.1 h1
    subst e1
    have e2 := smp_ok b hs.2 h2
    subst e2
    cases e; rfl
  | .idx a b, ρ, ρ', op, hs, h => by
    simp only [smp, Bool.and_eq_true] at hs
    simp only [evE, Option.bind_eq_some_iff, Option.map_eq_some_iff] at h
    obtain ⟨⟨o1, ρ1⟩, h1, ⟨o2, ρ2⟩, h2, d1, _, d2, _, r, _, e⟩ := h
    have e1 := smp_ok a hs.1 h1
    subst e1
    have e2 := smp_ok b hs.2 h2
    subst e2
    cases e; rfl
theorem lcO_ok (o : XOk T tb k s X) {elt tg : Expr} {x : Str} {xp : Pos} {scope : Scope} {own : List (Str × Nat)} {ix : List Nat} {i0 : Nat} {f : D → En → Option (Option D × En)} {out : List D} {ρn : En}
    (hN : s.N[i0]? = some x) (hvv : visB s.sc x = true) (hkk : okN x = true) (hin : i0 ∉ own.map (·.2)) (hs0 : ρ[i0]? = some (.o false ds)) (hix : ∀ i ∈ ix, i ∈ own.map (·.2))
    (hb : ∀ x ρa q, f x ρa = some q → ∃ ρ2 ρ4 d, (∀ s H C cl fp, SG tb (X.blk s H scope (compEnvC scope cl C X.env) fp) tg ix (wipeE ρa (own.map (·.2))) x ρ2) ∧ (∀ s H C cl fp, STs tb (X.blk s H scope (compEnvC scope cl C X.env) fp) [] ρ2 true ρ2) ∧
      (∀ s H C cl fp, SE tb (X.blk s H scope (compEnvC scope cl C X.env) fp) elt ρ2 (.val d) ρ4) ∧ q = (some d, ρ4))
    (hpr : ∀ x ρa q, f x ρa = some q → q.2[i0]? = ρa[i0]?)
    (h : evComp f ds [] ρ = some (out, ρn)) (hl : lenOk out.length = true) :
    SLc tb X elt tg (.Name x xp) [] scope (own.map (·.2)) ρ out (backE ρ ρn (own.map (·.2))) := by
  obtain ⟨vs, hvs⟩ : ∃ vs, vs = own.map (·.2) := ⟨_, rfl⟩
  rw [← hvs] at hb hix hin
  intro pa B F σ H r Q q
  rw [← hvs] at q ⊢
  refine wi_of (pi_list (pe_we X _)) (se_var o hN hvv hkk hs0 (fun z => by cases z) pa B F σ H r _ fun v F1 H1 s1 r1 ov => ?_)
  obtain ⟨a, xs0, ha, _, hH1, _, _, rp1⟩ := r1.sl i0 _ hs0
  have hv : v = .ref a := by
    have : σ[i0]? = some (some v) := ov
    rw [ha] at this
    exact (Option.some.inj (Option.some.inj this)).symm
  refine ⟨a, hv, ⟨_, .inl (.inl hH1)⟩, fun D hD => ?_⟩
  obtain ⟨hF1, hB⟩ := r1.wf.none hD
  have at0 : ∀ {F2 H2 : Hp} {ρa : En}, Rel X.K tb pa B F2 (wipe σ vs) H2 (wipeE ρa vs) → ρa[i0]? = some (.o false ds) → ∃ xs, SqL X.K H2 a xs ∧ RpAll X.K F2 xs ds := fun {F2 H2 ρa} r2 hρ => by
    obtain ⟨p, xs, hp, _, hH, _, _, rp⟩ := r2.sl i0 _ (by rw [wipeE_out hin]; exact hρ)
    rw [wipe_out hin, ha] at hp
    cases hp
    exact ⟨xs, .inl (.inl hH), rp⟩
  refine ⟨fun i m H => m = ds.length - i ∧ ∃ F ρa accV accD, Sm F1 F ∧ H D = some (.lst accV) ∧ F D = none ∧ RpAll X.K F accV accD ∧ Rel X.K tb pa B F (wipe σ vs) H (wipeE ρa vs) ∧ Off (wipe σ vs) (wipeE ρa vs) D ∧ ρa[i0]? = some (.o false ds) ∧ evComp f (ds.drop i) accD ρa = some (out, ρn), ⟨_, rfl, F1, ρ, [], [], Sm.refl _, upd_same, hF1, .nil, (r1.laid hD _).wipe vs, (r1.wipe vs).off_none hD, hs0, h⟩, ?_⟩
  rintro i m H2 ⟨rfl, F2, ρa, accV, accD, s2, hD2, hF2, dp, r2, off, hρa, ev⟩
  obtain ⟨xs, hq0, rp⟩ := at0 r2 hρa
  have hlx := RpAll.length rp
  by_cases hi2 : i < ds.length
  · refine .inr ⟨⟨xs, xs[i]'(by omega), hq0, List.getElem?_eq_getElem _⟩, fun H' => ∃ F ρa accV accD, Sm F1 F ∧ H' D = some (.lst accV) ∧ F D = none ∧ RpAll X.K F accV accD ∧ Rel X.K tb pa B F (wipe σ vs) H' (wipeE ρa vs) ∧ Off (wipe σ vs) (wipeE ρa vs) D ∧ ρa[i0]? = some (.o false ds) ∧ evComp f (ds.drop (i + 1)) accD ρa = some (out, ρn), fun H' z => ⟨ds.length - (i + 1), by omega, rfl, z⟩, fun x H3 hy => ?_⟩
    have hd : ds[i]? = some ds[i] := List.getElem?_eq_getElem hi2
    rw [List.drop_eq_getElem_cons hi2] at ev
    simp only [evComp] at ev
    have r2' := r2.more hD2 (fun ps z => by cases z) hF2 off
    obtain ⟨F3, s3, sH3, r3, dx⟩ := Yld.ok (tb := tb) (F := F2) (H := H2) (x := x) (d := ds[i]) (by
      obtain ⟨rfl, qy⟩ := hy
      obtain ⟨x', e1, e2⟩ := RpAll.get rp hd
      have := qy xs hq0
      rw [e1] at this; cases this
      exact .inl ⟨rfl, e2⟩) r2'
    cases hq : f ds[i] ρa with
    | none => rw [hq] at ev; cases ev
    | some qq =>
      rw [hq] at ev
      obtain ⟨ρ2, ρ4, d, h1, h2, h3, rfl⟩ := hb _ _ _ hq
      have hρ4 : ρ4[i0]? = some (.o false ds) := (hpr _ _ _ hq).trans hρa
      intro s0 H0 C cl fp
      refine h1 s0 H0 C cl fp pa _ F3 _ H3 x r3 dx _ fun σ2 r4 hw => ?_
      have hw : wipe σ2 vs = wipe σ vs := by
        rw [hw vs hix]
        have : ∀ us : List Nat, (∀ i ∈ us, i ∈ vs) → wipe (wipe σ us) vs = wipe σ vs := by
          intro us hu
          induction us with
          | nil => rfl
          | cons u us ih =>
            show wipe ((wipe σ us).set u none) vs = _
            rw [wipe_set (hu u List.mem_cons_self)]
            exact ih fun i hi => hu i (List.mem_cons_of_mem _ hi)
        exact this vs fun i hi => hi
      refine ⟨hw, fun s0 H0 C cl fp => ?_⟩
      refine h2 s0 H0 C cl fp pa _ F3 σ2 H3 r4 _ fun F4 H4 s4 r5 => ?_
      rw [if_pos rfl]
      intro s0 H0 C cl fp
      refine h3 s0 H0 C cl fp pa _ F4 σ2 H4 r5 _ fun y F5 H5 s5 r6 oy => ?_
      obtain ⟨F6, s6, r7, dy⟩ := keep_ok (d := d) (ρ' := ρ4) r6 oy rfl
      have r8 := r7.wipe vs
      rw [hw] at r8
      obtain ⟨z1, z2⟩ := r8.wf.bg D _ upd_same
      have hlen := evComp_len ev
      rw [List.length_append] at hlen
      simp only [List.length_cons, List.length_nil] at hlen
      have hl' : out.length ≤ sizeLine := of_decide_eq_true hl
      have hacc := RpAll.length dp
      have sA : Sm F2 F6 := ((s3.trans s4).trans s5).trans s6
      have z3 := r8.less (Sm.upd hB)
      have z4 := r8.off_bg upd_same
      refine ⟨accV, z1, by omega, F6, ρ4, accV ++ [y], accD ++ [d], s2.trans sA, upd_same, z2, RpAll.append (RpAll.mono sA dp) (.cons dy .nil), z3.writeFree z1 z2 hB z4, z4, hρ4, ev⟩
  · have hdr : ds.drop i = [] := List.drop_eq_nil_of_le (by omega)
    rw [hdr] at ev
    cases ev
    refine .inl ⟨⟨xs, hq0, by omega⟩, ?_⟩
    have r3 := Rel.back r1 s2 r2
    refine q (.ref D) F2 H2 (s1.trans s2) r3 ⟨D, accV, rfl, hD2, hF2, hB, fun j s hs os z => ?_, dp⟩
    by_cases hj : j ∈ vs
    · rcases backE_in hj hs with rfl | ⟨d, _, rfl⟩ <;> cases os
    · rw [backE_out hj] at hs
      exact off j s (by rw [wipeE_out hj]; exact hs) os (by rw [wipe_out hj]; exact z)
end
end Ev

set_option maxHeartbeats 2000000
/-! slices taken backward: xs[lo:hi:-1] -/
namespace Ev
open PySem PySem.Spec PyProof.Rows L2
theorem revIx_len (n : Nat) (lo hi : Option Int) : (revIx n lo hi).length ≤ n := by
  have h := slicePick_size_le (Array.replicate n Value.none) lo hi (some (-1))
  have e : ∀ l : List Nat, (∀ j ∈ l, j < n) → (l.filterMap ((Array.replicate n Value.none)[·]?)).length = l.length := by
    intro l
    induction l with
    | nil => intro _; rfl
    | cons a l ih =>
      intro h
      have h1 := h a List.mem_cons_self
      have h2 := ih fun j hj => h j (List.mem_cons_of_mem _ hj)
      rw [List.filterMap_cons]
      have : (Array.replicate n Value.none)[a]? = some Value.none := by simp [h1]
      rw [this]
      simp only [List.length_cons]
      omega
  unfold revIx
  refine sliceRange_length_le _ _ _ n (fun h => absurd h ?_) fun _ => ⟨?_, ?_⟩
  · show ¬ ((-1 : Int) > 0); decide
  · show (sliceBounds lo hi (some (-1)) n).1 ≤ (n : Int) - 1
    cases lo with
    | none => simp [sliceBounds]
    | some v => simp [sliceBounds]; omega
  · show -1 ≤ (sliceBounds lo hi (some (-1)) n).2.1
    cases hi with
    | none => simp [sliceBounds]
    | some v => simp [sliceBounds]; omega
theorem pick_len {α : Type} (xs : List α) : ∀ l : List Nat, (l.filterMap (xs[·]?)).length ≤ l.length := fun l => List.length_filterMap_le _ _
theorem pick_vals {xs : List V} {us : List Value} (r : Vals xs us) : ∀ l : List Nat, Vals (l.filterMap (xs[·]?)) (l.filterMap (us[·]?))
  | [] => .nil
  | j :: l => by
    have ih := pick_vals r l
    rw [List.filterMap_cons, List.filterMap_cons]
    have hl := r.length
    cases q : xs[j]? with
    | none =>
      have : us[j]? = none := by
        rw [List.getElem?_eq_none_iff] at q ⊢
        omega
      rw [this]; exact ih
    | some x =>
      obtain ⟨u, h1, h2⟩ := Vals.get r q
      rw [h1]; exact .cons h2 ih
theorem pick_rp {K : PySem.W.Frag} {F : Hp} {xs : List V} {ds : List D} (r : RpAll K F xs ds) : ∀ l : List Nat, RpAll K F (l.filterMap (xs[·]?)) (l.filterMap (ds[·]?))
  | [] => .nil
  | j :: l => by
    have ih := pick_rp r l
    rw [List.filterMap_cons, List.filterMap_cons]
    have hl := RpAll.length r
    cases q : ds[j]? with
    | none =>
      have : xs[j]? = none := by
        rw [List.getElem?_eq_none_iff] at q ⊢
        omega
      rw [this]; exact ih
    | some d =>
      obtain ⟨x, h1, h2⟩ := RpAll.get r q
      rw [h1]; exact .cons h2 ih
theorem rev_rp {K : PySem.W.Frag} {F : Hp} {xs : List V} {ds : List D} {lo hi : Option Int} (r : RpAll K F xs ds) : RpAll K F (revL xs lo hi) (revL ds lo hi) := by
  unfold revL; rw [RpAll.length r]; exact pick_rp r _
theorem revL_len {α : Type} (xs : List α) (lo hi : Option Int) : (revL xs lo hi).length ≤ xs.length := Nat.le_trans (pick_len xs _) (revIx_len _ _ _)
/-- a backward slice by values -/
def SlB (X : Cx) (r : V → Option Int → Option Int → Hp → VK → Prop) : Prop :=
  ∀ (pins : List (Addr × Obj)) (s : Shared) (σ : St) (H : Hp) (x : V) (v vl vu : Value) (lo hi : Option Int) (sl : Addr) (t : Tok) (Q : VK), Inv X pins σ H s → RelV x v → s.heap.IsSliceOf sl vl vu (.int (-1) t) → IsPart vl lo → IsPart vu hi → r x lo hi H Q →
    ∃ T id, typeLookup (.type T) "__getitem__" = pure (some (.builtin id)) ∧ s.TypeIs v T ∧ wpAny (model X.prog X.w) X.A (getItem v (.ref sl)) (EP X pins σ Q) X.xe s
def tSb (r : V → Option Int → Option Int → Hp → VK → Prop) (te : TE) (tl th ts : TO) : TE := fun σ H Q => te σ H fun x H1 => tl σ H1 fun l H2 => th σ H2 fun u H3 => ts σ H3 fun w H4 => w = some (-1) ∧ r x l u H4 Q
section
variable {X : Cx} {e st : Expr} {te : TE} {lo hi : Option Expr} {tl th ts : TO} {pos p2 : Pos}
theorem pe_sliceB {r : V → Option Int → Option Int → Hp → VK → Prop} (hr : SlB X r) (he : PE X e te) (hl : PO X lo tl) (hu : PO X hi th) (hs : PO X (some st) ts) : PE X (.Subscript e (.Slice lo hi (some st) p2) pos) (tSb r te tl th ts) := by
  refine ⟨fun pins s σ H Q I h => ?_⟩
  refine Subscript_ (thn (he.run pins s σ H _ I h) fun v s1 ⟨x, H1, I1, r1, q1⟩ => ?_)
  refine wpAny_Slice (thn (hl.run pins s1 σ H1 _ I1 q1) fun vl s2 ⟨l, H2, I2, pl, q2⟩ => thn (hu.run pins s2 σ H2 _ I2 q2) fun vu s3 ⟨u, H3, I3, pu, q3⟩ => thn (hs.run pins s3 σ H3 _ I3 q3) fun vs s4 ⟨w, H4, I4', ps, q4, q5⟩ => ?_)
  subst q4
  cases ps with
  | int _ t =>
  have I4 : Inv X pins σ H4 { s4 with heap := s4.heap.push { cls := .type "slice", data := .fields #[vl, vu, .int (-1) t] } } := I4'.kept (t' := s4.toks) fun b ob q => Heap.get?_push_of_some _ q
  obtain ⟨T, id, hT, ht, hg⟩ := hr pins { s4 with heap := s4.heap.push { cls := .type "slice", data := .fields #[vl, vu, .int (-1) t] } } σ H4 x v vl vu l u s4.heap.objs.size t Q I4 r1 (Heap.IsSliceOf.new ..) pl pu q5
  show wpAny (model X.prog X.w) X.A (subscriptTail e (.Slice lo hi (some st) p2) v (.ref s4.heap.objs.size)) (EP X pins σ Q) X.xe { s4 with heap := s4.heap.push { cls := .type "slice", data := .fields #[vl, vu, .int (-1) t] } }
  exact tail_any (ops := [v, .ref s4.heap.objs.size]) ht hT hg (by with_unfolding_all rfl)
def rSbL (K : PySem.W.Frag) : V → Option Int → Option Int → Hp → VK → Prop := fun x lo hi H Q => ∃ a xs, x = .ref a ∧ SqL K H a xs ∧ ∀ p, H p = none → Q (.ref p) (upd H p (.lst (revL xs lo hi)))
theorem sb_list : SlB X (rSbL X.K) := by
  intro pins s σ H x v vl vu lo hi sl t Q I rx hs pl pu h
  obtain ⟨a, xs, rfl, hx, q⟩ := h
  cases rx
  obtain ⟨its, r, ht, hz⟩ := I.list hx
  have hlen := r.length
  refine ⟨"list", _, slot_list_getitem.lookup, ht.isList.typeIs, ?_⟩
  refine wpAny_getItem_list_slice ht.isList hs pl pu (.int (-1) t) (by decide) ?_ (by rw [List.size_toArray] <;> omega)
  have e : slicePick its.toArray lo hi (some (-1)) = ((revIx xs.length lo hi).filterMap (its[·]?)).toArray := by
    unfold slicePick revIx
    rw [List.size_toArray, hlen]
    simp
  rw [e]
  refine ⟨.ref s.heap.objs.size, _, I.laid (t' := s.toks) (o := .lst (revL xs lo hi)) (fun b ob q => Heap.get?_push_of_some _ q) (Nat.le_refl _) ?_, rfl, q _ (I.hok.fresh (Nat.le_refl _))⟩
  exact ⟨Nat.le_trans (revL_len xs lo hi) hz, _, 0, pick_vals r _, Heap.get?_push_size _ rfl⟩
end
theorem adj_bounds (lo hi : Option Int) (n : Nat) : Builtin.Slice.sliceAdjust lo hi (-1) (n : Int) = ((sliceBounds lo hi (some (-1)) n).1, (sliceBounds lo hi (some (-1)) n).2.1) := by
  unfold Builtin.Slice.sliceAdjust sliceBounds
  have h1 : (-1 : Int) < 0 := by decide
  have h2 : ¬ ((-1 : Int) > 0) := by decide
  simp only [h1, if_true, Option.getD_some, h2, if_false]
  refine Prod.ext ?_ ?_
  · cases lo with
    | none => rfl
    | some v => dsimp only; split <;> omega
  · cases hi with
    | none => rfl
    | some v => dsimp only; split <;> omega
theorem places_rev (a b : Int) : sliceRange a b (-1) = (List.range (Builtin.Slice.slicePlaces a b (-1))).map fun (m : Nat) => (a + (m : Int) * (-1)).toNat := by
  unfold sliceRange Builtin.Slice.slicePlaces
  have h2 : ¬ ((-1 : Int) > 0) := by decide
  have e1 : (-(-1) : Int) = 1 := by decide
  simp only [h2, if_false, e1, Int.ediv_one]
  have e : (if a > b then a - b - -1 - 1 else 0) = (if a > b then a - b - 1 + 1 else 0) := by split <;> omega
  rw [e]
  refine List.map_congr_left fun k _ => ?_
  have : a + -1 * (k : Int) = a + (k : Int) * -1 := by omega
  rw [this]
section
variable {prog : Program} {w : World} {A : Around} {E : Value → Shared → Prop} {s : Shared}
theorem sliceApplied_rev {sl : Addr} {vl vu : Value} {t : Tok} {lo hi : Option Int} {n : Nat} {Q : Int × Int × Nat → Shared → Prop} (hs : s.heap.IsSliceOf sl vl vu (.int (-1) t)) (pl : IsPart vl lo) (pu : IsPart vu hi)
    (h : Q ((sliceBounds lo hi (some (-1)) n).1, -1, Builtin.Slice.slicePlaces (sliceBounds lo hi (some (-1)) n).1 (sliceBounds lo hi (some (-1)) n).2.1 (-1)) s) : wpAny (model prog w) A (Builtin.Slice.sliceApplied (.ref sl) (pure (n : Int))) Q E s := by
  obtain ⟨os, hos, hcs, hds⟩ := id hs
  unfold Builtin.Slice.sliceApplied Builtin.Slice.sliceFields
  refine wpAny_bind (wpAny_bind (wpAny_field hos hds (x := vl) rfl (wpAny_bind (wpAny_field hos hds (x := vu) rfl (wpAny_bind (wpAny_field hos hds (x := .int (-1) t) rfl (wpAny_pure ?_)))))))
  refine wpAny_bind (slicePart_int ?_)
  show wpAny _ _ (if ((-1 : Int) == 0) = true then _ else _) _ _ s
  rw [if_neg (by decide)]
  refine wpAny_bind (HT.slicePart_ pl (wpAny_bind (HT.slicePart_ pu (wpAny_bind (wpAny_pure ?_)))))
  show wpAny _ _ (match Builtin.Slice.sliceAdjust lo hi (-1) (n : Int) with | (lo, hi) => pure (lo, (-1 : Int), Builtin.Slice.slicePlaces lo hi (-1))) _ _ s
  rw [adj_bounds lo hi n]
  exact wpAny_pure h
theorem getItem_tuple_rev {tt sl : Addr} {items : Array Value} {vl vu : Value} {t : Tok} {lo hi : Option Int} {Q : Value → Shared → Prop} (ht : IsTup s.heap tt items) (hs : s.heap.IsSliceOf sl vl vu (.int (-1) t)) (pl : IsPart vl lo) (pu : IsPart vu hi)
    (h : Q (.ref s.heap.objs.size) { s with heap := s.heap.push { cls := .type "tuple", data := .seq (revL items.toList lo hi).toArray } })
    (hsz : items.size ≤ sizeLine) : wpAny (model prog w) A (getItem (.ref tt) (.ref sl)) Q E s := by
  have htake : sizeOk (.seq (revL items.toList lo hi).toArray) := by
    show (revL items.toList lo hi).toArray.size ≤ sizeLine
    rw [List.size_toArray]
    exact Nat.le_trans (revL_len items.toList lo hi) hsz
  have epick : ((List.range (Builtin.Slice.slicePlaces (sliceBounds lo hi (some (-1)) items.size).1 (sliceBounds lo hi (some (-1)) items.size).2.1 (-1))).filterMap fun (k : Nat) => items[((sliceBounds lo hi (some (-1)) items.size).1 + (k : Int) * (-1)).toNat]?).toArray = (revL items.toList lo hi).toArray := by
    unfold revL revIx
    rw [Array.length_toList, show (sliceBounds lo hi (some (-1)) items.size).2.2 = -1 from rfl, places_rev, List.filterMap_map]
    congr 2
    funext k
    simp
  obtain ⟨os, hos, hcs, hds⟩ := id hs
  have hTs : s.TypeIs (.ref sl) "slice" := ⟨os, hos, hcs⟩
  unfold getItem
  try with_reducible refine wpAny_holding ?_
  first | refine wpAny_bind (wpAny_pure ?_) | skip
  refine wpAny_bind (wpAny_sequenceKey ht.typeIs (by decide) ?_)
  refine wpAny_bind (wpAny_callSpecial?_slot (name := Str.ofString "__getitem__") ht.typeIs PyProof.Rows.slot_tuple_getitem
    (wpAny_call_entry PyProof.Rows.slot_tuple_getitem ht.typeIs entry_tuple_getitem ?_ (args_tuple_getitem _ _)))
  show wpAny _ _ (Builtin.Tuple.tupleItemsOf (.ref tt) >>= _) _ _ s
  refine wpAny_bind (tupleItemsOf_ ht ?_)
  refine wpAny_bind (wpAny_typeOf hTs ?_)
  rw [if_pos (by decide)]
  refine wpAny_bind (sliceApplied_rev hs pl pu ?_)
  show wpAny _ _ (if ((sliceBounds lo hi (some (-1)) items.size).1 == 0 && (-1 : Int) == 1 && (Builtin.Slice.slicePlaces (sliceBounds lo hi (some (-1)) items.size).1 (sliceBounds lo hi (some (-1)) items.size).2.1 (-1)) == items.size) = true then _ else _) _ _ s
  rw [if_neg (by simp), epick]
  first
    | exact wpAny_bind (m := Builtin.Tuple.tupleExact _) (wpAny_newObj_type (wpAny_pure ⟨_, rfl, wpAny_pure h⟩) htake)
    | exact wpAny_bind (m := Builtin.Tuple.tupleExact _) (wpAny_newObj_type (wpAny_bind (wpAny_pure (wpAny_pure ⟨_, rfl, wpAny_pure h⟩))) htake)
    | exact wpAny_bind (wpAny_bind (m := Builtin.Tuple.tupleExact _) (wpAny_newObj_type (wpAny_pure (wpAny_pure ⟨_, rfl, wpAny_pure h⟩)) htake))
    | exact wpAny_bind (wpAny_bind (m := Builtin.Tuple.tupleExact _) (wpAny_newObj_type (wpAny_pure ⟨_, rfl, wpAny_pure h⟩) htake))
end
section
variable {X : Cx}
def rSbT (K : PySem.W.Frag) : V → Option Int → Option Int → Hp → VK → Prop := fun x lo hi H Q => ∃ a xs, x = .ref a ∧ SqT K H a xs ∧ ∀ p, H p = none → Q (.ref p) (upd H p (.tup (revL xs lo hi)))
theorem sb_tup : SlB X (rSbT X.K) := by
  intro pins s σ H x v vl vu lo hi sl t Q I rx hs pl pu h
  obtain ⟨a, xs, rfl, hx, q⟩ := h
  cases rx
  obtain ⟨its, r, ht, hz⟩ := I.tuple hx
  have hlen := r.length
  refine ⟨"tuple", _, PyProof.Rows.slot_tuple_getitem.lookup, ht.typeIs, ?_⟩
  refine getItem_tuple_rev ht hs pl pu ?_ (by rw [List.size_toArray]; omega)
  refine ⟨.ref s.heap.objs.size, _, I.laid (t' := s.toks) (o := .tup (revL xs lo hi)) (fun b ob q => Heap.get?_push_of_some _ q) (Nat.le_refl _) ?_, rfl, q _ (I.hok.fresh (Nat.le_refl _))⟩
  have e : revL its lo hi = (revIx xs.length lo hi).filterMap (its[·]?) := by unfold revL; rw [hlen]
  exact ⟨Nat.le_trans (revL_len xs lo hi) hz, _, by rw [e]; exact pick_vals r _, IsTup.new _ _⟩
end
section
variable {T : Tb} {tb : List Addr} {k : Nat} {s : Sc} {X : Cx} {a b c e : Expr} {es : List Expr} {ρ ρ1 ρ2 ρ3 : En} {oa ob oc op : Op} {pos : Pos}
theorem so_m1 (h : isM1 e = true) : SO tb X (some e) ρ (some (-1)) ρ := by
  unfold isM1 at h
  split at h
  · exact so_so (oa := .val (.int (-1))) (se_neg (i := 1) (se_cst (d := .int 1) rfl) rfl) rfl
  · cases h
theorem se_slb {lo hi : Option Expr} {st : Expr} {p2 : Pos} {da : D} {i j : Option Int} {res : Op} (hm : isM1 st = true) (ha : SE tb X a ρ oa ρ1) (hl : SO tb X lo ρ1 i ρ2) (hh : SO tb X hi ρ2 j ρ3) (ea : viewOp ρ3 oa = some da) (h : slbD da i j = some res) :
    SE tb X (.Subscript a (.Slice lo hi (some st) p2) pos) ρ res ρ3 := by
  have key : ∀ {rr : V → Option Int → Option Int → Hp → VK → Prop}, SlB X rr → (∀ pa B F σ H x, Rel X.K tb pa B F σ H ρ3 → Vw X.K F H x da → ∀ Q : VK, (∀ v F' H', Sm F F' → Rel X.K tb pa B F' σ H' ρ3 → OpR X.K B F' H' σ ρ3 v res → Q v H') → rr x i j H Q) →
      SE tb X (.Subscript a (.Slice lo hi (some st) p2) pos) ρ res ρ3 := by
    intro rr hr hq pa B F σ H r Q q
    refine we_of (pe_sliceB hr (pe_we X a) (po_wo X lo) (po_wo X hi) (po_wo X (some st))) ?_
    refine ha pa B F σ H r _ fun x F1 H1 s1 r1 o1 => ?_
    obtain ⟨B1, sB, nB, rB⟩ := OpR.hold1 r1 o1
    refine hl pa B1 F1 σ H1 rB _ fun F2 H2 s2 r2 => ?_
    refine hh pa B1 F2 σ H2 r2 _ fun F3 H3 s3 r3 => ?_
    refine so_m1 hm pa B1 F3 σ H3 r3 _ fun F4 H4 s4 r4 => ⟨rfl, ?_⟩
    have o3 := o1.back nB sB rB ((s2.trans s3).trans s4) r4
    have r3' := r4.less sB
    exact hq pa B F4 σ H4 x r3' (vw_ok r3' o3 ea) Q fun v F5 H5 s5 r5 o5 => q v F5 H5 ((((s1.trans s2).trans s3).trans s4).trans s5) r5 o5
  unfold slbD at h
  split at h
  · cases h
    refine key sb_list fun pa B F σ H x r v Q q => ?_
    obtain ⟨p, vs, rfl, a1, b1⟩ := v.lstE
    refine ⟨p, vs, rfl, .inl a1, fun l hl => ?_⟩
    obtain ⟨r3, o3⟩ := new_ok r (rev_rp (lo := i) (hi := j) b1) hl
    exact q _ F _ (Sm.refl _) r3 o3
  · cases h
    refine key sb_tup fun pa B F σ H x r v Q q => ?_
    obtain ⟨p, vs, rfl, a1, b1⟩ := v.tupE
    refine ⟨p, vs, rfl, SqT.mono r.wf.fz a1, fun l hl => ?_⟩
    obtain ⟨F2, s2, r3, o3⟩ := newT_ok r (rev_rp (lo := i) (hi := j) b1) hl
    exact q _ F2 _ s2 r3 o3
  · cases h
end
/-- the whole, backward -/
theorem revL_all {α : Type} (xs : List α) : revL xs none none = xs.reverse := by
  have e : revIx xs.length none none = (List.range xs.length).map fun k => xs.length - 1 - k := by
    unfold revIx sliceBounds sliceRange
    simp only [Option.getD_some]
    have h2 : ¬ ((-1 : Int) > 0) := by decide
    simp only [h2, if_false]
    have c : (if (xs.length : Int) - 1 > -1 then ((xs.length : Int) - 1 - -1 - -1 - 1) / (- -1) else 0).toNat = xs.length := by
      have e1 : (-(-1) : Int) = 1 := by decide
      rw [e1, Int.ediv_one]
      split <;> omega
    rw [c]
    refine List.map_congr_left fun k hk => ?_
    have := List.mem_range.mp hk
    omega
  have e2 : ((List.range xs.length).map fun k => xs.length - 1 - k) = (List.range xs.length).reverse := by
    apply List.ext_getElem (by simp)
    intro j h1 h2
    simp
  have all : ∀ ys : List α, (List.range ys.length).filterMap (ys[·]?) = ys := by
    intro ys
    induction ys with
    | nil => rfl
    | cons y ys ih =>
      rw [List.length_cons, List.range_succ_eq_map, List.filterMap_cons, List.filterMap_map]
      simp only [List.getElem?_cons_zero]
      congr 1
  unfold revL
  rw [e, e2, List.filterMap_reverse, all]
end Ev

set_option maxHeartbeats 2000000
/-! displays with stars: (a, *b) -/
namespace Ev
open PySem PySem.Spec PyProof.Rows L2
def SF (tb : List Addr) (X : Cx) (es : List Expr) (ρ : En) (ds : List D) (ρ' : En) : Prop := ∀ pa B F σ H, Rel X.K tb pa B F σ H ρ → ∀ Q : List V → Hp → Prop, (∀ xs F' H', Sm F F' → Rel X.K tb pa B F' σ H' ρ' → RpAll X.K F' xs ds → Q xs H') → WA X es σ H Q
section
variable {tb : List Addr} {X : Cx} {e : Expr} {es : List Expr} {ρ ρ1 ρ2 ρ3 : En} {oa : Op} {d : D} {ds ds0 : List D} {pos p : Pos}
theorem sf_nil : SF tb X [] ρ [] ρ := fun pa B F σ H r Q q => wa_of pa_nil (q [] F H (Sm.refl _) r .nil)
theorem sf_cons (hn : noStar e = true) (ha : SE tb X e ρ oa ρ1) (hk : keepOp ρ1 oa = some (d, ρ2)) (hb : SF tb X es ρ2 ds ρ3) : SF tb X (e :: es) ρ (d :: ds) ρ3 := by
  intro pa B F σ H r Q h
  refine wa_of (pa_cons (pe_we X e) (pa_wa X es) (noStar_eq hn _ _)) ?_
  refine ha pa B F σ H r _ fun x F1 H1 s1 r1 o1 => ?_
  obtain ⟨F2, s2, r2, dp⟩ := keep_ok r1 o1 hk
  refine hb pa B F2 σ H1 r2 _ fun xs F3 H3 s3 r3 rp => ?_
  exact h (x :: xs) F3 H3 ((s1.trans s2).trans s3) r3 (.cons (Rp.mono s3 dp) rp)
theorem sf_star (ha : SE tb X e ρ oa ρ1) (hk : keepOp ρ1 oa = some (d, ρ2)) (hd : itemsD d = some ds0) (hb : SF tb X es ρ2 ds ρ3) : SF tb X (.Starred e p :: es) ρ (ds0 ++ ds) ρ3 := by
  intro pa B F σ H r Q h
  refine wa_of (StX.pa_star (pe_we X e) (pa_wa X es)) ?_
  refine ha pa B F σ H r _ fun x F1 H1 s1 r1 o1 => ?_
  obtain ⟨F2, s2, r2, dp⟩ := keep_ok r1 o1 hk
  cases dp with
  | lst a b =>
    cases hd
    refine ⟨_, _, rfl, .inr (.inl (Rd.mono r2.wf.fz a)), ?_⟩
    refine hb pa B F2 σ H1 r2 _ fun xs F3 H3 s3 r3 rp => ?_
    exact h _ F3 H3 ((s1.trans s2).trans s3) r3 (RpAll.append (RpAll.mono s3 b) rp)
  | tup a b =>
    cases hd
    refine ⟨_, _, rfl, .inl (SqT.mono r2.wf.fz a), ?_⟩
    refine hb pa B F2 σ H1 r2 _ fun xs F3 H3 s3 r3 rp => ?_
    exact h _ F3 H3 ((s1.trans s2).trans s3) r3 (RpAll.append (RpAll.mono s3 b) rp)
  | _ => cases hd
theorem se_tupS {j : Nat} (ha : SF tb X es ρ ds ρ1) (hl : lenOk ds.length = true) : SE tb X (.Tuple es j pos) ρ (.val (.tuple ds)) ρ1 := by
  intro pa B F σ H r Q q
  refine we_of (pe_tup (pa_wa X es)) (ha pa B F σ H r _ fun xs F' H' s' r' dp => ?_)
  refine ⟨by rw [RpAll.length dp]; exact of_decide_eq_true hl, fun p hp => ?_⟩
  obtain ⟨F3, s3, r3, o3⟩ := newT_ok r' dp hp
  exact q _ F3 _ (s'.trans s3) r3 o3
theorem se_lstS (ha : SF tb X es ρ ds ρ1) (hl : lenOk ds.length = true) : SE tb X (.List es pos) ρ (.new ds) ρ1 := by
  intro pa B F σ H r Q q
  refine we_of (pe_lst (pa_wa X es)) (ha pa B F σ H r _ fun xs F' H' s' r' dp => ?_)
  refine ⟨by rw [RpAll.length dp]; exact of_decide_eq_true hl, fun p hp => ?_⟩
  obtain ⟨r3, o3⟩ := new_ok r' dp hp
  exact q _ F' _ s' r3 o3
end
end Ev

set_option maxHeartbeats 4000000
namespace Ev
open PySem PySem.Spec PyProof.Rows L2

section
variable {T : Tb} {tb : List Addr} {k : Nat}
theorem XOk.blk {s : Sc} {X : Cx} (o : XOk T tb k s X) (scope : Scope) (s0 : Shared) (H0 : Hp) (C : Addr) (cl : List (Str × Addr)) (fp : List Addr) : XOk T tb k (blkS s scope) (X.blk s0 H0 scope (compEnvC scope cl C X.env) fp) :=
  { fns := o.fns, kws := o.kws, gls := o.gls, blt := o.blt, nm := o.nm, nd := o.nd, sc := (by show relS scope X.env.scope = relS scope s.sc; rw [o.sc]), fn := fun x h => h, calm := o.calm, room8 := o.room8, tab := o.tab, grd := o.grd, own := PassesOwn.never }
theorem noSet_fold {e : Expr} (h : noSet e = true) (env : Env) (x : Value) : foldedSetIterable e env x = pure x := by
  cases e <;> first | rfl | cases h
theorem chIt_set {s : Sc} {ir : IT} {tg e : Expr} (h : chIt s ir tg e = true) : noSet e = true := by
  cases e <;> first | rfl | (cases ir <;> simp [chIt] at h <;> exact chE_set h)

theorem chT_ns {s : Sc} {ir : Tg} {e : Expr} (h : chT s ir e = true) : noStar e = true := by
  cases e <;> first | rfl | (cases ir <;> simp [chT] at h)
theorem chTs_ns {s : Sc} : ∀ {irs : Tgs} {es : List Expr}, chTs s irs es = true → ∀ e ∈ es, noStar e = true
  | .nil, [], _, e, he => by simp at he
  | .nil, _ :: _, h, _, _ => by simp [chTs] at h
  | .cons ir irs, [], h, _, _ => by simp [chTs] at h
  | .cons ir irs, e' :: es, h, e, he => by
    simp only [chTs, Bool.and_eq_true] at h
    rcases List.mem_cons.mp he with rfl | he
    · exact chT_ns h.1
    · exact chTs_ns h.2 e he
theorem genFold_pure {e : Expr} {env : Env} (h1 : noLst e = true) (h2 : noSet e = true) (v : Value) : genFold e env v = pure v := by
  cases e <;> first | (cases h1; done) | exact noSet_fold h2 env v
mutual
theorem evE_ok : ∀ (ir : IE) {s : Sc} {X : Cx} {e : Expr} {ρ ρ' : En} {op : Op}, XOk T tb k s X → chE s ir e = true → evE T ρ ir = some (op, ρ') → SE tb X e ρ op ρ'
  | .var i, s, X, e, ρ, ρ', op, o, hc, h => by
    unfold chE at hc
    split at hc
    · simp only [Bool.and_eq_true, decide_eq_true_eq] at hc
      simp only [evE] at h
      split at h
      · cases h
      · rename_i sl hu hs
        cases h
        exact se_var o hc.1.1 hc.1.2 hc.2 hs (fun z => hu z)
      · cases h
    · cases hc
  | .cst c, s, X, e, ρ, ρ', op, o, hc, h => by
    unfold chE at hc
    split at hc
    · simp only [decide_eq_true_eq] at hc
      subst hc
      simp only [evE, Option.map_eq_some_iff] at h
      obtain ⟨d, h1, h2⟩ := h
      cases h2
      exact se_cst h1
    · cases hc
  | .glb x, s, X, e, ρ, ρ', op, o, hc, h => by
    unfold chE at hc
    split at hc
    · simp only [Bool.and_eq_true, decide_eq_true_eq] at hc
      obtain ⟨⟨rfl, h1⟩, h2⟩ := hc
      simp only [evE, Option.map_eq_some_iff] at h
      obtain ⟨d, h3, h4⟩ := h
      cases h4
      exact se_glb o h1 h2 h3
    · cases hc
  | .bin op a b, s, X, e, ρ, ρ', res, o, hc, h => by
    unfold chE at hc
    split at hc
    · simp only [Bool.and_eq_true, decide_eq_true_eq] at hc
      obtain ⟨⟨rfl, c1⟩, c2⟩ := hc
      simp only [evE, Option.bind_eq_some_iff, Option.map_eq_some_iff] at h
      obtain ⟨⟨oa, ρ1⟩, h1, ⟨ob, ρ2⟩, h2, x, hx, y, hy, r, hr, e⟩ := h
      cases e
      exact se_binD (evE_ok a o c1 h1) (evE_ok b o c2 h2) hx hy hr
    · cases hc
  | .neg a, s, X, e, ρ, ρ', res, o, hc, h => by
    unfold chE at hc
    split at hc
    · simp only [evE, Option.bind_eq_some_iff] at h
      obtain ⟨⟨oa, ρ1⟩, h1, h2⟩ := h
      dsimp only at h2
      split at h2
      · rename_i i hi
        cases h2
        exact se_neg (evE_ok a o hc h1) hi
      · cases h2
    · cases hc
  | .not a, s, X, e, ρ, ρ', res, o, hc, h => by
    unfold chE at hc
    split at hc
    · simp only [evE, Option.bind_eq_some_iff] at h
      obtain ⟨⟨oa, ρ1⟩, h1, h2⟩ := h
      dsimp only at h2
      split at h2
      · rename_i i hi
        cases h2
        exact se_not (evE_ok a o hc h1) hi
      · cases h2
    · cases hc
  | .cmp op a b, s, X, e, ρ, ρ', res, o, hc, h => by
    unfold chE at hc
    split at hc
    · simp only [Bool.and_eq_true, decide_eq_true_eq] at hc
      obtain ⟨⟨rfl, c1⟩, c2⟩ := hc
      simp only [evE, Option.bind_eq_some_iff, Option.map_eq_some_iff] at h
      obtain ⟨⟨oa, ρ1⟩, h1, ⟨ob, ρ2⟩, h2, x, hx, y, hy, r, hr, e⟩ := h
      cases e
      exact se_cmp o (chE_set c2) (evE_ok a o c1 h1) (evE_ok b o c2 h2) hx hy hr
    · cases hc
  | .cmp2 op op2 a b c, s, X, e, ρ, ρ', res, o, hc, h => by
    unfold chE at hc
    split at hc
    · simp only [Bool.and_eq_true, decide_eq_true_eq] at hc
      obtain ⟨⟨⟨⟨rfl, rfl⟩, c1⟩, c2⟩, c3⟩ := hc
      simp only [evE, Option.bind_eq_some_iff] at h
      obtain ⟨⟨oa, ρ1⟩, h1, ⟨ob, ρ2⟩, h2, x, hx, y, hy, r, hr, h3⟩ := h
      cases r with
      | false =>
        rw [if_neg Bool.false_ne_true] at h3
        cases h3
        exact se_chain o (ρ3 := ρ) (db' := .none) (dc := .none) (chE_set c3) (evE_ok a o c1 h1) (evE_ok b o c2 h2) hx hy hr (.inl ⟨rfl, rfl, rfl⟩)
      | true =>
        rw [if_pos rfl] at h3
        simp only [Option.bind_eq_some_iff, Option.map_eq_some_iff] at h3
        obtain ⟨⟨oc, ρ3⟩, h4, y', hy', z, hz, r2, hr2, e⟩ := h3
        cases e
        exact se_chain o (chE_set c3) (evE_ok a o c1 h1) (evE_ok b o c2 h2) hx hy hr (.inr ⟨rfl, oc, evE_ok c o c3 h4, hy', hz, hr2, rfl⟩)
    · cases hc
  | .and a b, s, X, e, ρ, ρ', res, o, hc, h => by
    unfold chE at hc
    split at hc
    · simp only [Bool.and_eq_true] at hc
      simp only [evE, Option.bind_eq_some_iff] at h
      obtain ⟨⟨oa, ρ1⟩, h1, h2⟩ := h
      dsimp only at h2
      split at h2
      · rename_i hi
        exact se_andT (evE_ok a o hc.1 h1) hi (evE_ok b o hc.2 h2)
      · rename_i hi
        cases h2
        exact se_andF (evE_ok a o hc.1 h1) hi
      · cases h2
    · cases hc
  | .or a b, s, X, e, ρ, ρ', res, o, hc, h => by
    unfold chE at hc
    split at hc
    · simp only [Bool.and_eq_true] at hc
      simp only [evE, Option.bind_eq_some_iff] at h
      obtain ⟨⟨oa, ρ1⟩, h1, h2⟩ := h
      dsimp only at h2
      split at h2
      · rename_i hi
        cases h2
        exact se_orT (evE_ok a o hc.1 h1) hi
      · rename_i hi
        exact se_orF (evE_ok a o hc.1 h1) hi (evE_ok b o hc.2 h2)
      · cases h2
    · cases hc
  | .one a, s, X, e, ρ, ρ', res, o, hc, h => by
    unfold chE at hc
    split at hc
    · simp only [evE] at h
      exact se_one (evE_ok a o hc h)
    · cases hc
  | .ite c a b, s, X, e, ρ, ρ', res, o, hc, h => by
    unfold chE at hc
    split at hc
    · simp only [Bool.and_eq_true] at hc
      simp only [evE] at h
      split at h
      · rename_i ρ1 h1
        exact se_iteT (evT_ok c o hc.1.1 h1) (evE_ok a o hc.1.2 h)
      · rename_i ρ1 h1
        exact se_iteF (evT_ok c o hc.1.1 h1) (evE_ok b o hc.2 h)
      · cases h
    · cases hc
  | .tup es, s, X, e, ρ, ρ', res, o, hc, h => by
    unfold chE at hc
    split at hc
    · simp only [evE, Option.bind_eq_some_iff] at h
      obtain ⟨⟨ops, ρ1⟩, h1, ⟨ds, ρ2⟩, h2, h3⟩ := h
      dsimp only at h3
      split at h3
      · rename_i hl
        cases h3
        exact se_tup (evEs_ok es o hc h1) h2 hl
      · cases h3
    · cases hc
  | .lst es, s, X, e, ρ, ρ', res, o, hc, h => by
    unfold chE at hc
    split at hc
    · simp only [evE, Option.bind_eq_some_iff] at h
      obtain ⟨⟨ops, ρ1⟩, h1, ⟨ds, ρ2⟩, h2, h3⟩ := h
      dsimp only at h3
      split at h3
      · rename_i hl
        cases h3
        exact se_lst (evEs_ok es o hc h1) h2 hl
      · cases h3
    · cases hc
  | .idx a i, s, X, e, ρ, ρ', res, o, hc, h => by
    unfold chE at hc
    split at hc
    · simp only [Bool.and_eq_true] at hc
      simp only [evE, Option.bind_eq_some_iff, Option.map_eq_some_iff] at h
      obtain ⟨⟨oa, ρ1⟩, h1, ⟨ob, ρ2⟩, h2, x, hx, y, hy, r, hr, e⟩ := h
      cases e
      exact se_idx (chE_slice hc.2) (evE_ok a o hc.1 h1) (evE_ok i o hc.2 h2) hx hy hr
    · cases hc
  | .slc a lo hi, s, X, e, ρ, ρ', res, o, hc, h => by
    unfold chE at hc
    split at hc
    · simp only [Bool.and_eq_true] at hc
      simp only [evE, Option.bind_eq_some_iff, Option.map_eq_some_iff] at h
      obtain ⟨⟨oa, ρ1⟩, h1, ⟨i, ρ2⟩, h2, ⟨j, ρ3⟩, h3, x, hx, r, hr, e⟩ := h
      cases e
      exact se_slc (evE_ok a o hc.1.1 h1) (evC_ok lo o hc.1.2 h2) (evC_ok hi o hc.2 h3) hx hr
    · cases hc
  | .tupS fl es, s, X, e, ρ, ρ', res, o, hc, h => by
    unfold chE at hc
    split at hc
    · simp only [evE, Option.bind_eq_some_iff] at h
      obtain ⟨⟨ds, ρ2⟩, h2, h3⟩ := h
      dsimp only at h3
      split at h3
      · rename_i hl
        cases h3
        exact se_tupS (evSt_ok es o hc h2) hl
      · cases h3
    · cases hc
  | .lstS fl es, s, X, e, ρ, ρ', res, o, hc, h => by
    unfold chE at hc
    split at hc
    · simp only [evE, Option.bind_eq_some_iff] at h
      obtain ⟨⟨ds, ρ2⟩, h2, h3⟩ := h
      dsimp only at h3
      split at h3
      · rename_i hl
        cases h3
        exact se_lstS (evSt_ok es o hc h2) hl
      · cases h3
    · cases hc
  | .slb a lo hi, s, X, e, ρ, ρ', res, o, hc, h => by
    unfold chE at hc
    split at hc
    · simp only [Bool.and_eq_true] at hc
      simp only [evE, Option.bind_eq_some_iff, Option.map_eq_some_iff] at h
      obtain ⟨⟨oa, ρ1⟩, h1, ⟨i, ρ2⟩, h2, ⟨j, ρ3⟩, h3, x, hx, r, hr, e⟩ := h
      cases e
      exact se_slb hc.1.1.1 (evE_ok a o hc.1.1.2 h1) (evC_ok lo o hc.1.2 h2) (evC_ok hi o hc.2 h3) hx hr
    · cases hc
  | .cal f es, s, X, e, ρ, ρ', res, o, hc, h => by
    unfold chE at hc
    split at hc
    · simp only [Bool.and_eq_true, decide_eq_true_eq] at hc
      obtain ⟨⟨⟨rfl, c1⟩, c2⟩, c3⟩ := hc
      simp only [evE, Option.bind_eq_some_iff] at h
      obtain ⟨⟨ops, ρ1⟩, h1, fs, h2, h3⟩ := h
      refine se_call o c1 c2 h2 (chEs_ns c3) (evEs_ok es o c3 h1) (fun z => ?_) h3
      subst z
      cases es with
      | nil => simp only [evEs] at h1; cases h1; exact ⟨rfl, rfl⟩
      | cons a b => simp [chEs] at c3
    · cases hc
  | .calk f n es ks, s, X, e, ρ, ρ', res, o, hc, h => by
    unfold chE at hc
    split at hc
    · simp only [Bool.and_eq_true, decide_eq_true_eq] at hc
      obtain ⟨⟨⟨⟨⟨⟨rfl, c1⟩, c2⟩, c3⟩, c4⟩, c5⟩, _⟩ := hc
      simp only [evE, Option.bind_eq_some_iff] at h
      obtain ⟨⟨ops, ρ1⟩, h1, ⟨ds, ρ2⟩, h2, pm, h3, fs, h4, h5⟩ := h
      exact se_calk o c1 c2 h3 h4 (fun e' he => chEs_ns c3 e' (List.mem_append_left _ he)) c4 c5 (evEs_ses es o c3 h1) h2 h5
    · cases hc
  | .bi f es, s, X, e, ρ, ρ', res, o, hc, h => by
    unfold chE at hc
    split at hc
    · simp only [Bool.and_eq_true, decide_eq_true_eq] at hc
      obtain ⟨⟨⟨rfl, c1⟩, c2⟩, c3⟩ := hc
      simp only [evE, Option.bind_eq_some_iff, Option.map_eq_some_iff] at h
      obtain ⟨⟨ops, ρ1⟩, h1, ds, h2, r, h3, e⟩ := h
      cases e
      refine se_bi o c1 c2 (chEs_ns c3) (fun z => ?_) (evEs_ok es o c3 h1) h2 h3
      subst z
      cases es with
      | nil => simp only [evEs] at h1; cases h1; rfl
      | cons a b => simp [chEs] at c3
    · cases hc
  | .isi a t, s, X, e, ρ, ρ', res, o, hc, h => by
    unfold chE at hc
    split at hc
    · simp only [Bool.and_eq_true, decide_eq_true_eq] at hc
      obtain ⟨⟨⟨⟨⟨⟨rfl, c1⟩, rfl⟩, c2⟩, c3⟩, c4⟩, c5⟩ := hc
      simp only [evE, Option.bind_eq_some_iff, Option.map_eq_some_iff] at h
      obtain ⟨⟨oa, ρ1⟩, h1, x, hx, b, hb, e⟩ := h
      cases e
      exact se_isi o c5 c1 c2 c3 (chE_ns c4) (evE_ok a o c4 h1) hx hb
    · cases hc
  | .lc elt t own it c, s, X, e, ρ, ρ', res, o, hc, h => by
    unfold chE at hc
    split at hc
    · simp only [Bool.and_eq_true] at hc
      obtain ⟨⟨⟨⟨⟨c1, c2⟩, c3⟩, c4⟩, c5⟩, c6⟩ := hc
      simp only [evE, Option.bind_eq_some_iff] at h
      obtain ⟨⟨ds, ρ1⟩, h1, ⟨out, ρn⟩, h2, h3⟩ := h
      dsimp only at h2 h3
      split at h3
      · rename_i hl
        cases h3
        refine se_lc o (by rw [← o.nm] at c1; rw [o.sc]; exact blkOk_by c1) (noSet_fold (chIt_set c2) _) (lc_ok o (evIt_ok it o c2 h1) (ix := tgIx t) (fun i hi => ?_) (fun x ρa q hq => ?_) h2 hl)
        · have := List.all_eq_true.mp c6 i hi
          simpa using this
        · simp only [Option.bind_eq_some_iff] at hq
          obtain ⟨ρ2, q1, ⟨b, ρ3⟩, q2, q3⟩ := hq
          refine ⟨ρ2, b, ρ3, fun s H C cl fp => bindT_ok t (o.blk _ s H C cl fp) c3 q1, fun s H C cl fp => evIf_ok c (o.blk _ s H C cl fp) c4 q2, ?_⟩
          dsimp only at q3
          cases b with
          | false =>
            rw [if_neg Bool.false_ne_true] at q3
            cases q3
            exact .inl ⟨rfl, rfl⟩
          | true =>
            rw [if_pos rfl] at q3
            simp only [Option.bind_eq_some_iff, Option.map_eq_some_iff] at q3
            obtain ⟨⟨op, ρ4⟩, q4, ⟨d, ρb⟩, q5, e⟩ := q3
            cases e
            exact .inr ⟨rfl, op, ρ4, d, ρb, fun s H C cl fp => evE_ok elt (o.blk _ s H C cl fp) c5 q4, q5, rfl⟩
      · cases h3
    · cases hc
  | .lcO elt j nm i, s, X, e, ρ, ρ', res, o, hc, h => by
    unfold chE at hc
    split at hc
    · simp only [Bool.and_eq_true, decide_eq_true_eq] at hc
      obtain ⟨⟨⟨⟨⟨⟨⟨c1, c2⟩, c3⟩, c4⟩, c5⟩, c6⟩, c7⟩, c8⟩ := hc
      simp only [evE] at h
      split at h
      · rename_i hs0
        simp only [Option.bind_eq_some_iff] at h
        obtain ⟨⟨out, ρn⟩, h2, h3⟩ := h
        dsimp only at h3
        split at h3
        · rename_i hl
          cases h3
          refine se_lc (own := [(nm, j)]) o (by rw [← o.nm] at c1; rw [o.sc]; exact blkOk_by c1) (noSet_fold rfl _) (lcO_ok (own := [(nm, j)]) o c2 c3 c4 (by simpa using c8) hs0 (ix := tgIx (.nm j)) (fun i hi => by simpa [tgIx] using hi) (fun x ρa q hq => ?_) (fun x ρa q hq => ?_) h2 hl)
          · simp only [Option.bind_eq_some_iff] at hq
            obtain ⟨ρ2, q1, ⟨op, ρ4⟩, q2, q3⟩ := hq
            dsimp only at q3
            cases op with
            | val d =>
              cases q3
              exact ⟨ρ2, ρ4, d, fun s H C cl fp => bindT_ok (.nm j) (o.blk _ s H C cl fp) (by unfold chT; simpa using c5) q1, fun s H C cl fp => evIf_ok .no (o.blk _ s H C cl fp) rfl rfl, fun s H C cl fp => evE_ok elt (o.blk _ s H C cl fp) c6 q2, rfl⟩
            | slot i => cases q3
            | new ds => cases q3
          · simp only [Option.bind_eq_some_iff] at hq
            obtain ⟨ρ2, q1, ⟨op, ρ4⟩, q2, q3⟩ := hq
            dsimp only at q3
            cases op with
            | val d =>
              cases q3
              have := smp_ok elt c7 q2
              subst this
              simp only [setE] at q1
              split at q1
              · cases q1
                rw [List.getElem?_set_ne (Ne.symm c8)]
                simp only [wipeE]
                rw [List.getElem?_set_ne (Ne.symm c8)]
              · cases q1
            | slot i => cases q3
            | new ds => cases q3
        · cases h3
      · cases h
    · cases hc
  | .gn f elt t own it c, s, X, e, ρ, ρ', res, o, hc, h => by
    unfold chE at hc
    split at hc
    · simp only [Bool.and_eq_true, decide_eq_true_eq] at hc
      obtain ⟨⟨⟨⟨⟨⟨⟨⟨⟨⟨rfl, c1⟩, c2⟩, c3⟩, c4⟩, c5⟩, c6⟩, c7⟩, c8⟩, c9⟩, c10⟩ := hc
      simp only [evE, Option.bind_eq_some_iff, Option.map_eq_some_iff] at h
      obtain ⟨⟨ds, ρ1⟩, h1, ⟨out, ρn⟩, h2, d, h3, e⟩ := h
      cases e
      refine se_gn o c1 c2 c3 (by rw [← o.nm] at c4; rw [o.sc]; exact gnOk_by c4) (genFold_pure c5 (chIt_set c6)) (evIt_ok it o c6 h1) (ix := tgIx t) (fun i hi => ?_) (fun x ρa q hq => ?_) h2 h3
      · have := List.all_eq_true.mp c10 i hi
        simpa using this
      · simp only [Option.bind_eq_some_iff] at hq
        obtain ⟨ρ2, q1, ⟨b, ρ3⟩, q2, q3⟩ := hq
        refine ⟨ρ2, b, ρ3, fun A s H C code fp hr hg => bindT_ok t (o.gx _ A s H C code fp hr hg) c7 q1, fun A s H C code fp hr hg => evIf_ok c (o.gx _ A s H C code fp hr hg) c8 q2, ?_⟩
        dsimp only at q3
        cases b with
        | false =>
          rw [if_neg Bool.false_ne_true] at q3
          cases q3
          exact .inl ⟨rfl, rfl⟩
        | true =>
          rw [if_pos rfl] at q3
          simp only [Option.bind_eq_some_iff, Option.map_eq_some_iff] at q3
          obtain ⟨⟨op, ρ4⟩, q4, ⟨d, ρb⟩, q5, e⟩ := q3
          cases e
          exact .inr ⟨rfl, op, ρ4, d, ρb, fun A s H C code fp hr hg => evE_ok elt (o.gx _ A s H C code fp hr hg) c9 q4, q5, rfl⟩
    · cases hc
theorem evEs_ok : ∀ (irs : IEs) {s : Sc} {X : Cx} {es : List Expr} {ρ ρ' : En} {ops : List Op}, XOk T tb k s X → chEs s irs es = true → evEs T ρ irs = some (ops, ρ') → SA tb X es ρ ops ρ'
  | .nil, s, X, es, ρ, ρ', ops, o, hc, h => by
    unfold chEs at hc
    split at hc
    · simp only [evEs] at h
      cases h
      exact sa_nil
    · cases hc
  | .cons ir irs, s, X, es, ρ, ρ', ops, o, hc, h => by
    unfold chEs at hc
    split at hc
    · simp only [Bool.and_eq_true] at hc
      simp only [evEs, Option.bind_eq_some_iff, Option.map_eq_some_iff] at h
      obtain ⟨⟨oa, ρ1⟩, h1, ⟨os, ρ2⟩, h2, e⟩ := h
      cases e
      exact sa_cons (chE_ns hc.1) (evE_ok ir o hc.1 h1) (evEs_ok irs o hc.2 h2)
    · cases hc
theorem evSt_ok : ∀ (irs : IEs) {fl : List Bool} {s : Sc} {X : Cx} {es : List Expr} {ρ ρ' : En} {ds : List D}, XOk T tb k s X → chSt s fl irs es = true → evSt T ρ fl irs = some (ds, ρ') → SF tb X es ρ ds ρ'
  | .nil, fl, s, X, es, ρ, ρ', ds, o, hc, h => by
    unfold chSt at hc
    split at hc
    · unfold evSt at h
      split at h
      · cases h
        exact sf_nil
      · cases h
    · cases hc
  | .cons ir irs, fl, s, X, es, ρ, ρ', ds, o, hc, h => by
    unfold chSt at hc
    split at hc
    · simp only [Bool.and_eq_true] at hc
      simp only [evSt, Option.bind_eq_some_iff, Option.map_eq_some_iff] at h
      obtain ⟨⟨oa, ρ1⟩, h1, ⟨d, ρ2⟩, h2, ds0, h3, ⟨r, ρ3⟩, h4, e⟩ := h
      cases e
      exact sf_star (evE_ok ir o hc.1 h1) h2 h3 (evSt_ok irs o hc.2 h4)
    · simp only [Bool.and_eq_true] at hc
      simp only [evSt, Option.bind_eq_some_iff, Option.map_eq_some_iff] at h
      obtain ⟨⟨oa, ρ1⟩, h1, ⟨d, ρ2⟩, h2, ⟨r, ρ3⟩, h4, e⟩ := h
      cases e
      exact sf_cons (chE_ns hc.1) (evE_ok ir o hc.1 h1) h2 (evSt_ok irs o hc.2 h4)
    · cases hc
theorem evEs_ses : ∀ (irs : IEs) {s : Sc} {X : Cx} {es : List Expr} {ρ ρ' : En} {ops : List Op}, XOk T tb k s X → chEs s irs es = true → evEs T ρ irs = some (ops, ρ') → SEs tb X es ρ ops ρ'
  | .nil, s, X, es, ρ, ρ', ops, o, hc, h => by
    unfold chEs at hc
    split at hc
    · simp only [evEs] at h
      cases h
      exact .nil
    · cases hc
  | .cons ir irs, s, X, es, ρ, ρ', ops, o, hc, h => by
    unfold chEs at hc
    split at hc
    · simp only [Bool.and_eq_true] at hc
      simp only [evEs, Option.bind_eq_some_iff, Option.map_eq_some_iff] at h
      obtain ⟨⟨oa, ρ1⟩, h1, ⟨os, ρ2⟩, h2, e⟩ := h
      cases e
      exact .cons (chE_ns hc.1) (evE_ok ir o hc.1 h1) (evEs_ses irs o hc.2 h2)
    · cases hc
theorem evC_ok : ∀ (ir : IC) {s : Sc} {X : Cx} {e : Option Expr} {ρ ρ' : En} {i : Option Int}, XOk T tb k s X → chC s ir e = true → evC T ρ ir = some (i, ρ') → SO tb X e ρ i ρ'
  | .no, s, X, e, ρ, ρ', i, o, hc, h => by
    unfold chC at hc
    split at hc
    · simp only [evC] at h
      cases h
      exact so_no
    · cases hc
  | .so a, s, X, e, ρ, ρ', i, o, hc, h => by
    unfold chC at hc
    split at hc
    · simp only [evC, Option.bind_eq_some_iff] at h
      obtain ⟨⟨oa, ρ1⟩, h1, h2⟩ := h
      dsimp only at h2
      split at h2
      · rename_i hi
        cases h2
        exact so_so (evE_ok a o hc h1) hi
      · cases h2
    · cases hc
theorem evIf_ok : ∀ (ir : IC) {s : Sc} {X : Cx} {e : List Expr} {ρ ρ' : En} {b : Bool}, XOk T tb k s X → chIf s ir e = true → evIf T ρ ir = some (b, ρ') → STs tb X e ρ b ρ'
  | .no, s, X, e, ρ, ρ', i, o, hc, h => by
    unfold chIf at hc
    split at hc
    · simp only [evIf] at h
      cases h
      exact sts_nil
    · cases hc
  | .so a, s, X, e, ρ, ρ', i, o, hc, h => by
    unfold chIf at hc
    split at hc
    · simp only [evIf] at h
      exact sts_one (evT_ok a o hc h)
    · cases hc
theorem evT_ok : ∀ (ir : IE) {s : Sc} {X : Cx} {e : Expr} {ρ ρ' : En} {b : Bool}, XOk T tb k s X → chE s ir e = true → evT T ρ ir = some (b, ρ') → ST tb X e ρ b ρ'
  | .var i, s, X, e, ρ, ρ', op, o, hc, h => by
    have hc' := hc
    unfold chE at hc
    split at hc
    · simp only [evT, Option.bind_eq_some_iff, Option.map_eq_some_iff] at h
      obtain ⟨d, h1, b, h2, e⟩ := h
      cases e
      simp only [Bool.and_eq_true, decide_eq_true_eq] at hc
      have hs : ∃ sl, ρ[i]? = some sl ∧ sl ≠ .u := by
        simp only [viewOp] at h1
        split at h1
        · rename_i q; exact ⟨_, q, fun z => by cases z⟩
        · rename_i q; exact ⟨_, q, fun z => by cases z⟩
        · cases h1
      obtain ⟨sl, q1, q2⟩ := hs
      exact st_val rfl (se_var o hc.1.1 hc.1.2 hc.2 q1 q2) h1 h2
    · cases hc
  | .cst c, s, X, e, ρ, ρ', op, o, hc, h => by simp [evT] at h
  | .glb x, s, X, e, ρ, ρ', op, o, hc, h => by simp [evT] at h
  | .bin op a b, s, X, e, ρ, ρ', res, o, hc, h => by simp [evT] at h
  | .neg a, s, X, e, ρ, ρ', res, o, hc, h => by simp [evT] at h
  | .not a, s, X, e, ρ, ρ', res, o, hc, h => by
    unfold chE at hc
    split at hc
    · simp only [evT, Option.map_eq_some_iff] at h
      obtain ⟨⟨t, ρ1⟩, h1, e⟩ := h
      cases e
      exact st_not (evT_ok a o hc h1)
    · cases hc
  | .cmp op a b, s, X, e, ρ, ρ', res, o, hc, h => by
    unfold chE at hc
    split at hc
    · simp only [Bool.and_eq_true, decide_eq_true_eq] at hc
      obtain ⟨⟨rfl, c1⟩, c2⟩ := hc
      simp only [evT, Option.bind_eq_some_iff, Option.map_eq_some_iff] at h
      obtain ⟨⟨oa, ρ1⟩, h1, ⟨ob, ρ2⟩, h2, x, hx, y, hy, r, hr, e⟩ := h
      cases e
      exact st_cmp o (chE_set c2) (evE_ok a o c1 h1) (evE_ok b o c2 h2) hx hy hr
    · cases hc
  | .cmp2 op op2 a b c, s, X, e, ρ, ρ', res, o, hc, h => by
    unfold chE at hc
    split at hc
    · simp only [Bool.and_eq_true, decide_eq_true_eq] at hc
      obtain ⟨⟨⟨⟨rfl, rfl⟩, c1⟩, c2⟩, c3⟩ := hc
      simp only [evT, Option.bind_eq_some_iff] at h
      obtain ⟨⟨oa, ρ1⟩, h1, ⟨ob, ρ2⟩, h2, x, hx, y, hy, r, hr, h3⟩ := h
      cases r with
      | false =>
        rw [if_neg Bool.false_ne_true] at h3
        cases h3
        exact st_chain o (ρ3 := ρ) (db' := .none) (dc := .none) (chE_set c3) (evE_ok a o c1 h1) (evE_ok b o c2 h2) hx hy hr (.inl ⟨rfl, rfl, rfl⟩)
      | true =>
        rw [if_pos rfl] at h3
        simp only [Option.bind_eq_some_iff, Option.map_eq_some_iff] at h3
        obtain ⟨⟨oc, ρ3⟩, h4, y', hy', z, hz, r2, hr2, e⟩ := h3
        cases e
        exact st_chain o (chE_set c3) (evE_ok a o c1 h1) (evE_ok b o c2 h2) hx hy hr (.inr ⟨rfl, oc, evE_ok c o c3 h4, hy', hz, hr2, rfl⟩)
    · cases hc
  | .and a b, s, X, e, ρ, ρ', res, o, hc, h => by
    unfold chE at hc
    split at hc
    · simp only [Bool.and_eq_true] at hc
      simp only [evT] at h
      split at h
      · rename_i ρ1 h1
        exact st_andT (evT_ok a o hc.1 h1) (evT_ok b o hc.2 h)
      · rename_i ρ1 h1
        cases h
        exact st_andF (evT_ok a o hc.1 h1)
      · cases h
    · cases hc
  | .or a b, s, X, e, ρ, ρ', res, o, hc, h => by
    unfold chE at hc
    split at hc
    · simp only [Bool.and_eq_true] at hc
      simp only [evT] at h
      split at h
      · rename_i ρ1 h1
        cases h
        exact st_orT (evT_ok a o hc.1 h1)
      · rename_i ρ1 h1
        exact st_orF (evT_ok a o hc.1 h1) (evT_ok b o hc.2 h)
      · cases h
    · cases hc
  | .one a, s, X, e, ρ, ρ', res, o, hc, h => by
    unfold chE at hc
    split at hc
    · simp only [evT] at h
      exact st_one (evT_ok a o hc h)
    · cases hc
  | .ite c a b, s, X, e, ρ, ρ', res, o, hc, h => by simp [evT] at h
  | .tup es, s, X, e, ρ, ρ', res, o, hc, h => by simp [evT] at h
  | .lst es, s, X, e, ρ, ρ', res, o, hc, h => by simp [evT] at h
  | .idx a i, s, X, e, ρ, ρ', res, o, hc, h => by
    unfold chE at hc
    split at hc
    · simp only [Bool.and_eq_true] at hc
      simp only [evT, Option.bind_eq_some_iff, Option.map_eq_some_iff] at h
      obtain ⟨⟨oa, ρ1⟩, h1, ⟨ob, ρ2⟩, h2, x, hx, y, hy, r, hr, b, hb, e⟩ := h
      cases e
      exact st_val rfl (se_idx (chE_slice hc.2) (evE_ok a o hc.1 h1) (evE_ok i o hc.2 h2) hx hy hr) rfl hb
    · cases hc
  | .slc a lo hi, s, X, e, ρ, ρ', res, o, hc, h => by simp [evT] at h
  | .slb a lo hi, s, X, e, ρ, ρ', res, o, hc, h => by simp [evT] at h
  | .tupS fl es, s, X, e, ρ, ρ', res, o, hc, h => by simp [evT] at h
  | .lstS fl es, s, X, e, ρ, ρ', res, o, hc, h => by simp [evT] at h
  | .cal f es, s, X, e, ρ, ρ', res, o, hc, h => by
    unfold chE at hc
    split at hc
    · simp only [Bool.and_eq_true, decide_eq_true_eq] at hc
      obtain ⟨⟨⟨rfl, c1⟩, c2⟩, c3⟩ := hc
      simp only [evT, Option.bind_eq_some_iff, Option.map_eq_some_iff] at h
      obtain ⟨⟨ops, ρ1⟩, h1, fs, h2, ⟨r, ρ2⟩, h3, d, h4, b, h5, e⟩ := h
      cases e
      refine st_val rfl (se_call o c1 c2 h2 (chEs_ns c3) (evEs_ok es o c3 h1) (fun z => ?_) h3) h4 h5
      subst z
      cases es with
      | nil => simp only [evEs] at h1; cases h1; exact ⟨rfl, rfl⟩
      | cons a b => simp [chEs] at c3
    · cases hc
  | .calk f n es ks, s, X, e, ρ, ρ', res, o, hc, h => by
    unfold chE at hc
    split at hc
    · simp only [Bool.and_eq_true, decide_eq_true_eq] at hc
      obtain ⟨⟨⟨⟨⟨⟨rfl, c1⟩, c2⟩, c3⟩, c4⟩, c5⟩, _⟩ := hc
      simp only [evT, Option.bind_eq_some_iff, Option.map_eq_some_iff] at h
      obtain ⟨⟨ops, ρ1⟩, h1, ⟨ds, ρ2⟩, h2, pm, h3, fs, h4, ⟨r, ρ3⟩, h5, d, h6, b, h7, e⟩ := h
      cases e
      exact st_val rfl (se_calk o c1 c2 h3 h4 (fun e' he => chEs_ns c3 e' (List.mem_append_left _ he)) c4 c5 (evEs_ses es o c3 h1) h2 h5) h6 h7
    · cases hc
  | .bi f es, s, X, e, ρ, ρ', res, o, hc, h => by
    unfold chE at hc
    split at hc
    · simp only [Bool.and_eq_true, decide_eq_true_eq] at hc
      obtain ⟨⟨⟨rfl, c1⟩, c2⟩, c3⟩ := hc
      simp only [evT, Option.bind_eq_some_iff, Option.map_eq_some_iff] at h
      obtain ⟨⟨ops, ρ1⟩, h1, ds, h2, r, h3, d, h4, b, h5, e⟩ := h
      cases e
      refine st_val rfl (se_bi o c1 c2 (chEs_ns c3) (fun z => ?_) (evEs_ok es o c3 h1) h2 h3) h4 h5
      subst z
      cases es with
      | nil => simp only [evEs] at h1; cases h1; rfl
      | cons a b => simp [chEs] at c3
    · cases hc
  | .isi a t, s, X, e, ρ, ρ', res, o, hc, h => by
    unfold chE at hc
    split at hc
    · simp only [Bool.and_eq_true, decide_eq_true_eq] at hc
      obtain ⟨⟨⟨⟨⟨⟨rfl, c1⟩, rfl⟩, c2⟩, c3⟩, c4⟩, c5⟩ := hc
      simp only [evT, Option.bind_eq_some_iff, Option.map_eq_some_iff] at h
      obtain ⟨⟨oa, ρ1⟩, h1, x, hx, b, hb, e⟩ := h
      cases e
      exact st_val rfl (se_isi o c5 c1 c2 c3 (chE_ns c4) (evE_ok a o c4 h1) hx hb) rfl rfl
    · cases hc
  | .lc elt t own it c, s, X, e, ρ, ρ', res, o, hc, h => by simp [evT] at h
  | .lcO elt j nm i, s, X, e, ρ, ρ', res, o, hc, h => by simp [evT] at h
  | .gn f elt t own it c, s, X, e, ρ, ρ', res, o, hc, h => by
    unfold chE at hc
    split at hc
    · simp only [Bool.and_eq_true, decide_eq_true_eq] at hc
      obtain ⟨⟨⟨⟨⟨⟨⟨⟨⟨⟨rfl, c1⟩, c2⟩, c3⟩, c4⟩, c5⟩, c6⟩, c7⟩, c8⟩, c9⟩, c10⟩ := hc
      simp only [evT, Option.bind_eq_some_iff, Option.map_eq_some_iff] at h
      obtain ⟨⟨ds, ρ1⟩, h1, ⟨out, ρn⟩, h2, d, h3, bb, h4, e⟩ := h
      cases e
      refine st_val (op := .val d) rfl ?_ rfl h4
      refine se_gn o c1 c2 c3 (by rw [← o.nm] at c4; rw [o.sc]; exact gnOk_by c4) (genFold_pure c5 (chIt_set c6)) (evIt_ok it o c6 h1) (ix := tgIx t) (fun i hi => ?_) (fun x ρa q hq => ?_) h2 h3
      · have := List.all_eq_true.mp c10 i hi
        simpa using this
      · simp only [Option.bind_eq_some_iff] at hq
        obtain ⟨ρ2, q1, ⟨b, ρ3⟩, q2, q3⟩ := hq
        refine ⟨ρ2, b, ρ3, fun A s H C code fp hr hg => bindT_ok t (o.gx _ A s H C code fp hr hg) c7 q1, fun A s H C code fp hr hg => evIf_ok c (o.gx _ A s H C code fp hr hg) c8 q2, ?_⟩
        dsimp only at q3
        cases b with
        | false =>
          rw [if_neg Bool.false_ne_true] at q3
          cases q3
          exact .inl ⟨rfl, rfl⟩
        | true =>
          rw [if_pos rfl] at q3
          simp only [Option.bind_eq_some_iff, Option.map_eq_some_iff] at q3
          obtain ⟨⟨op, ρ4⟩, q4, ⟨d, ρb⟩, q5, e⟩ := q3
          cases e
          exact .inr ⟨rfl, op, ρ4, d, ρb, fun A s H C code fp hr hg => evE_ok elt (o.gx _ A s H C code fp hr hg) c9 q4, q5, rfl⟩
    · cases hc
theorem evIt_ok : ∀ (ir : IT) {s : Sc} {X : Cx} {tg e : Expr} {ρ ρ' : En} {ds : List D}, XOk T tb k s X → chIt s ir tg e = true → evIt T ρ ir = some (ds, ρ') → SI tb X tg e ρ ds ρ'
  | .ex a, s, X, tg, e, ρ, ρ', ds, o, hc, h => by
    simp only [chIt] at hc
    simp only [evIt, Option.bind_eq_some_iff] at h
    obtain ⟨⟨oa, ρ1⟩, h1, ⟨d, ρ2⟩, h2, h3⟩ := h
    dsimp only at h3
    split at h3
    · cases h3
      exact si_ex (evE_ok a o hc h1) h2 (.inl rfl)
    · cases h3
      exact si_ex (evE_ok a o hc h1) h2 (.inr rfl)
    · cases h3
  | .r1 a, s, X, tg, e, ρ, ρ', ds, o, hc, h => by
    simp only [chIt] at hc
    split at hc
    · simp only [Bool.and_eq_true, decide_eq_true_eq] at hc
      obtain ⟨⟨rfl, c1⟩, c2⟩ := hc
      simp only [evIt, Option.bind_eq_some_iff] at h
      obtain ⟨⟨oa, ρ1⟩, h1, h3⟩ := h
      dsimp only at h3
      split at h3
      · split at h3
        · rename_i hv hj
          cases h3
          exact si_r1 o c1 (chE_ns c2) (evE_ok a o c2 h1) hv hj
        · cases h3
      · cases h3
    · cases hc
  | .r2 a b, s, X, tg, e, ρ, ρ', ds, o, hc, h => by
    simp only [chIt] at hc
    split at hc
    · simp only [Bool.and_eq_true, decide_eq_true_eq] at hc
      obtain ⟨⟨⟨rfl, c1⟩, c2⟩, c3⟩ := hc
      simp only [evIt, Option.bind_eq_some_iff] at h
      obtain ⟨⟨oa, ρ1⟩, h1, ⟨ob, ρ2⟩, h2, h3⟩ := h
      dsimp only at h3
      split at h3
      · split at h3
        · rename_i hv hv2 hj
          cases h3
          rw [Bool.and_eq_true] at hj
          exact si_r2 o c1 (chE_ns c2) (chE_ns c3) (evE_ok a o c2 h1) (evE_ok b o c3 h2) hv hv2 hj.1 hj.2
        · cases h3
      · cases h3
    · cases hc
  | .r3 es, s, X, tg, e, ρ, ρ', ds, o, hc, h => by
    simp only [chIt] at hc
    split at hc
    · simp only [Bool.and_eq_true, decide_eq_true_eq] at hc
      obtain ⟨⟨rfl, c1⟩, c2⟩ := hc
      simp only [evIt, Option.bind_eq_some_iff] at h
      obtain ⟨⟨ops, ρ1⟩, h1, h3⟩ := h
      dsimp only at h3
      split at h3
      · split at h3
        · rename_i hv hj
          cases h3
          rw [Bool.and_eq_true] at hj
          exact si_r3 o c1 (chEs_ns c2) (evEs_ok es o c2 h1) hv hj.1 hj.2
        · cases h3
      · cases h3
    · cases hc
  | .en a, s, X, tg, e, ρ, ρ', ds, o, hc, h => by
    simp only [chIt] at hc
    split at hc
    · simp only [Bool.and_eq_true, decide_eq_true_eq] at hc
      obtain ⟨⟨rfl, c1⟩, c2⟩ := hc
      simp only [evIt, Option.bind_eq_some_iff] at h
      obtain ⟨⟨oa, ρ1⟩, h1, ⟨d, ρ2⟩, h2, h3⟩ := h
      dsimp only at h3
      split at h3
      · cases h3
        exact si_en o c1 (chE_ns c2) (evE_ok a o c2 h1) h2
      · cases h3
        exact si_enT o c1 (chE_ns c2) (evE_ok a o c2 h1) h2
      · cases h3
    · cases hc
  | .zp a b, s, X, tg, e, ρ, ρ', ds, o, hc, h => by
    simp only [chIt] at hc
    split at hc
    · simp only [Bool.and_eq_true, decide_eq_true_eq] at hc
      obtain ⟨⟨⟨rfl, c1⟩, c2⟩, c3⟩ := hc
      simp only [evIt, Option.bind_eq_some_iff] at h
      obtain ⟨⟨oa, ρ1⟩, h1, ⟨ob, ρ2⟩, h2, ⟨l, ρ3⟩, h3, h4⟩ := h
      dsimp only at h3 h4
      split at h4
      · cases h4
        exact si_zp o c1 (chE_ns c2) (chE_ns c3) (evE_ok a o c2 h1) (evE_ok b o c3 h2) h3 (.inl ⟨rfl, rfl⟩)
      · cases h4
        exact si_zp o c1 (chE_ns c2) (chE_ns c3) (evE_ok a o c2 h1) (evE_ok b o c3 h2) h3 (.inr ⟨rfl, rfl⟩)
      · cases h4
        exact si_zp2 o c1 (chE_ns c2) (chE_ns c3) (evE_ok a o c2 h1) (evE_ok b o c3 h2) h3
      · cases h4
    · cases hc
  | .zp3 es, s, X, tg, e, ρ, ρ', ds, o, hc, h => by
    simp only [chIt] at hc
    split at hc
    · simp only [Bool.and_eq_true, decide_eq_true_eq] at hc
      obtain ⟨⟨rfl, c1⟩, c2⟩ := hc
      simp only [evIt, Option.bind_eq_some_iff] at h
      obtain ⟨⟨ops, ρ1⟩, h1, ⟨l, ρ2⟩, h2, h3⟩ := h
      dsimp only at h2 h3
      split at h3
      · cases h3
        exact si_zp3 o c1 (chEs_ns c2) (evEs_ok es o c2 h1) h2
      · cases h3
    · cases hc
  | .zps a, s, X, tg, e, ρ, ρ', ds, o, hc, h => by
    simp only [chIt] at hc
    split at hc
    · simp only [Bool.and_eq_true, decide_eq_true_eq] at hc
      obtain ⟨⟨rfl, c1⟩, c2⟩ := hc
      simp only [evIt, Option.bind_eq_some_iff] at h
      obtain ⟨⟨oa, ρ1⟩, h1, ⟨d, ρ2⟩, h2, h3⟩ := h
      dsimp only at h2 h3
      split at h3
      · cases h3
        exact si_zps o c1 (evE_ok a o c2 h1) h2
      · cases h3
    · cases hc
theorem bindT_ok : ∀ (t : Tg) {s : Sc} {X : Cx} {e : Expr} {ρ ρ' : En} {d : D}, XOk T tb k s X → chT s t e = true → bindT ρ t d = some ρ' → SG tb X e (tgIx t) ρ d ρ'
  | .nm i, s, X, e, ρ, ρ', d, o, hc, h => by
    unfold chT at hc
    split at hc
    · simp only [Bool.and_eq_true, decide_eq_true_eq] at hc
      simp only [bindT] at h
      simp only [tgIx]
      exact sg_nm o hc.1 hc.2 h
    · cases hc
  | .sub i ix, s, X, e, ρ, ρ', d, o, hc, h => by simp [bindT] at h
  | .tup ts, s, X, e, ρ, ρ', d, o, hc, h => by
    unfold chT at hc
    split at hc
    · simp only [bindT] at h
      split at h
      · simp only [tgIx]
        obtain ⟨h1, h2⟩ := bindTs_ok ts o hc h
        exact sg_tup o (chTs_ns hc) h1 h2
      · cases h
    · cases hc
theorem bindTs_ok : ∀ (ts : Tgs) {s : Sc} {X : Cx} {es : List Expr} {ρ ρ' : En} {ds : List D}, XOk T tb k s X → chTs s ts es = true → bindTs ρ ts ds = some ρ' → SGs tb X es (tgsIx ts) ρ ds ρ' ∧ es.length = ds.length
  | .nil, s, X, es, ρ, ρ', ds, o, hc, h => by
    unfold chTs at hc
    split at hc
    · simp only [bindTs] at h
      split at h
      · cases h
        simp only [tgsIx]
        exact ⟨sgs_nil, rfl⟩
      · cases h
    · cases hc
  | .cons t ts, s, X, es, ρ, ρ', ds, o, hc, h => by
    unfold chTs at hc
    split at hc
    · simp only [Bool.and_eq_true] at hc
      simp only [bindTs] at h
      split at h
      · simp only [Option.bind_eq_some_iff] at h
        obtain ⟨ρ1, h1, h2⟩ := h
        simp only [tgsIx]
        obtain ⟨h3, h4⟩ := bindTs_ok ts o hc.2 h2
        exact ⟨sgs_cons (chT_ns hc.1) (bindT_ok t o hc.1 h1) h3, by rw [List.length_cons, List.length_cons, h4]⟩
      · cases h
    · cases hc
end
end
end Ev

set_option maxHeartbeats 4000000
namespace Ev
open PySem PySem.Spec PyProof.Rows L2

/-! ### statements -/
def EndsOk (D : Ends) (K : PySem.W.Frag) (tb : List Addr) (pa : Nat → Addr) (B F : Hp) : Oc → Prop
  | .nx ρ' => ∀ F' σ' H', Sm F F' → Rel K tb pa B F' σ' H' ρ' → D.nx σ' H'
  | .rt d ρ' => ∀ v F' σ' H', Sm F F' → Rel K tb pa B F' σ' H' ρ' → Rp K F' v d → D.rt v H'
  | .rn ds ρ' => ∀ p ws F' σ' H', Sm F F' → Rel K tb pa B F' σ' H' ρ' → H' p = some (.lst ws) → F' p = none → B p = none → RpAll K F' ws ds → D.rt (.ref p) H'
  | .bk ρ' => ∀ F' σ' H', Sm F F' → Rel K tb pa B F' σ' H' ρ' → D.bk σ' H'
  | .ct ρ' => ∀ F' σ' H', Sm F F' → Rel K tb pa B F' σ' H' ρ' → D.ct σ' H'
theorem EndsOk.mono {D : Ends} {K : PySem.W.Frag} {tb : List Addr} {pa : Nat → Addr} {B F F' : Hp} {oc : Oc} (h : EndsOk D K tb pa B F oc) (s : Sm F F') : EndsOk D K tb pa B F' oc := by
  cases oc with
  | nx ρ' => exact fun F2 σ' H' s2 r => h F2 σ' H' (s.trans s2) r
  | rt d ρ' => exact fun v F2 σ' H' s2 r => h v F2 σ' H' (s.trans s2) r
  | rn ds ρ' => exact fun p ws F2 σ' H' s2 r => h p ws F2 σ' H' (s.trans s2) r
  | bk ρ' => exact fun F2 σ' H' s2 r => h F2 σ' H' (s.trans s2) r
  | ct ρ' => exact fun F2 σ' H' s2 r => h F2 σ' H' (s.trans s2) r
section
variable (tb : List Addr) (X : Cx)
def SS (st : Stmt) (ρ : En) (oc : Oc) : Prop := ∀ pa B F σ H, Rel X.K tb pa B F σ H ρ → ∀ D, EndsOk D X.K tb pa B F oc → WS X st D σ H
def SSs (sts : List Stmt) (ρ : En) (oc : Oc) : Prop := ∀ pa B F σ H, Rel X.K tb pa B F σ H ρ → ∀ D, EndsOk D X.K tb pa B F oc → WSs X sts D σ H
def SGo (tg : Expr) (ρ : En) (op : Op) (ρ' : En) : Prop := ∀ pa B F σ H x, Rel X.K tb pa B F σ H ρ → OpR X.K B F H σ ρ x op → ∀ Q : St → Hp → Prop, (∀ F' σ' H', Sm F F' → Rel X.K tb pa B F' σ' H' ρ' → Q σ' H') → WG X tg x σ H Q
end
section
variable {T : Tb} {tb : List Addr} {k : Nat} {s : Sc} {X : Cx} {a b c e tg : Expr} {es : List Expr} {ρ ρ1 ρ2 ρ3 : En} {oa ob oc op res : Op} {ops : List Op} {ds : List D} {d : D} {pa : Nat → Addr} {B F H : Hp} {σ : St} {pos : Pos} {r1 r2 : Bool} {st : Stmt} {sts : List Stmt} {out : Oc}

theorem sss_nil : SSs tb X [] ρ (.nx ρ) := fun pa B F σ H r D h => wss_of pss_nil (h F σ H (Sm.refl _) r)
theorem sss_nx (h1 : SS tb X st ρ (.nx ρ1)) (h2 : SSs tb X sts ρ1 out) : SSs tb X (st :: sts) ρ out := by
  intro pa B F σ H r D h
  refine wss_of (pss_cons (ps_ws X st) (pss_wss X sts)) (h1 pa B F σ H r _ fun F' σ' H' s' r' => ?_)
  exact h2 pa B F' σ' H' r' D (h.mono s')
theorem sss_end (h1 : SS tb X st ρ out) (hn : ∀ ρ', out ≠ .nx ρ') : SSs tb X (st :: sts) ρ out := by
  intro pa B F σ H r D h
  refine wss_of (pss_cons (ps_ws X st) (pss_wss X sts)) (h1 pa B F σ H r _ ?_)
  cases out with
  | nx ρ' => exact absurd rfl (hn ρ')
  | rt d ρ' => exact h
  | rn ds ρ' => exact h
  | bk ρ' => exact h
  | ct ρ' => exact h
theorem ss_pass : SS tb X (.Pass pos) ρ (.nx ρ) := fun pa B F σ H r D h => ws_of ps_pass (h F σ H (Sm.refl _) r)
theorem ss_brk : SS tb X (.Break pos) ρ (.bk ρ) := fun pa B F σ H r D h => ws_of ps_break (h F σ H (Sm.refl _) r)
theorem ss_cnt : SS tb X (.Continue pos) ρ (.ct ρ) := fun pa B F σ H r D h => ws_of ps_continue (h F σ H (Sm.refl _) r)
theorem ss_retN : SS tb X (.Return none pos) ρ (.rt .none ρ) := fun pa B F σ H r D h => ws_of ps_retN (h .non F σ H (Sm.refl _) r .non)
theorem ss_ret (ha : SE tb X a ρ op ρ1) (hk : keepOp ρ1 op = some (d, ρ2)) : SS tb X (.Return (some a) pos) ρ (.rt d ρ2) := by
  intro pa B F σ H r D h
  refine ws_of (ps_ret (pe_we X a)) (ha pa B F σ H r _ fun x F' H' s' r' o' => ?_)
  obtain ⟨F2, s2, r2, dp⟩ := keep_ok r' o' hk
  exact h x F2 σ H' (s'.trans s2) r2 dp
theorem ss_if {t : Bool} {p q : List Stmt} (hc : ST tb X c ρ t ρ1) (ht : t = true → SSs tb X p ρ1 out) (hf : t = false → SSs tb X q ρ1 out) : SS tb X (.If c p q pos) ρ out := by
  intro pa B F σ H r D h
  refine ws_of (ps_if (pt_wt X c) (pss_wss X p) (pss_wss X q)) (hc pa B F σ H r _ fun F' H' s' r' => ?_)
  cases t with
  | true => rw [if_pos rfl]; exact ht rfl pa B F' σ H' r' D (h.mono s')
  | false => rw [if_neg Bool.false_ne_true]; exact hf rfl pa B F' σ H' r' D (h.mono s')

/-! ### stores -/
theorem sgo_nm (o : XOk T tb k s X) {i : Nat} {x : Str} (hN : s.N[i]? = some x) (hs : stB s x = true) (h : stOp ρ i op = some ρ1) : SGo tb X (.Name x pos) ρ op ρ1 := by
  intro pa B F σ H y r oy Q q
  obtain ⟨h1, h2⟩ := stB_ok o hs
  refine wg_of (pg_name o.nd (by rw [o.nm]; exact hN) h1 h2) ?_
  cases op with
  | val d =>
    simp only [stOp, setE] at h
    split at h
    · rename_i hi
      cases h
      exact q F _ H (Sm.refl _) (r.store oy (of_decide_eq_true hi))
    · cases h
  | new ds =>
    simp only [stOp, setE] at h
    split at h
    · rename_i hi
      cases h
      obtain ⟨p, vs, rfl, hp, hf, hb, off, dp⟩ := oy
      exact q F _ H (Sm.refl _) (r.storeNew hp hf hb off dp (of_decide_eq_true hi))
    · cases h
  | slot j =>
    simp only [stOp, Option.bind_eq_some_iff] at h
    obtain ⟨⟨d, ρ'⟩, hk, h⟩ := h
    obtain ⟨F2, s2, r2, dp⟩ := keep_ok r oy hk
    simp only [setE] at h
    split at h
    · rename_i hi
      cases h
      exact q F2 _ H s2 (r2.store dp (of_decide_eq_true hi))
    · cases h
theorem ixN_rp {K : PySem.W.Frag} {xs : List V} {i : Int} {j : Nat} (r : RpAll K F xs ds) (h : ixN ds.length i = some j) : ixN xs.length i = some j := by rw [RpAll.length r]; exact h
theorem sgo_sub (o : XOk T tb k s X) {i : Nat} {x : Str} {ix : Expr} {px : Pos} {mt : Bool} {kk : Int} {j : Nat} {ρk : En} (hN : s.N[i]? = some x) (hv : visB s.sc x = true) (hx : okN x = true) (hs : noSlice ix = true)
    (hk : keepOp ρ op = some (d, ρk)) (hi : SE tb X ix ρk ob ρ1) (hd : viewOp ρ1 ob = some (.int kk)) (hl : ρ1[i]? = some (.o mt ds)) (hu : ∃ sl, ρk[i]? = some sl ∧ sl ≠ .u) (hj : ixN ds.length kk = some j) : SGo tb X (.Subscript (.Name x px) ix pos) ρ op (ρ1.set i (.o mt (ds.set j d))) := by
  intro pa B F σ H y r oy Q q
  obtain ⟨sl, u1, u2⟩ := hu
  refine wg_of (pg_sub (pe_we X _) (pe_we X ix) set_list (fun v => by cases ix <;> first | rfl | cases hs)) ?_
  obtain ⟨F2, s2, r2, dp⟩ := keep_ok r oy hk
  refine se_var (T := T) o hN hv hx u1 u2 pa B F2 σ H r2 _ fun z F3 H3 s3 r3 o3 => ?_
  refine hi.use r3 hd fun w F4 H4 s4 r4 v => ?_
  obtain ⟨p, vs, a1, m1, b1, c1, e1, f1⟩ := r4.sl i _ hl
  have o3 : σ[i]? = some (some z) := o3
  rw [a1] at o3
  cases o3
  refine ⟨p, vs, kk, j, rfl, v.intE, b1, ixN_rp f1 hj, ?_⟩
  exact q F4 σ _ ((s2.trans s3).trans s4) (r4.write hl a1 b1 (RpAll.set (Rp.mono (s3.trans s4) dp) j f1))
def SGov (tb : List Addr) (X : Cx) (es : List Expr) (ρ : En) (ds : List D) (ρ' : En) : Prop := ∀ pa B F σ H xs, Rel X.K tb pa B F σ H ρ → RpAll X.K F xs ds → ∀ Q : St → Hp → Prop, (∀ F' σ' H', Sm F F' → Rel X.K tb pa B F' σ' H' ρ' → Q σ' H') → WGs X es xs σ H Q
theorem sgov_nil : SGov tb X [] ρ [] ρ := fun pa B F σ H xs r rp Q q => by
  cases rp
  exact wgs_of pgs_nil ⟨rfl, q F σ H (Sm.refl _) r⟩
theorem sgov_cons (hn : noStar e = true) (h1 : SGo tb X e ρ (.val d) ρ1) (h2 : SGov tb X es ρ1 ds ρ2) : SGov tb X (e :: es) ρ (d :: ds) ρ2 := by
  intro pa B F σ H xs r rp Q q
  cases rp with
  | cons a rr =>
    refine wgs_of (pgs_cons (pg_wg X e) (pgs_wgs X es) (by rw [asg_cons hn]; rfl)) ⟨_, _, rfl, ?_⟩
    refine h1 pa B F σ H _ r a _ fun F1 σ1 H1 s1 r1 => ?_
    exact h2 pa B F1 σ1 H1 _ r1 (RpAll.mono s1 rr) _ fun F2 σ2 H2 s2 r2 => q F2 σ2 H2 (s1.trans s2) r2
theorem sgo_tup (o : XOk T tb k s X) {j : Nat} {ρk : En} (hn : ∀ e ∈ es, noStar e = true) (hk : keepOp ρ op = some (.tuple ds, ρk)) (h : SGov tb X es ρk ds ρ1) (hl : es.length = ds.length) : SGo tb X (.Tuple es j pos) ρ op ρ1 := by
  intro pa B F σ H y r oy Q q
  obtain ⟨h1, h2⟩ := asg_plain X.env hn
  obtain ⟨F2, s2, r2, dp⟩ := keep_ok r oy hk
  cases dp with
  | tup a b =>
    refine wg_of (pg_tup o.calm (pgs_wgs X es) h1 h2) ⟨_, _, rfl, SqT.mono r2.wf.fz a, by rw [RpAll.length b]; exact hl.symm, ?_⟩
    exact h pa B F2 σ H _ r2 b Q fun F' σ' H' s' r' => q F' σ' H' (s2.trans s') r'

theorem sgo_tupL (o : XOk T tb k s X) {j : Nat} {ρk : En} (hn : ∀ e ∈ es, noStar e = true) (hk : keepOp ρ op = some (.list ds, ρk)) (h : SGov tb X es ρk ds ρ1) (hl : es.length = ds.length) : SGo tb X (.Tuple es j pos) ρ op ρ1 := by
  intro pa B F σ H y r oy Q q
  obtain ⟨h1, h2⟩ := asg_plain X.env hn
  obtain ⟨F2, s2, r2, dp⟩ := keep_ok r oy hk
  cases dp with
  | lst a b =>
    refine wg_of (UL.pg_tupL o.calm (pgs_wgs X es) h1 h2) ⟨_, _, rfl, .inl (Rd.mono r2.wf.fz a), by rw [RpAll.length b]; exact hl.symm, ?_⟩
    exact h pa B F2 σ H _ r2 b Q fun F' σ' H' s' r' => q F' σ' H' (s2.trans s') r'
/-- how an assignment is carried out -/
def swB (s : Sc) (x : Str) (px : Pos) (scope : Scope) (lp : Pos) : Bool := s.sc.names.lookup x == some .local && px.line == lp.line && !(scope.names.any fun (n, k) => n == x && (k == .local || k == .cell))
theorem bk_of {X : Cx} (h : X.env.scope.kind = .function) : X.env.blockKind = .function := by unfold Env.blockKind; rw [h]; rfl
theorem sw_lc (o : XOk T tb k s X) (hk : X.env.scope.kind = .function) {elt : Expr} {gs : List Comprehension} {scope : Scope} {lp px : Pos} {x : Str} {l : Nat} : swapsWith (.ListComp elt gs scope lp) (some (.Name x px)) l X.env = pure (swB s x px scope lp) := by
  show (pure (X.env.blockKind == .function && X.env.kindOf x == some .local && px.line == lp.line && !(scope.names.any fun (n, k) => n == x && (k == .local || k == .cell))) : Sem Bool) = _
  rw [bk_of hk]
  unfold Env.kindOf
  rw [o.sc]
  rfl
theorem sw_plain {e : Expr} (h : plainC e = true) (t : Option Expr) (l : Nat) (env : Env) : swapsWith e t l env = pure false := by
  cases e <;> first | rfl | cases h
def isTup : Expr → Bool
  | .Tuple .. => true
  | _ => false
theorem swS_name {x : Str} {p : Pos} (e : Expr) (env : Env) : swappedStores [.Name x p] e env = pure none := by cases e <;> rfl
theorem swS_sub {o i : Expr} {p : Pos} (e : Expr) (env : Env) : swappedStores [.Subscript o i p] e env = pure none := by cases e <;> rfl
theorem swS_tup {ts : List Expr} {j : Nat} {p : Pos} {e : Expr} (h : isTup e = false) (env : Env) : swappedStores [.Tuple ts j p] e env = pure none := by cases e <;> first | rfl | cases h
theorem ss_asg (hsw : swapsWith a (some tg) pos.line X.env = pure false) (hw : swappedStores [tg] a X.env = pure none) (hn : noStar tg = true) (ha : SE tb X a ρ op ρ1) (hg : SGo tb X tg ρ1 op ρ2) : SS tb X (.Assign [tg] a pos) ρ (.nx ρ2) := by
  intro pa B F σ H r D h
  refine ws_of (ps_asg (pe_we X a) (pg_wg X tg) hsw hw (by rw [asg_cons hn]; rfl)) (ha pa B F σ H r _ fun x F' H' s' r' o' => ?_)
  exact hg pa B F' σ H' x r' o' _ fun F2 σ2 H2 s2 r2 => h F2 σ2 H2 (s'.trans s2) r2
theorem ss_setLc (o : XOk T tb k s X) {i : Nat} {y : Str} {py : Pos} {elt tg iter : Expr} {ifs : List Expr} {scope : Scope} {own : List (Str × Nat)} {lp : Pos} {o2 : List D} (hN : s.N[i]? = some y) (hsw : swB s y py scope lp = true) (ok : BlkOk X.N X.env.scope scope own) (hfold : ∀ x, foldedSetIterable iter X.env x = pure x)
    (h : SLc tb X elt tg iter ifs scope (own.map (·.2)) ρ o2 ρ1) (hs : stOp ρ1 i (.new o2) = some ρ2) : SS tb X (.Assign [.Name y py] (.ListComp elt [⟨tg, iter, ifs, 0⟩] scope lp) pos) ρ (.nx ρ2) := by
  intro pa B F σ H r D hD pins s0 I
  have hloc : X.env.scope.names.lookup y = some .local := by
    unfold swB at hsw
    simp only [Bool.and_eq_true, beq_iff_eq] at hsw
    rw [o.sc]; exact hsw.1.1
  have hsw' : swapsWith (.ListComp elt [⟨tg, iter, ifs, 0⟩] scope lp) (some (.Name y py)) pos.line X.env = pure true := by rw [sw_lc o I.ok.kind, hsw]
  refine ws_of (ps_setLc o.calm o.nd (by rw [o.nm]; exact hN) hloc hsw' (pi_wi X tg iter) ok (pg_gB X scope tg) (pts_ttB X scope ifs) (pe_teB X scope elt) hfold) ?_ pins s0 I
  refine h pa B F σ H r _ fun x F' H' s' r' o' => ?_
  simp only [stOp, setE] at hs
  split at hs
  · rename_i hi
    cases hs
    obtain ⟨p, vs, rfl, hp, hf, hb, off, dp⟩ := o'
    exact hD F' _ H' s' (r'.storeNew hp hf hb off dp (of_decide_eq_true hi))
  · cases hs
def swK (s : Sc) (ts vs : List Expr) : Option (Option (List Str)) :=
  if (!(ts.length == 2 || ts.length == 3) || vs.length != ts.length) = true then some none
  else if (vs.any fun | .Starred .. => true | _ => false) = true then some none
  else
    let line := (ts.head?.map (·.pos.line)).getD 0
    let names := ts.filterMap fun
      | .Name id pos => if s.sc.names.lookup id == some .local && pos.line == line then some id else none
      | _ => none
    if (names.length != ts.length || names.eraseDups.length != names.length) = true then some none
    else if vs.all (foldedForSure 8) = true then some none
    else if vs.all (constantsAlone 8) = true then none
    else some (some names)
theorem swK_ok (o : XOk T tb k s X) (hk : X.env.scope.kind = .function) {ts vs : List Expr} {j j2 : Nat} {p p2 : Pos} {r : Option (List Str)} (h : swK s ts vs = some r) : swappedStores [.Tuple ts j p] (.Tuple vs j2 p2) X.env = pure r := by
  have hb := bk_of hk
  have e : swappedStores [.Tuple ts j p] (.Tuple vs j2 p2) X.env = (
    if (!(ts.length == 2 || ts.length == 3) || vs.length != ts.length || X.env.blockKind != .function) = true then pure none
    else if (vs.any fun | .Starred .. => true | _ => false) = true then pure none
    else
      let line := (ts.head?.map (·.pos.line)).getD 0
      let names := ts.filterMap fun
        | .Name id pos => if X.env.kindOf id == some .local && pos.line == line then some id else none
        | _ => none
      if (names.length != ts.length || names.eraseDups.length != names.length) = true then pure none
      else if vs.all (foldedForSure 8) = true then pure none
      else if vs.all (constantsAlone 8) = true then (do unsupported "assign.tuple-of-constant-expressions:order-of-the-stores"; pure (some names))
      else pure (some names)) := by
    unfold swappedStores
    rfl
  rw [e, hb]
  have hq : (ScopeKind.function != ScopeKind.function) = false := by decide
  rw [hq, Bool.or_false]
  unfold Env.kindOf
  rw [o.sc]
  unfold swK at h
  split at h
  · rename_i c; cases h; rw [if_pos c]
  · rename_i c
    rw [if_neg c]
    split at h
    · rename_i c; cases h; rw [if_pos c]
    · rename_i c
      rw [if_neg c]
      dsimp only at h ⊢
      split at h
      · rename_i c; cases h; rw [if_pos c]
      · rename_i c
        rw [if_neg c]
        split at h
        · rename_i c; cases h; rw [if_pos c]
        · rename_i c
          rw [if_neg c]
          split at h
          · cases h
          · rename_i c; cases h; rw [if_neg c]

/-! ### several names at once -/
def nonSlot : Op → Prop
  | .slot _ => False
  | _ => True
theorem settle_ok : ∀ {xs : List V} {os os' : List Op} {B : Hp} {ρ ρ' : En}, Rel X.K tb pa B F σ H ρ → OpRs X.K tb pa F H σ ρ B xs os → settle ρ os = some (os', ρ') → ∃ F', Sm F F' ∧ Rel X.K tb pa B F' σ H ρ' ∧ OpRs X.K tb pa F' H σ ρ' B xs os' ∧ ∀ o ∈ os', nonSlot o
  | [], [], os', B, ρ, ρ', r, _, e => by cases e; exact ⟨F, Sm.refl _, r, trivial, fun o h => by cases h⟩
  | x :: xs, o :: os, os', B, ρ, ρ', r, ⟨h, B1, s1, n1, r1, hs⟩, e => by
    simp only [settle, Option.bind_eq_some_iff, Option.map_eq_some_iff] at e
    obtain ⟨⟨os1, ρ1⟩, e1, ⟨o1, ρ2⟩, e2, e3⟩ := e
    cases e3
    obtain ⟨F1, sF, rF, osF, ns⟩ := settle_ok r1 hs e1
    have keep : o1 = o → ρ2 = ρ1 → nonSlot o → ∃ F', Sm F F' ∧ Rel X.K tb pa B F' σ H ρ2 ∧ OpRs X.K tb pa F' H σ ρ2 B (x :: xs) (o1 :: os1) ∧ ∀ o ∈ o1 :: os1, nonSlot o := fun q1 q2 no => by
      subst q1 q2
      exact ⟨F1, sF, rF.less s1, ⟨h.back n1 s1 r1 sF rF, B1, s1, n1, rF, osF⟩, fun o ho => (List.mem_cons.mp ho).elim (fun z => z ▸ no) (ns o)⟩
    cases o with
    | val d => cases e2; exact keep rfl rfl trivial
    | new ds => cases e2; exact keep rfl rfl trivial
    | slot j =>
      simp only [settle1, Option.map_eq_some_iff] at e2
      obtain ⟨⟨d, ρ3⟩, hk, e3⟩ := e2
      cases e3
      obtain ⟨B2, s2, r2, hold⟩ := OpRs.hold rF osF
      have h' : OpR X.K B2 F1 H σ ρ1 x (.slot j) := h
      obtain ⟨F2, sF2, rF2, dp⟩ := keep_ok r2 h' hk
      obtain ⟨a, b⟩ := hold F2 H _ sF2 rF2
      exact ⟨F2, sF.trans sF2, a.less s1, ⟨dp, B1, s1, (fun p ds e _ => by cases e), a, b⟩, fun o ho => (List.mem_cons.mp ho).elim (fun z => z ▸ trivial) (ns o)⟩
  | [], _ :: _, _, _, _, _, _, h, _ => h.elim
  | _ :: _, [], _, _, _, _, _, h, _ => h.elim
theorem store1 {x : V} {i : Nat} (r : Rel X.K tb pa B F σ H ρ) (oy : OpR X.K B F H σ ρ x op) (no : nonSlot op) (h : stOp ρ i op = some ρ1) : Rel X.K tb pa B F (σ.set i (some x)) H ρ1 := by
  cases op with
  | val d =>
    simp only [stOp, setE] at h
    split at h
    · rename_i hi
      cases h
      exact r.store oy (of_decide_eq_true hi)
    · cases h
  | new ds =>
    simp only [stOp, setE] at h
    split at h
    · rename_i hi
      cases h
      obtain ⟨p, vs, rfl, hp, hf, hb, off, dp⟩ := oy
      exact r.storeNew hp hf hb off dp (of_decide_eq_true hi)
    · cases h
  | slot j => exact no.elim
theorem OpR.back' {K : PySem.W.Frag} {B1 F' H' : Hp} {σ' : St} {ρ' : En} {x : V} {o : Op} (h : OpR K B F H σ ρ x o) (no : nonSlot o) (nw : NewIn B1 x o) (r1 : Rel K tb pa B1 F σ H ρ) (s : Sm F F') (r' : Rel K tb pa B1 F' σ' H' ρ') : OpR K B F' H' σ' ρ' x o := by
  cases o with
  | val d => exact Rp.mono s h
  | slot i => exact no.elim
  | new ds =>
    obtain ⟨p, vs, rfl, hp, hf, hb, off, dp⟩ := h
    have n1 := nw p ds rfl rfl
    obtain ⟨u, hu⟩ : ∃ u, B1 p = some u := by
      cases q : B1 p with
      | none => exact absurd q n1
      | some u => exact ⟨u, rfl⟩
    have e1 := (r1.wf.bg p u hu).1
    rw [hp] at e1; cases e1
    obtain ⟨a, b⟩ := r'.wf.bg p _ hu
    exact ⟨p, vs, rfl, a, b, hb, r'.off_bg hu, RpAll.mono s dp⟩
def setR (σ : St) : List Nat → List V → St
  | i :: r, x :: xs => (setR σ r xs).set i (some x)
  | _, _ => σ
theorem asgN_ok : ∀ {xs : List V} {os : List Op} {is : List Nat} {B : Hp} {ρ' : En}, Rel X.K tb pa B F σ H ρ → OpRs X.K tb pa F H σ ρ B xs os → (∀ o ∈ os, nonSlot o) → asgN ρ is os = some ρ' → Rel X.K tb pa B F (setR σ is xs) H ρ'
  | [], [], [], B, ρ', r, _, _, e => by cases e; exact r
  | x :: xs, o :: os, i :: is, B, ρ', r, ⟨h, B1, s1, n1, r1, hs⟩, ns, e => by
    simp only [asgN, Option.bind_eq_some_iff] at e
    obtain ⟨ρ1, e1, e2⟩ := e
    have r2 := asgN_ok r1 hs (fun o ho => ns o (List.mem_cons_of_mem _ ho)) e1
    have no := ns o List.mem_cons_self
    exact store1 (r2.less s1) (h.back' no n1 r1 (Sm.refl _) r2) no e2
  | [], [], _ :: _, _, _, _, _, _, e => by simp [asgN] at e
  | _ :: _, _ :: _, [], _, _, _, _, _, e => by simp [asgN] at e
  | [], _ :: _, _, _, _, _, h, _, _ => h.elim
  | _ :: _, [], _, _, _, _, h, _, _ => h.elim
theorem par_names {X : Cx} {s : Sc} (o : XOk T tb k s X) {x : Str} (h : (s.sc.names.lookup x == some .local) = true) : X.env.scope.names.lookup x = some .local := by
  rw [o.sc]; exact eq_of_beq h
theorem ss_par2 (o : XOk T tb k s X) {i j : Nat} {x y : Str} {px py pt pt2 : Pos} {kt k2 : Nat} {os' : List Op} (hN : s.N[i]? = some x) (hM : s.N[j]? = some y) (hij : i ≠ j) (hx : (s.sc.names.lookup x == some .local) = true) (hy : (s.sc.names.lookup y == some .local) = true)
    (hw : swK s [.Name x px, .Name y py] [a, b] = some (some [x, y])) (ha : SA tb X [a, b] ρ ops ρ1) (hs : settle ρ1 ops = some (os', ρ2)) (hg : asgN ρ2 [i, j] os' = some ρ3) :
    SS tb X (.Assign [.Tuple [.Name x px, .Name y py] kt pt] (.Tuple [a, b] k2 pt2) pos) ρ (.nx ρ3) := by
  intro pa B F σ H r D h pins s0 I
  refine ws_of (ps_par o.calm o.nd (by rw [o.nm]; exact hN) (by rw [o.nm]; exact hM) hij (par_names o hx) (par_names o hy) (pa_wa X [a, b]) (swK_ok o I.ok.kind hw)) ?_ pins s0 I
  refine ha pa B F σ H r _ fun xs F' H' s' r' os => ?_
  obtain ⟨F2, s2, r2, os2, ns⟩ := settle_ok r' os hs
  have r3 := asgN_ok r2 os2 ns hg
  match xs, os', os2, hg with
  | [v, w], [o1, o2], _, _ =>
    refine ⟨v, w, rfl, ?_⟩
    refine h F2 _ H' (s'.trans s2) ?_
    rw [List.set_comm _ _ hij]
    exact r3
  | [], [], _, hg => simp [asgN] at hg
  | [_], [_], _, hg => simp [asgN] at hg
  | _ :: _ :: _ :: _, _ :: _ :: _ :: _, _, hg => simp [asgN] at hg
theorem ss_par3 (o : XOk T tb k s X) {i j l : Nat} {x y z : Str} {px py pz pt pt2 : Pos} {kt k2 : Nat} {os' : List Op} (hN : s.N[i]? = some x) (hM : s.N[j]? = some y) (hL : s.N[l]? = some z) (hij : i ≠ j) (hil : i ≠ l) (hjl : j ≠ l) (hx : (s.sc.names.lookup x == some .local) = true) (hy : (s.sc.names.lookup y == some .local) = true) (hz : (s.sc.names.lookup z == some .local) = true)
    (hw : swK s [.Name x px, .Name y py, .Name z pz] [a, b, c] = some (some [x, y, z])) (ha : SA tb X [a, b, c] ρ ops ρ1) (hs : settle ρ1 ops = some (os', ρ2)) (hg : asgN ρ2 [i, j, l] os' = some ρ3) :
    SS tb X (.Assign [.Tuple [.Name x px, .Name y py, .Name z pz] kt pt] (.Tuple [a, b, c] k2 pt2) pos) ρ (.nx ρ3) := by
  intro pa B F σ H r D h pins s0 I
  refine ws_of (ps_par3 o.calm o.nd (by rw [o.nm]; exact hN) (by rw [o.nm]; exact hM) (by rw [o.nm]; exact hL) hij hil hjl (par_names o hx) (par_names o hy) (par_names o hz) (pa_wa X [a, b, c]) (swK_ok o I.ok.kind hw)) ?_ pins s0 I
  refine ha pa B F σ H r _ fun xs F' H' s' r' os => ?_
  obtain ⟨F2, s2, r2, os2, ns⟩ := settle_ok r' os hs
  have r3 := asgN_ok r2 os2 ns hg
  match xs, os', os2, hg with
  | [u, v, w], [o1, o2, o3], _, _ =>
    refine ⟨u, v, w, rfl, ?_⟩
    refine h F2 _ H' (s'.trans s2) ?_
    have e : ((σ.set i (some u)).set j (some v)).set l (some w) = ((σ.set l (some w)).set j (some v)).set i (some u) := by
      rw [List.set_comm (some u) (some v) hij, List.set_comm (some u) (some w) hil, List.set_comm (some v) (some w) hjl]
    rw [e]
    exact r3
  | [], [], _, hg => simp [asgN] at hg
  | [_], [_], _, hg => simp [asgN] at hg
  | [_, _], [_, _], _, hg => simp [asgN] at hg
  | _ :: _ :: _ :: _ :: _, _ :: _ :: _ :: _ :: _, _, hg => simp [asgN] at hg

theorem OpR.laid {K : PySem.W.Frag} {x : V} {o : Op} {p : Addr} {u : HO} (h : OpR K B F H σ ρ x o) (hp : H p = none) : OpR K B F (upd H p u) σ ρ x o := by
  cases o with
  | val d => exact h
  | slot i => exact h
  | new ds =>
    obtain ⟨q, vs, rfl, hq, hf, hb, off, dp⟩ := h
    exact ⟨q, vs, rfl, Sm.upd hp q _ hq, hf, hb, off, dp⟩
theorem OpRs.laid {K : PySem.W.Frag} {p : Addr} {u : HO} (hp : H p = none) : ∀ {xs : List V} {os : List Op} {B : Hp}, OpRs K tb pa F H σ ρ B xs os → OpRs K tb pa F (upd H p u) σ ρ B xs os
  | [], [], _, h => h
  | _ :: _, _ :: _, _, ⟨h, B1, s1, n1, r1, hs⟩ => ⟨h.laid hp, B1, s1, n1, r1.laid hp u, OpRs.laid hp hs⟩
  | [], _ :: _, _, h => h.elim
  | _ :: _, [], _, h => h.elim
/-- two names at once, by a tuple that is laid -/
theorem ss_par2t (o : XOk T tb k s X) {i j : Nat} {x y : Str} {px py pt pt2 : Pos} {kt k2 : Nat} {os' : List Op} (hN : s.N[i]? = some x) (hM : s.N[j]? = some y) (hij : i ≠ j) (hx : stB s x = true) (hy : stB s y = true)
    (hw : swK s [.Name x px, .Name y py] [a, b] = some none) (ha : SA tb X [a, b] ρ ops ρ1) (hs : settle ρ1 ops = some (os', ρ2)) (hg : asgN ρ2 [i, j] os' = some ρ3) :
    SS tb X (.Assign [.Tuple [.Name x px, .Name y py] kt pt] (.Tuple [a, b] k2 pt2) pos) ρ (.nx ρ3) := by
  intro pa B F σ H r D h pins s0 I
  obtain ⟨x1, x2⟩ := stB_ok o hx
  obtain ⟨y1, y2⟩ := stB_ok o hy
  have ns : ∀ e ∈ [Expr.Name x px, .Name y py], noStar e = true := fun e he => by
    rcases List.mem_cons.mp he with rfl | he
    · rfl
    · rcases List.mem_cons.mp he with rfl | he
      · rfl
      · cases he
  obtain ⟨h1, h2⟩ := asg_plain X.env ns
  refine ws_of (ps_asg (pe_we X _) (pg_wg X _) rfl (swK_ok o I.ok.kind hw) (by rw [asg_cons rfl]; rfl)) ?_ pins s0 I
  refine we_of (pe_tup (pa_wa X [a, b])) (ha pa B F σ H r _ fun xs F' H' s' r' os => ?_)
  obtain ⟨F2, s2, r2, os2, nsl⟩ := settle_ok r' os hs
  match xs, os', os2, hg with
  | [v, w], [o1, o2], os2, hg =>
    refine ⟨by show 2 ≤ sizeLine; decide, fun p hp => ?_⟩
    have r3 := asgN_ok (r2.laid hp (.tup [v, w])) (os2.laid hp) nsl hg
    refine wg_of (pg_tup o.calm (pgs_wgs X _) h1 h2) ⟨_, _, rfl, SqT.of upd_same, rfl, ?_⟩
    refine wgs_of (pgs_cons (pg_wg X _) (pgs_wgs X _) (by rw [asg_cons rfl]; rfl)) ⟨_, _, rfl, ?_⟩
    refine wg_of (pg_name o.nd (by rw [o.nm]; exact hN) x1 x2) ?_
    refine wgs_of (pgs_cons (pg_wg X _) (pgs_wgs X _) (by rw [asg_cons rfl]; rfl)) ⟨_, _, rfl, ?_⟩
    refine wg_of (pg_name o.nd (by rw [o.nm]; exact hM) y1 y2) ?_
    refine wgs_of pgs_nil ⟨rfl, ?_⟩
    refine h F2 _ _ (s'.trans s2) ?_
    rw [List.set_comm _ _ hij]
    exact r3
  | [], [], _, hg => simp [asgN] at hg
  | [_], [_], _, hg => simp [asgN] at hg
  | _ :: _ :: _ :: _, _ :: _ :: _ :: _, _, hg => simp [asgN] at hg

theorem ss_par3t (o : XOk T tb k s X) {i j l : Nat} {x y z : Str} {px py pz pt pt2 : Pos} {kt k2 : Nat} {os' : List Op} (hN : s.N[i]? = some x) (hM : s.N[j]? = some y) (hL : s.N[l]? = some z) (hij : i ≠ j) (hil : i ≠ l) (hjl : j ≠ l) (hx : stB s x = true) (hy : stB s y = true) (hz : stB s z = true)
    (hw : swK s [.Name x px, .Name y py, .Name z pz] [a, b, c] = some none) (ha : SA tb X [a, b, c] ρ ops ρ1) (hs : settle ρ1 ops = some (os', ρ2)) (hg : asgN ρ2 [i, j, l] os' = some ρ3) :
    SS tb X (.Assign [.Tuple [.Name x px, .Name y py, .Name z pz] kt pt] (.Tuple [a, b, c] k2 pt2) pos) ρ (.nx ρ3) := by
  intro pa B F σ H r D h pins s0 I
  obtain ⟨x1, x2⟩ := stB_ok o hx
  obtain ⟨y1, y2⟩ := stB_ok o hy
  obtain ⟨z1, z2⟩ := stB_ok o hz
  have ns : ∀ e ∈ [Expr.Name x px, .Name y py, .Name z pz], noStar e = true := fun e he => by
    simp only [List.mem_cons, List.not_mem_nil, or_false] at he
    rcases he with rfl | rfl | rfl <;> rfl
  obtain ⟨h1, h2⟩ := asg_plain X.env ns
  refine ws_of (ps_asg (pe_we X _) (pg_wg X _) rfl (swK_ok o I.ok.kind hw) (by rw [asg_cons rfl]; rfl)) ?_ pins s0 I
  refine we_of (pe_tup (pa_wa X [a, b, c])) (ha pa B F σ H r _ fun xs F' H' s' r' os => ?_)
  obtain ⟨F2, s2, r2, os2, nsl⟩ := settle_ok r' os hs
  match xs, os', os2, hg with
  | [u, v, w], [o1, o2, o3], os2, hg =>
    refine ⟨by show 3 ≤ sizeLine; decide, fun p hp => ?_⟩
    have r3 := asgN_ok (r2.laid hp (.tup [u, v, w])) (os2.laid hp) nsl hg
    refine wg_of (pg_tup o.calm (pgs_wgs X _) h1 h2) ⟨_, _, rfl, SqT.of upd_same, rfl, ?_⟩
    refine wgs_of (pgs_cons (pg_wg X _) (pgs_wgs X _) (by rw [asg_cons rfl]; rfl)) ⟨_, _, rfl, ?_⟩
    refine wg_of (pg_name o.nd (by rw [o.nm]; exact hN) x1 x2) ?_
    refine wgs_of (pgs_cons (pg_wg X _) (pgs_wgs X _) (by rw [asg_cons rfl]; rfl)) ⟨_, _, rfl, ?_⟩
    refine wg_of (pg_name o.nd (by rw [o.nm]; exact hM) y1 y2) ?_
    refine wgs_of (pgs_cons (pg_wg X _) (pgs_wgs X _) (by rw [asg_cons rfl]; rfl)) ⟨_, _, rfl, ?_⟩
    refine wg_of (pg_name o.nd (by rw [o.nm]; exact hL) z1 z2) ?_
    refine wgs_of pgs_nil ⟨rfl, ?_⟩
    refine h F2 _ _ (s'.trans s2) ?_
    have e : ((σ.set i (some u)).set j (some v)).set l (some w) = ((σ.set l (some w)).set j (some v)).set i (some u) := by
      rw [List.set_comm (some u) (some v) hij, List.set_comm (some u) (some w) hil, List.set_comm (some v) (some w) hjl]
    rw [e]
    exact r3
  | [], [], _, hg => simp [asgN] at hg
  | [_], [_], _, hg => simp [asgN] at hg
  | [_, _], [_, _], _, hg => simp [asgN] at hg
  | _ :: _ :: _ :: _ :: _, _ :: _ :: _ :: _ :: _, _, hg => simp [asgN] at hg

/-! ### augmented -/
theorem ip_augI {op : Operator} {i j m : Int} (h : augI op i j = some m) : ∃ ti : TIp, PIp X op ti ∧ ∀ H (Q : VK), Q (.int m) H → ti (.int i) (.int j) H Q := by
  cases op with
  | Add => cases h; exact ⟨_, ip_add, fun H Q q => ⟨i, j, rfl, rfl, q⟩⟩
  | Sub => cases h; exact ⟨_, ip_sub, fun H Q q => ⟨i, j, rfl, rfl, q⟩⟩
  | Mult =>
    simp only [augI] at h
    split at h
    · rename_i hm
      cases h
      have hok : IntMulOk i j := by
        unfold mulOk at hm
        simp only [Bool.or_eq_true, decide_eq_true_eq] at hm
        rcases hm with z | z | z
        · exact CMul.ok (.inl z)
        · exact CMul.ok (.inr z)
        · exact CMulW.ok z
      refine ⟨fun x y H Q => x = .int i ∧ y = .int j ∧ Q (.int (i * j)) H, fun pins s σ H x y v u Q I r1 r2 h => ?_, fun H Q q => ⟨rfl, rfl, q⟩⟩
      obtain ⟨rfl, rfl, q⟩ := h
      obtain ⟨t, rfl⟩ := r1
      obtain ⟨t', rfl⟩ := r2
      exact imul_int ⟨.int _, H, I.tok _, ⟨_, rfl⟩, q⟩ hok
    · cases h
  | FloorDiv =>
    simp only [augI] at h
    split at h
    · rename_i hm
      cases h
      unfold divOk at hm
      have hm : 0 < j ∧ j.natAbs.log2 < 9000 := of_decide_eq_true hm
      refine ⟨fun x y H Q => x = .int i ∧ y = .int j ∧ Q (.int (i / j)) H, fun pins s σ H x y v u Q I r1 r2 h => ?_, fun H Q q => ⟨rfl, rfl, q⟩⟩
      obtain ⟨rfl, rfl, q⟩ := h
      obtain ⟨t, rfl⟩ := r1
      obtain ⟨t', rfl⟩ := r2
      have h1 := hm.1
      exact ifloordiv_int (by omega) (by rw [Int.fdiv_eq_ediv_of_nonneg i (by omega)]; exact ⟨.int _, H, I.tok _, ⟨_, rfl⟩, q⟩) (.inl (PyProof.noPylong_of_log2 hm.2))
    · cases h
  | _ => cases h
theorem intE_eq {o : Op} {i : Int} (h : intE ρ o = some i) : viewOp ρ o = some (.int i) := by
  unfold intE at h
  split at h
  · rename_i q; cases h; exact q
  · cases h
theorem ss_aug (o : XOk T tb k s X) {i : Nat} {x : Str} {px : Pos} {opr : Operator} {u v z : Int} (hN : s.N[i]? = some x) (hs : stB s x = true) (hu : intE ρ (.slot i) = some u) (ha : SE tb X a ρ op ρ1) (hv : intE ρ1 op = some v) (hz : augI opr u v = some z) (h : setE ρ1 i (.v (.int z)) = some ρ2) :
    SS tb X (.AugAssign (.Name x px) opr a pos) ρ (.nx ρ2) := by
  intro pa B F σ H r D hD
  obtain ⟨h1, h2⟩ := stB_ok o hs
  obtain ⟨ti, hti, hq⟩ := ip_augI (X := X) hz
  have hu' := intE_eq hu
  simp only [viewOp] at hu'
  have hx : σ[i]? = some (some (.int u)) := by
    split at hu'
    · rename_i d hd
      cases hu'
      obtain ⟨y, e1, e2⟩ := r.sl i _ hd
      cases e2
      exact e1
    · rename_i hd; cases hu'
    · cases hu'
  refine ws_of (ps_aug o.nd (by rw [o.nm]; exact hN) h1 (pe_we X a) hti h2) ⟨_, hx, ?_⟩
  refine ha.use r (intE_eq hv) fun y F' H' s' r' vw => ?_
  rw [vw.intE]
  refine hq _ _ ?_
  simp only [setE] at h
  split at h
  · rename_i hi
    cases h
    exact hD F' _ H' s' (r'.store (.int z) (of_decide_eq_true hi))
  · cases h
theorem ss_augS (o : XOk T tb k s X) {i j j2 : Nat} {x : Str} {px tpos : Pos} {ix : Expr} {opr : Operator} {kk u v z : Int} {mt mt0 mt2 : Bool} {ds0 ds2 : List D} (hN : s.N[i]? = some x) (hv' : visB s.sc x = true) (hx : okN x = true) (hs : noSlice ix = true) (h0 : ρ[i]? = some (.o mt0 ds0))
    (hi : SE tb X ix ρ oa ρ1) (hk : intE ρ1 oa = some kk) (hl : ρ1[i]? = some (.o mt ds)) (hj : ixN ds.length kk = some j) (hu : ds[j]? = some (.int u)) (ha : SE tb X a ρ1 op ρ2) (hv : intE ρ2 op = some v) (hz : augI opr u v = some z) (hl2 : ρ2[i]? = some (.o mt2 ds2)) (hj2 : ixN ds2.length kk = some j2) :
    SS tb X (.AugAssign (.Subscript (.Name x px) ix tpos) opr a pos) ρ (.nx (ρ2.set i (.o mt2 (ds2.set j2 (.int z))))) := by
  intro pa B F σ H r D hD
  obtain ⟨ti, hti, hq⟩ := ip_augI (X := X) hz
  refine ws_of (ps_augS (pe_we X _) (pe_we X ix) pget_list (pe_we X a) hti set_list (fun ov iv new => by cases ix <;> first | rfl | cases hs)) ?_
  refine se_var (T := T) o hN hv' hx h0 (fun z => by cases z) pa B F σ H r _ fun y F1 H1 s1 r1 o1 => ?_
  refine hi.use r1 (intE_eq hk) fun w F2 H2 s2 r2 vw => ?_
  obtain ⟨p, vs, a1, m1, b1, c1, e1, f1⟩ := r2.sl i _ hl
  have o1 : σ[i]? = some (some y) := o1
  rw [a1] at o1
  cases o1
  obtain ⟨xx, g1, g2⟩ := RpAll.get f1 hu
  refine ⟨p, vs, kk, j, xx, rfl, vw.intE, .inl (.inl b1), ixN_rp f1 hj, g1, ?_⟩
  cases g2
  refine ha.use r2 (intE_eq hv) fun y F3 H3 s3 r3 vy => ?_
  rw [vy.intE]
  refine hq _ _ ?_
  obtain ⟨p', vs', a1', m1', b1', c1', e1', f1'⟩ := r3.sl i _ hl2
  rw [a1] at a1'
  cases a1'
  refine ⟨p, vs', kk, j2, rfl, vw.intE, b1', ixN_rp f1' hj2, ?_⟩
  exact hD F3 σ _ ((s1.trans s2).trans s3) (r3.write hl2 a1 b1' (RpAll.set (.int z) j2 f1'))

/-! ### append -/
theorem ss_app (o : XOk T tb k s X) {i : Nat} {x : Str} {px apos cpos : Pos} {mt0 mt : Bool} {ds0 : List D} {ρk : En} (hN : s.N[i]? = some x) (hv : visB s.sc x = true) (hx : okN x = true) (hn : noStar a = true) (hline : (apos.endLine == cpos.line) = true) (h0 : ρ[i]? = some (.o mt0 ds0))
    (ha : SE tb X a ρ op ρ1) (hk : keepOp ρ1 op = some (d, ρk)) (hl : ρk[i]? = some (.o mt ds)) (hz : ds.length < sizeLine) : SS tb X (.Expr (.Call (.Attribute (.Name x px) "append" apos) [a] [] cpos) pos) ρ (.nx (ρk.set i (.o mt (ds ++ [d])))) := by
  intro pa B F σ H r D hD
  have hst := noStar_eq hn [] X.env
  refine ws_of (ps_expr (pe_bm PySem.F.plainAttrs_list PySem.F.slot_list_append PySem.F.type_list_append mt_append (pe_we X _) (pa_wa X [a]) rfl (by rw [hst]; rfl) hline hst rfl)) ?_
  refine se_var (T := T) o hN hv hx h0 (fun z => by cases z) pa B F σ H r _ fun y F1 H1 s1 r1 o1 => ?_
  obtain ⟨p0, vs0, a0, m0, b0, c0, e0, f0⟩ := r1.sl i _ h0
  have o1 : σ[i]? = some (some y) := o1
  rw [a0] at o1
  cases o1
  refine ⟨.inl ⟨rfl, _, .inl (.inl b0)⟩, ?_⟩
  refine sa_cons hn ha sa_nil pa B F1 σ H1 r1 _ fun xs F2 H2 s2 r2 os => ?_
  match xs, os with
  | [xv], ⟨ov, B1, sB, nB, rB, _⟩ =>
    obtain ⟨F3, s3, r3, dp⟩ := keep_ok r2 ov hk
    obtain ⟨p, vs, a1, m1, b1, c1, e1, f1⟩ := r3.sl i _ hl
    rw [a0] at a1
    cases a1
    refine ⟨p0, vs, xv, rfl, rfl, b1, by rw [RpAll.length f1]; exact hz, ?_⟩
    exact hD F3 σ _ ((s1.trans s2).trans s3) (r3.write hl a0 b1 (RpAll.append f1 (.cons dp .nil)))
theorem ss_exp (hp : plainC a = true) (ha : SE tb X a ρ op ρ1) : SS tb X (.Expr a pos) ρ (.nx ρ1) := by
  intro pa B F σ H r D hD
  refine ws_of (ps_expr (pe_we X a) (sw_plain hp _ _ _)) (ha pa B F σ H r _ fun x F' H' s' r' o' => ?_)
  exact hD F' σ H' s' r'
theorem ss_retM (ha : SE tb X a ρ (.new ds) ρ1) : SS tb X (.Return (some a) pos) ρ (.rn ds ρ1) := by
  intro pa B F σ H r D h
  refine ws_of (ps_ret (pe_we X a)) (ha pa B F σ H r _ fun x F' H' s' r' o' => ?_)
  obtain ⟨p, vs, rfl, hp, hf, hb, off, dp⟩ := o'
  exact h p vs F' σ H' s' r' hp hf hb dp
end
end Ev

set_option maxHeartbeats 4000000
namespace Ev
open PySem PySem.Spec PyProof.Rows L2

section
variable {T : Tb} {tb : List Addr} {k : Nat} {s : Sc} {X : Cx} {a b c e tg iter : Expr} {es : List Expr} {ρ ρ1 ρ2 ρ3 : En} {oa ob oc op res : Op} {ops : List Op} {ds : List D} {d : D} {pa : Nat → Addr} {B F H : Hp} {σ : St} {pos : Pos} {r1 r2 : Bool} {st : Stmt} {sts body : List Stmt} {out : Oc}

/-! ### loops -/
theorem ss_whl (o : XOk T tb k s X) {cf : En → Option (Bool × En)} {bf : En → Option Oc} {n : Nat} (hc : ∀ ρ b ρ', cf ρ = some (b, ρ') → ST tb X c ρ b ρ') (hb : ∀ ρ oc, bf ρ = some oc → SSs tb X body ρ oc) (h : evWhl cf bf n ρ = some out) : SS tb X (.While c body [] pos) ρ out := by
  intro pa B F σ H r D hD
  refine ws_of (ps_while o.own (pt_wt X c) (pss_wss X body)) ⟨fun m σ' H' => ∃ F' ρa, Sm F F' ∧ Rel X.K tb pa B F' σ' H' ρa ∧ evWhl cf bf m ρa = some out, ⟨n, F, ρ, Sm.refl _, r, h⟩, ?_⟩
  rintro m σ1 H1 ⟨F1, ρa, s1, r1, ev⟩
  cases m with
  | zero => simp [evWhl] at ev
  | succ m =>
    simp only [evWhl] at ev
    split at ev
    · rename_i ρ1 h1
      cases ev
      refine hc _ _ _ h1 pa B F1 σ1 H1 r1 _ fun F2 H2 s2 r2 => ?_
      rw [if_neg Bool.false_ne_true]
      exact hD F2 σ1 H2 (s1.trans s2) r2
    · rename_i ρ1 h1
      refine hc _ _ _ h1 pa B F1 σ1 H1 r1 _ fun F2 H2 s2 r2 => ?_
      rw [if_pos rfl]
      refine ⟨fun σ' H' => ∃ F' ρa, Sm F F' ∧ Rel X.K tb pa B F' σ' H' ρa ∧ evWhl cf bf m ρa = some out, fun σ' H' z => ⟨m, Nat.lt_succ_self m, z⟩, ?_⟩
      have sF := s1.trans s2
      cases hq : bf ρ1 with
      | none => rw [hq] at ev; cases ev
      | some oc =>
        rw [hq] at ev
        refine hb _ _ hq pa B F2 σ1 H2 r2 _ ?_
        cases oc with
        | nx ρ2 => exact fun F3 σ3 H3 s3 r3 => ⟨F3, ρ2, sF.trans s3, r3, ev⟩
        | ct ρ2 => exact fun F3 σ3 H3 s3 r3 => ⟨F3, ρ2, sF.trans s3, r3, ev⟩
        | bk ρ2 => cases ev; exact fun F3 σ3 H3 s3 r3 => hD F3 σ3 H3 (sF.trans s3) r3
        | rt d ρ2 => cases ev; exact fun v F3 σ3 H3 s3 r3 rv => hD v F3 σ3 H3 (sF.trans s3) r3 rv
        | rn d ρ2 => cases ev; exact fun p ws F3 σ3 H3 s3 r3 => hD p ws F3 σ3 H3 (sF.trans s3) r3
    · cases ev
theorem ss_for (o : XOk T tb k s X) {ix : List Nat} {f : D → En → Option Oc} (hi : SI tb X tg iter ρ ds ρ1) (hfold : ∀ x, foldedSetIterable iter X.env x = pure x)
    (hb : ∀ x ρ oc, f x ρ = some oc → ∃ ρ2, SG tb X tg ix ρ x ρ2 ∧ SSs tb X body ρ2 oc) (h : evFor f ds ρ1 = some out) : SS tb X (.For tg iter body [] pos) ρ out := by
  intro pa B F σ H r D hD
  refine ws_of (ps_for o.own o.calm (pi_wi X tg iter) (pg_wg X tg) (pss_wss X body) hfold) ?_
  refine hi pa B F σ H r _ fun J F1 H1 s1 r1 wk => ?_
  refine ⟨fun i m σ' H' => m = ds.length - i ∧ ∃ F' ρa, Sm F1 F' ∧ Rel X.K tb pa B F' σ' H' ρa ∧ evFor f (ds.drop i) ρa = some out, ⟨_, rfl, F1, ρ1, Sm.refl _, r1, h⟩, ?_⟩
  rintro i m σ2 H2 ⟨rfl, F2, ρa, s2, r2, ev⟩
  by_cases hi2 : i < ds.length
  · have m2 : Sm F1 H2 := s2.trans r2.wf.fz
    refine .inr ⟨wk.go i H2 m2 hi2, fun σ' H' => ∃ F' ρa, Sm F1 F' ∧ Rel X.K tb pa B F' σ' H' ρa ∧ evFor f (ds.drop (i + 1)) ρa = some out, fun σ' H' z => ⟨ds.length - (i + 1), by omega, rfl, z⟩, fun x H3 hy => ?_⟩
    have hd : ds[i]? = some ds[i] := List.getElem?_eq_getElem hi2
    rw [List.drop_eq_getElem_cons hi2] at ev
    simp only [evFor] at ev
    obtain ⟨F3, s3, sH3, r3, dx⟩ := Yld.ok (tb := tb) (F := F2) (H := H2) (by
      rcases wk.yld i H2 x H3 _ m2 hd hy with ⟨a, b⟩ | ⟨p, ws, ds', a, b, c, e, g⟩
      · exact .inl ⟨a, Rp.mono s2 b⟩
      · exact .inr ⟨p, ws, ds', a, b, c, e, RpAll.mono s2 g⟩) r2
    have sF : Sm F F3 := (s1.trans s2).trans s3
    cases hq : f ds[i] ρa with
    | none => rw [hq] at ev; cases ev
    | some oc =>
      rw [hq] at ev
      obtain ⟨ρ2, h1, h2⟩ := hb _ _ _ hq
      refine h1 pa B F3 σ2 H3 x r3 dx _ fun σ3 r4 _ => ?_
      refine h2 pa B F3 σ3 H3 r4 _ ?_
      cases oc with
      | nx ρ2 => exact fun F4 σ4 H4 s4 r5 => ⟨F4, ρ2, (s2.trans s3).trans s4, r5, ev⟩
      | ct ρ2 => exact fun F4 σ4 H4 s4 r5 => ⟨F4, ρ2, (s2.trans s3).trans s4, r5, ev⟩
      | bk ρ2 => cases ev; exact fun F4 σ4 H4 s4 r5 => hD F4 σ4 H4 (sF.trans s4) r5
      | rt d ρ2 => cases ev; exact fun v F4 σ4 H4 s4 r5 rv => hD v F4 σ4 H4 (sF.trans s4) r5 rv
      | rn d ρ2 => cases ev; exact fun p ws F4 σ4 H4 s4 r5 => hD p ws F4 σ4 H4 (sF.trans s4) r5
  · have hdr : ds.drop i = [] := List.drop_eq_nil_of_le (by omega)
    rw [hdr] at ev
    cases ev
    exact .inl ⟨wk.stop i H2 (s2.trans r2.wf.fz) (by omega), hD F2 σ2 H2 (s1.trans s2) r2⟩

/-! ### targets of statements -/
mutual
theorem asgT_ok : ∀ (t : Tg) {s : Sc} {X : Cx} {e : Expr} {ρ ρ' : En} {op : Op}, XOk T tb k s X → chT s t e = true → asgT T ρ t op = some ρ' → SGo tb X e ρ op ρ'
  | .nm i, s, X, e, ρ, ρ', op, o, hc, h => by
    unfold chT at hc
    split at hc
    · simp only [Bool.and_eq_true, decide_eq_true_eq] at hc
      simp only [asgT] at h
      exact sgo_nm o hc.1 hc.2 h
    · cases hc
  | .sub i ix, s, X, e, ρ, ρ', op, o, hc, h => by
    unfold chT at hc
    split at hc
    · simp only [Bool.and_eq_true, decide_eq_true_eq] at hc
      obtain ⟨⟨⟨c1, c2⟩, c3⟩, c4⟩ := hc
      simp only [asgT, Option.bind_eq_some_iff] at h
      obtain ⟨⟨d, ρk⟩, h1, h2⟩ := h
      dsimp only at h2
      split at h2
      · rename_i hs0
        simp only [Option.bind_eq_some_iff] at h2
        obtain ⟨⟨ob, ρ1⟩, h3, h4⟩ := h2
        dsimp only at h4
        split at h4
        · rename_i hv hl
          simp only [Option.map_eq_some_iff] at h4
          obtain ⟨j, h5, rfl⟩ := h4
          exact sgo_sub o c1 c2 c3 (chE_slice c4) h1 (evE_ok ix o c4 h3) hv hl ⟨_, hs0, fun z => by cases z⟩ h5
        · cases h4
      · cases h2
    · cases hc
  | .tup ts, s, X, e, ρ, ρ', op, o, hc, h => by
    unfold chT at hc
    split at hc
    · simp only [asgT, Option.bind_eq_some_iff] at h
      obtain ⟨⟨d, ρk⟩, h1, h2⟩ := h
      dsimp only at h2
      split at h2
      · obtain ⟨h3, h4⟩ := asgTs_ok ts o hc h2
        exact sgo_tup o (chTs_ns hc) h1 h3 h4
      · obtain ⟨h3, h4⟩ := asgTs_ok ts o hc h2
        exact sgo_tupL o (chTs_ns hc) h1 h3 h4
      · cases h2
    · cases hc
theorem asgTs_ok : ∀ (ts : Tgs) {s : Sc} {X : Cx} {es : List Expr} {ρ ρ' : En} {ds : List D}, XOk T tb k s X → chTs s ts es = true → asgTs T ρ ts (ds.map .val) = some ρ' → SGov tb X es ρ ds ρ' ∧ es.length = ds.length
  | .nil, s, X, es, ρ, ρ', ds, o, hc, h => by
    unfold chTs at hc
    split at hc
    · cases ds with
      | nil =>
        simp only [List.map_nil, asgTs] at h
        cases h
        exact ⟨sgov_nil, rfl⟩
      | cons d ds => simp [asgTs] at h
    · cases hc
  | .cons t ts, s, X, es, ρ, ρ', ds, o, hc, h => by
    unfold chTs at hc
    split at hc
    · simp only [Bool.and_eq_true] at hc
      cases ds with
      | nil => simp [asgTs] at h
      | cons d ds =>
        simp only [List.map_cons, asgTs, Option.bind_eq_some_iff] at h
        obtain ⟨ρ1, h1, h2⟩ := h
        obtain ⟨h3, h4⟩ := asgTs_ok ts o hc.2 h2
        exact ⟨sgov_cons (chT_ns hc.1) (asgT_ok t o hc.1 h1) h3, by rw [List.length_cons, List.length_cons, h4]⟩
    · cases hc
end
theorem evLc_ok {elt : IE} {t : Tg} {own : List (Str × Nat)} {it : IT} {c : IC} {elt' tg iter : Expr} {ifs : List Expr} {scope : Scope} {lp : Pos} (o : XOk T tb k s X) (hc : chE s (.lc elt t own it c) (.ListComp elt' [⟨tg, iter, ifs, 0⟩] scope lp) = true) (h : evE T ρ (.lc elt t own it c) = some (op, ρ1)) :
    ∃ out, op = .new out ∧ BlkOk X.N X.env.scope scope own ∧ (∀ x, foldedSetIterable iter X.env x = pure x) ∧ SLc tb X elt' tg iter ifs scope (own.map (·.2)) ρ out ρ1 := by
  simp only [chE, Bool.and_eq_true] at hc
  obtain ⟨⟨⟨⟨⟨c1, c2⟩, c3⟩, c4⟩, c5⟩, c6⟩ := hc
  simp only [evE, Option.bind_eq_some_iff] at h
  obtain ⟨⟨ds, ρ1⟩, h1, ⟨out, ρn⟩, h2, h3⟩ := h
  dsimp only at h2 h3
  split at h3
  · rename_i hl
    cases h3
    refine ⟨out, rfl, by rw [← o.nm] at c1; rw [o.sc]; exact blkOk_by c1, noSet_fold (chIt_set c2) _, lc_ok o (evIt_ok it o c2 h1) (ix := tgIx t) (fun i hi => ?_) (fun x ρa q hq => ?_) h2 hl⟩
    · have := List.all_eq_true.mp c6 i hi
      simpa using this
    · simp only [Option.bind_eq_some_iff] at hq
      obtain ⟨ρ2, q1, ⟨b, ρ3⟩, q2, q3⟩ := hq
      refine ⟨ρ2, b, ρ3, fun s H C cl fp => bindT_ok t (o.blk _ s H C cl fp) c3 q1, fun s H C cl fp => evIf_ok c (o.blk _ s H C cl fp) c4 q2, ?_⟩
      dsimp only at q3
      cases b with
      | false =>
        rw [if_neg Bool.false_ne_true] at q3
        cases q3
        exact .inl ⟨rfl, rfl⟩
      | true =>
        rw [if_pos rfl] at q3
        simp only [Option.bind_eq_some_iff, Option.map_eq_some_iff] at q3
        obtain ⟨⟨op, ρ4⟩, q4, ⟨d, ρb⟩, q5, e⟩ := q3
        cases e
        exact .inr ⟨rfl, op, ρ4, d, ρb, fun s H C cl fp => evE_ok elt (o.blk _ s H C cl fp) c5 q4, q5, rfl⟩
  · cases h3

/-! ### the text of statements -/
def isLc1 : Expr → Bool
  | .ListComp _ [⟨_, _, _, 0⟩] _ _ => true
  | _ => false
def notO : IE → Bool
  | .lcO _ _ _ _ => false
  | _ => true
mutual
def chS (s : Sc) : IS → Stmt → Bool
  | .asg t e, st => match st with
    | .Assign [tg] e' _ => chT s t tg && chE s e e' && (match tg with
      | .Name _ _ => notO e
      | .Subscript _ _ _ => true
      | .Tuple tgs _ _ => (match e' with
        | .Tuple es _ _ => decide (swK s tgs es = some none)
        | _ => true)
      | _ => false)
    | _ => false
  | .asgs is es, st => match st with
    | .Assign [.Tuple [.Name x px, .Name y py] _ _] (.Tuple es' _ _) _ => (match is with
      | [i, j] => decide (s.N[i]? = some x) && decide (s.N[j]? = some y) && decide (i ≠ j) && (((s.sc.names.lookup x == some .local) && (s.sc.names.lookup y == some .local) && decide (swK s [.Name x px, .Name y py] es' = some (some [x, y]))) || (stB s x && stB s y && decide (swK s [.Name x px, .Name y py] es' = some none))) && chEs s es es' && decide (es'.length = 2)
      | _ => false)
    | .Assign [.Tuple [.Name x px, .Name y py, .Name z pz] _ _] (.Tuple es' _ _) _ => (match is with
      | [i, j, l] => decide (s.N[i]? = some x) && decide (s.N[j]? = some y) && decide (s.N[l]? = some z) && decide (i ≠ j ∧ i ≠ l ∧ j ≠ l) && (((s.sc.names.lookup x == some .local) && (s.sc.names.lookup y == some .local) && (s.sc.names.lookup z == some .local) && decide (swK s [.Name x px, .Name y py, .Name z pz] es' = some (some [x, y, z]))) || (stB s x && stB s y && stB s z && decide (swK s [.Name x px, .Name y py, .Name z pz] es' = some none))) && chEs s es es' && decide (es'.length = 3)
      | _ => false)
    | _ => false
  | .aug i op e, st => match st with
    | .AugAssign (.Name x _) op' e' _ => decide (s.N[i]? = some x) && stB s x && decide (op = op') && chE s e e'
    | _ => false
  | .augS i ix op e, st => match st with
    | .AugAssign (.Subscript (.Name x _) ix' _) op' e' _ => decide (s.N[i]? = some x) && visB s.sc x && okN x && decide (op = op') && chE s ix ix' && chE s e e'
    | _ => false
  | .app i e, st => match st with
    | .Expr (.Call (.Attribute (.Name x _) f apos) [e'] [] cpos) _ => decide (s.N[i]? = some x) && visB s.sc x && okN x && decide (f = Str.ofString "append") && (apos.endLine == cpos.line) && chE s e e'
    | _ => false
  | .ifs c a b, st => match st with
    | .If c' a' b' _ => chE s c c' && chSs s a a' && chSs s b b'
    | _ => false
  | .whl c b, st => match st with
    | .While c' b' [] _ => chE s c c' && chSs s b b'
    | _ => false
  | .fors t it b, st => match st with
    | .For tg iter b' [] _ => chIt s it tg iter && chT s t tg && chSs s b b'
    | _ => false
  | .exp e, st => match st with
    | .Expr e' _ => chE s e e' && plainC e'
    | _ => false
  | .ret e, st => match st with
    | .Return (some e') _ => chE s e e'
    | _ => false
  | .retM e, st => match st with
    | .Return (some e') _ => chE s e e'
    | _ => false
  | .retN, st => match st with
    | .Return none _ => true
    | _ => false
  | .brk, st => match st with
    | .Break _ => true
    | _ => false
  | .cnt, st => match st with
    | .Continue _ => true
    | _ => false
  | .pas, st => match st with
    | .Pass _ => true
    | _ => false
  | .nev, _ => true
def chSs (s : Sc) : ISs → List Stmt → Bool
  | .nil, l => match l with
    | [] => true
    | _ => false
  | .cons i is, l => match l with
    | st :: r => chS s i st && chSs s is r
    | _ => false
end
end
end Ev

set_option maxHeartbeats 4000000
namespace Ev
open PySem PySem.Spec PyProof.Rows L2

section
variable {T : Tb} {tb : List Addr} {k : Nat} {n : Nat}
theorem sw_any {s : Sc} {X : Cx} (o : XOk T tb k s X) (hk : X.env.scope.kind = .function) {ir : IE} {tg e : Expr} {l : Nat} (hc : chE s ir e = true) (h : (∃ x p, tg = .Name x p) → isLc1 e = false) : swapsWith e (some tg) l X.env = pure false := by
  cases e <;> first | rfl | skip
  · rename_i elt gs scope lp
    cases tg <;> first | rfl | skip
    have := h ⟨_, _, rfl⟩
    cases ir <;> simp [chE] at hc
    all_goals (split at hc; (rename_i q; cases q; cases this); cases hc)
  · cases ir <;> simp [chE] at hc
  · cases ir <;> simp [chE] at hc

theorem len2 {α : Type} : ∀ {l : List α}, l.length = 2 → ∃ a b, l = [a, b]
  | [a, b], _ => ⟨a, b, rfl⟩
theorem len3 {α : Type} : ∀ {l : List α}, l.length = 3 → ∃ a b c, l = [a, b, c]
  | [a, b, c], _ => ⟨a, b, c, rfl⟩
mutual
theorem evS_ok : ∀ (ir : IS) {s : Sc} {X : Cx} {st : Stmt} {ρ : En} {oc : Oc}, XOk T tb k s X → chS s ir st = true → evS n T ρ ir = some oc → SS tb X st ρ oc
  | .asg t e, s, X, st, ρ, oc, o, hc, h => by
    unfold chS at hc
    split at hc
    · rename_i tg e' pos
      simp only [Bool.and_eq_true] at hc
      obtain ⟨⟨c1, c2⟩, c3⟩ := hc
      simp only [evS, Option.bind_eq_some_iff, Option.map_eq_some_iff] at h
      obtain ⟨⟨op, ρ1⟩, h1, ρ2, h2, rfl⟩ := h
      intro pa B F σ H r D hD pins s0 I
      have hk := I.ok.kind
      have plain : swapsWith e' (some tg) pos.line X.env = pure false → swappedStores [tg] e' X.env = pure none → wpAny (model X.prog X.w) X.A (exec (.Assign [tg] e' pos) X.env) (SP X pins D) X.xe s0 := fun q1 q2 =>
        ss_asg q1 q2 (chT_ns c1) (evE_ok e o c2 h1) (asgT_ok t o c1 h2) pa B F σ H r D hD pins s0 I
      cases tg with
      | Name x px =>
        by_cases hl : isLc1 e' = true
        · cases e' with
          | ListComp elt gs scope lp =>
            match gs, hl with
            | [⟨tg2, iter, ifs, 0⟩], _ =>
              cases hsw : swB s x px scope lp with
              | true =>
                cases e with
                | lc ie it own iit ic =>
                  obtain ⟨out, rfl, ok, hf, hs⟩ := evLc_ok o c2 h1
                  cases t with
                  | nm i =>
                    simp only [chT, Bool.and_eq_true, decide_eq_true_eq] at c1
                    simp only [asgT] at h2
                    exact ss_setLc o c1.1 hsw ok hf hs h2 pa B F σ H r D hD pins s0 I
                  | sub i ix => simp [chT] at c1
                  | tup ts => simp [chT] at c1
                | lcO _ _ _ _ => cases c3
                | _ => simp [chE] at c2
              | false => exact plain (by rw [sw_lc o hk, hsw]) (swS_name _ _)
          | _ => cases hl
        · exact plain (sw_any o hk c2 fun _ => by simpa using hl) (swS_name _ _)
      | Subscript oo ix p =>
        exact plain (sw_any o hk c2 fun ⟨x, p, z⟩ => by cases z) (swS_sub _ _)
      | Tuple tgs j p =>
        refine plain (sw_any o hk c2 fun ⟨x, p, z⟩ => by cases z) ?_
        dsimp only at c3
        split at c3
        · exact swK_ok o hk (of_decide_eq_true c3)
        · rename_i hne
          refine swS_tup ?_ _
          cases e' <;> first | rfl | exact absurd rfl (hne _ _ _)
      | _ => simp at c3
    · cases hc
  | .asgs is es, s, X, st, ρ, oc, o, hc, h => by
    unfold chS at hc
    split at hc
    · split at hc
      · simp only [Bool.and_eq_true, decide_eq_true_eq] at hc
        obtain ⟨⟨⟨⟨⟨c1, c2⟩, c3⟩, c4⟩, c7⟩, c8⟩ := hc
        simp only [evS, Option.bind_eq_some_iff, Option.map_eq_some_iff] at h
        obtain ⟨⟨ops, ρ1⟩, h1, ⟨os', ρ2⟩, h2, ρ3, h3, rfl⟩ := h
        obtain ⟨a, b, e⟩ := len2 c8
        subst e
        simp only [Bool.or_eq_true, Bool.and_eq_true, decide_eq_true_eq] at c4
        rcases c4 with ⟨⟨c4, c5⟩, c6⟩ | ⟨⟨c4, c5⟩, c6⟩
        · exact ss_par2 o c1 c2 c3 c4 c5 c6 (evEs_ok es o c7 h1) h2 h3
        · exact ss_par2t o c1 c2 c3 c4 c5 c6 (evEs_ok es o c7 h1) h2 h3
      · cases hc
    · split at hc
      · simp only [Bool.and_eq_true, decide_eq_true_eq] at hc
        obtain ⟨⟨⟨⟨⟨⟨c1, c2⟩, c3⟩, c4⟩, c5⟩, c9⟩, c10⟩ := hc
        simp only [evS, Option.bind_eq_some_iff, Option.map_eq_some_iff] at h
        obtain ⟨⟨ops, ρ1⟩, h1, ⟨os', ρ2⟩, h2, ρ3, h3, rfl⟩ := h
        obtain ⟨a, b, c, e⟩ := len3 c10
        subst e
        simp only [Bool.or_eq_true, Bool.and_eq_true, decide_eq_true_eq] at c5
        rcases c5 with ⟨⟨⟨q1, q2⟩, q3⟩, q4⟩ | ⟨⟨⟨q1, q2⟩, q3⟩, q4⟩
        · exact ss_par3 o c1 c2 c3 c4.1 c4.2.1 c4.2.2 q1 q2 q3 q4 (evEs_ok es o c9 h1) h2 h3
        · exact ss_par3t o c1 c2 c3 c4.1 c4.2.1 c4.2.2 q1 q2 q3 q4 (evEs_ok es o c9 h1) h2 h3
      · cases hc
    · cases hc
  | .aug i op e, s, X, st, ρ, oc, o, hc, h => by
    unfold chS at hc
    split at hc
    · simp only [Bool.and_eq_true, decide_eq_true_eq] at hc
      obtain ⟨⟨⟨c1, c2⟩, rfl⟩, c4⟩ := hc
      simp only [evS, Option.bind_eq_some_iff, Option.map_eq_some_iff] at h
      obtain ⟨u, h1, ⟨op, ρ1⟩, h2, v, h3, z, h4, ρ2, h5, rfl⟩ := h
      exact ss_aug o c1 c2 h1 (evE_ok e o c4 h2) h3 h4 h5
    · cases hc
  | .augS i ix op e, s, X, st, ρ, oc, o, hc, h => by
    unfold chS at hc
    split at hc
    · simp only [Bool.and_eq_true, decide_eq_true_eq] at hc
      obtain ⟨⟨⟨⟨⟨c1, c2⟩, c3⟩, rfl⟩, c5⟩, c6⟩ := hc
      simp only [evS] at h
      split at h
      · rename_i hs0
        simp only [Option.bind_eq_some_iff] at h
        obtain ⟨⟨oa, ρ1⟩, h1, h2⟩ := h
        dsimp only at h2
        split at h2
        · rename_i hk hl
          simp only [Option.bind_eq_some_iff] at h2
          obtain ⟨j, h3, h4⟩ := h2
          split at h4
          · rename_i u hu
            simp only [Option.bind_eq_some_iff] at h4
            obtain ⟨⟨op, ρ2⟩, h5, v, h6, z, h7, h8⟩ := h4
            dsimp only at h6 h8
            split at h8
            · rename_i hl2
              simp only [Option.map_eq_some_iff] at h8
              obtain ⟨j2, h9, rfl⟩ := h8
              exact ss_augS o c1 c2 c3 (chE_slice c5) hs0 (evE_ok ix o c5 h1) hk hl h3 hu (evE_ok e o c6 h5) h6 h7 hl2 h9
            · cases h8
          · cases h4
        · cases h2
      · cases h
    · cases hc
  | .app i e, s, X, st, ρ, oc, o, hc, h => by
    unfold chS at hc
    split at hc
    · simp only [Bool.and_eq_true, decide_eq_true_eq] at hc
      obtain ⟨⟨⟨⟨⟨c1, c2⟩, c3⟩, rfl⟩, c5⟩, c6⟩ := hc
      simp only [evS] at h
      split at h
      · rename_i hs0
        simp only [Option.bind_eq_some_iff] at h
        obtain ⟨⟨op, ρ1⟩, h1, ⟨d, ρk⟩, h2, h3⟩ := h
        dsimp only at h3
        split at h3
        · rename_i hl
          split at h3
          · rename_i hz
            cases h3
            exact ss_app o c1 c2 c3 (chE_ns c6) c5 hs0 (evE_ok e o c6 h1) h2 hl (of_decide_eq_true hz)
          · cases h3
        · cases h3
      · cases h
    · cases hc
  | .ifs c a b, s, X, st, ρ, oc, o, hc, h => by
    unfold chS at hc
    split at hc
    · simp only [Bool.and_eq_true] at hc
      obtain ⟨⟨c1, c2⟩, c3⟩ := hc
      simp only [evS] at h
      split at h
      · rename_i ρ1 h1
        exact ss_if (evT_ok c o c1 h1) (fun _ => evSs_ok a o c2 h) (fun z => by cases z)
      · rename_i ρ1 h1
        exact ss_if (evT_ok c o c1 h1) (fun z => by cases z) (fun _ => evSs_ok b o c3 h)
      · cases h
    · cases hc
  | .whl c b, s, X, st, ρ, oc, o, hc, h => by
    unfold chS at hc
    split at hc
    · simp only [Bool.and_eq_true] at hc
      simp only [evS] at h
      exact ss_whl o (fun ρ b ρ' h => evT_ok c o hc.1 h) (fun ρ oc h => evSs_ok b o hc.2 h) h
    · cases hc
  | .fors t it b, s, X, st, ρ, oc, o, hc, h => by
    unfold chS at hc
    split at hc
    · simp only [Bool.and_eq_true] at hc
      obtain ⟨⟨c1, c2⟩, c3⟩ := hc
      simp only [evS, Option.bind_eq_some_iff] at h
      obtain ⟨⟨ds, ρ1⟩, h1, h2⟩ := h
      refine ss_for o (evIt_ok it o c1 h1) (noSet_fold (chIt_set c1) _) (ix := tgIx t) (fun x ρ oc hq => ?_) h2
      simp only [Option.bind_eq_some_iff] at hq
      obtain ⟨ρ2, q1, q2⟩ := hq
      exact ⟨ρ2, bindT_ok t o c2 q1, evSs_ok b o c3 q2⟩
    · cases hc
  | .exp e, s, X, st, ρ, oc, o, hc, h => by
    unfold chS at hc
    split at hc
    · simp only [Bool.and_eq_true] at hc
      simp only [evS, Option.map_eq_some_iff] at h
      obtain ⟨⟨op, ρ1⟩, h1, rfl⟩ := h
      exact ss_exp hc.2 (evE_ok e o hc.1 h1)
    · cases hc
  | .ret e, s, X, st, ρ, oc, o, hc, h => by
    unfold chS at hc
    split at hc
    · simp only [evS, Option.bind_eq_some_iff, Option.map_eq_some_iff] at h
      obtain ⟨⟨op, ρ1⟩, h1, ⟨d, ρ2⟩, h2, rfl⟩ := h
      exact ss_ret (evE_ok e o hc h1) h2
    · cases hc
  | .retM e, s, X, st, ρ, oc, o, hc, h => by
    unfold chS at hc
    split at hc
    · simp only [evS, Option.bind_eq_some_iff] at h
      obtain ⟨⟨op, ρ1⟩, h1, h2⟩ := h
      dsimp only at h2
      split at h2
      · rename_i ds hd
        cases h2
        exact ss_retM (evE_ok e o hc h1)
      · cases h2
    · cases hc
  | .retN, s, X, st, ρ, oc, o, hc, h => by
    unfold chS at hc
    split at hc
    · simp only [evS] at h
      cases h
      exact ss_retN
    · cases hc
  | .brk, s, X, st, ρ, oc, o, hc, h => by
    unfold chS at hc
    split at hc
    · simp only [evS] at h
      cases h
      exact ss_brk
    · cases hc
  | .cnt, s, X, st, ρ, oc, o, hc, h => by
    unfold chS at hc
    split at hc
    · simp only [evS] at h
      cases h
      exact ss_cnt
    · cases hc
  | .pas, s, X, st, ρ, oc, o, hc, h => by
    unfold chS at hc
    split at hc
    · simp only [evS] at h
      cases h
      exact ss_pass
    · cases hc
  | .nev, s, X, st, ρ, oc, o, hc, h => by simp [evS] at h
theorem evSs_ok : ∀ (ir : ISs) {s : Sc} {X : Cx} {sts : List Stmt} {ρ : En} {oc : Oc}, XOk T tb k s X → chSs s ir sts = true → evSs n T ρ ir = some oc → SSs tb X sts ρ oc
  | .nil, s, X, sts, ρ, oc, o, hc, h => by
    unfold chSs at hc
    split at hc
    · simp only [evSs] at h
      cases h
      exact sss_nil
    · cases hc
  | .cons i is, s, X, sts, ρ, oc, o, hc, h => by
    unfold chSs at hc
    split at hc
    · simp only [Bool.and_eq_true] at hc
      simp only [evSs] at h
      split at h
      · rename_i ρ1 h1
        exact sss_nx (evS_ok i o hc.1 h1) (evSs_ok is o hc.2 h)
      · rename_i hne
        exact sss_end (evS_ok i o hc.1 h) fun ρ' z => by
          subst z
          exact hne _ h
    · cases hc
end

/-! ### a def by its text -/
theorem ent_rel {K : PySem.W.Frag} {pa : Nat → Addr} {B F H : Hp} {vs : List V} {ds : List D} {N : Nat} (w : Wf tb B F H) (r : RpAll K F vs ds) (hN : vs.length ≤ N) : Rel K tb pa B F (vs.map some ++ List.replicate (N - vs.length) none) H (entP N ds) := by
  have hl := RpAll.length r
  refine ⟨w, by simp [entP, hl], fun i sl hi => ?_, fun i j s t hij hs ht os ot => ?_⟩
  · unfold entP at hi
    by_cases h : i < ds.length
    · rw [List.getElem?_append_left (by simpa using h), List.getElem?_map] at hi
      obtain ⟨d, hd, rfl⟩ := Option.map_eq_some_iff.mp hi
      obtain ⟨x, e1, e2⟩ := RpAll.get r hd
      refine ⟨x, ?_, e2⟩
      rw [List.getElem?_append_left (by simpa [hl] using h), List.getElem?_map, e1]
      rfl
    · rw [List.getElem?_append_right (by simpa using h), List.getElem?_replicate] at hi
      split at hi
      · cases hi; trivial
      · cases hi
  · unfold entP at hs
    by_cases h : i < ds.length
    · rw [List.getElem?_append_left (by simpa using h), List.getElem?_map] at hs
      obtain ⟨d, hd, rfl⟩ := Option.map_eq_some_iff.mp hs
      cases os
    · rw [List.getElem?_append_right (by simpa using h), List.getElem?_replicate] at hs
      split at hs
      · cases hs; cases os
      · cases hs
def scOf (N : List Str) (st : Stmt) (gd : Bool := false) : Sc := ⟨N, defScope st, fun _ => true, gd⟩
/-- how much room a def wants that holds generator expressions -/
abbrev gk (gd : Bool) (k : Nat) : Nat := if gd then k + 8 else k
def TabF (gd : Bool) (base : Heap) (mg : Str → Option Value) (tb : List Addr) (cdv : Value) : Prop := gd = true → ∃ c P, cdv = .ref c ∧ GxR.TabB base mg c P ∧ P ∈ tb
/-- what a law's text gives to every def -/
structure Env1 (T : Tb) (P : Program) (w : World) (K : PySem.W.Frag) (mg : Str → Option Value) (base : Heap) (tb : List Addr) (k : Nat) : Prop where
  fns : ∀ f fs, T.fs f = some fs → Can P w K mg base tb k f fs
  kws : ∀ f n ks pm fs, T.ks f n ks = some pm → T.fs f = some fs → CanK P w K mg base tb k f n ks pm fs
  gls : ∀ x d, T.gl x = some d → ∃ v u, mg x = some u ∧ RelV v u ∧ ∀ F, Rp K F v d
  blt : ∀ x ∈ bnames, mg x = none
theorem xok_of {P : Program} {w : World} {K : PySem.W.Frag} {mg : Str → Option Value} {base : Heap} {N ps : List Str} {qual : Str} {st : Stmt} {f : Addr} {cdv : Value} {A : Around} {outer : List Env} {s : Shared} {H : Hp} {E : XK} (e : Env1 T P w K mg base tb k) (S : FnScope N ps (defScope st))
    {gd : Bool} (ht : TabF gd base mg tb cdv) (hg : A.guards = some []) (hr : Room (gk gd k) (A.deeper (envOfC qual (defScope st) s.heap.objs.size f cdv))) : XOk T tb k (scOf N st gd) (cxOf CX0 P w K mg base N qual (defScope st) f cdv A outer s H E).nox :=
  { fns := e.fns, kws := e.kws, gls := e.gls, blt := e.blt, nm := rfl, nd := S.nd, sc := rfl, fn := fun _ _ => rfl, calm := rfl, room8 := hr, tab := ht, grd := hg, own := PassesOwn.never }
theorem fng_p {P : Program} {w : World} {K : PySem.W.Frag} {mg : Str → Option Value} {base : Heap} {x qual : Str} {st : Stmt} {f : Addr} {fd : FuncData} {N ps : List Str} {b : ISs} {sp : List D → Option D} (e : Env1 T P w K mg base tb k) (Fn : Fun K x qual st f fd) (S : FnScope N ps (defScope st))
    {gd : Bool} (ht : TabF gd base mg tb fd.code) (hc : chSs (scOf N st gd) b (defBody st) = true) (hsp : ∀ ds r, sp ds = some r → ds.length = ps.length → ∃ n, runP n T N.length b ds = some r) : FnG P w K mg base (gk gd k + 1) f fd ps (SpOf K tb (.p ps.length sp)) := by
  refine fnG_of Fn S (fun vs H Q E h => h.1) fun cdv A outer s H vs Q E hcd hg hr h => ?_
  obtain ⟨hl, B, F, ds, r, wf, rp, hr', hQ⟩ := h
  have o := xok_of (outer := outer) (H := H) (E := E) (qual := qual) (f := f) (cdv := cdv) e S (by rw [← hcd]; exact ht) hg hr
  obtain ⟨n, hrun⟩ := hsp ds r hr' (by rw [← RpAll.length rp]; exact hl)
  have hN : vs.length ≤ N.length := by
    have := congrArg List.length S.pre
    rw [List.length_take] at this
    omega
  have rel : Rel K tb (fun _ => 0) B F (start N vs) H (entP N.length ds) := ent_rel wf rp hN
  unfold runP at hrun
  split at hrun
  · rename_i d ρ' hev
    cases hrun
    refine ⟨fun pins s' σ H' D I q => ?_⟩
    obtain ⟨rfl, rfl, q1, q2⟩ := q
    refine evSs_ok b o hc hev (fun _ => 0) B F _ _ rel D (fun v F' σ' H' s' r' rv => ?_) pins s' I
    rw [q1]
    exact hQ v F' H' s' r'.wf rv
  · rename_i ρ' hev
    cases hrun
    refine ⟨fun pins s' σ H' D I q => ?_⟩
    obtain ⟨rfl, rfl, q1, q2⟩ := q
    refine evSs_ok b o hc hev (fun _ => 0) B F _ _ rel D (fun F' σ' H' s' r' => ?_) pins s' I
    rw [q2]
    exact hQ .non F' H' s' r'.wf .non
  · cases hrun
theorem fng_m {P : Program} {w : World} {K : PySem.W.Frag} {mg : Str → Option Value} {base : Heap} {x qual : Str} {st : Stmt} {f : Addr} {fd : FuncData} {N ps : List Str} {b : ISs} {sp : List D → Option (List D)} (e : Env1 T P w K mg base tb k) (Fn : Fun K x qual st f fd) (S : FnScope N ps (defScope st))
    {gd : Bool} (ht : TabF gd base mg tb fd.code) (hc : chSs (scOf N st gd) b (defBody st) = true) (hsp : ∀ ds r, sp ds = some r → ds.length = ps.length → ∃ n, runM n T N.length b ds = some r) : FnG P w K mg base (gk gd k + 1) f fd ps (SpOf K tb (.m ps.length sp)) := by
  refine fnG_of Fn S (fun vs H Q E h => h.1) fun cdv A outer s H vs Q E hcd hg hr h => ?_
  obtain ⟨hl, B, F, ds, r, wf, rp, hr', hQ⟩ := h
  have o := xok_of (outer := outer) (H := H) (E := E) (qual := qual) (f := f) (cdv := cdv) e S (by rw [← hcd]; exact ht) hg hr
  obtain ⟨n, hrun⟩ := hsp ds r hr' (by rw [← RpAll.length rp]; exact hl)
  have hN : vs.length ≤ N.length := by
    have := congrArg List.length S.pre
    rw [List.length_take] at this
    omega
  have rel : Rel K tb (fun _ => 0) B F (start N vs) H (entP N.length ds) := ent_rel wf rp hN
  unfold runM at hrun
  split at hrun
  · rename_i d ρ' hev
    cases hrun
    refine ⟨fun pins s' σ H' D I q => ?_⟩
    obtain ⟨rfl, rfl, q1, q2⟩ := q
    refine evSs_ok b o hc hev (fun _ => 0) B F _ _ rel D (fun p ws F' σ' H' s' r' hp hf hb rv => ?_) pins s' I
    rw [q1]
    exact hQ p ws F' H' s' r'.wf hp hf hb rv
  · cases hrun
theorem can_p {P : Program} {w : World} {K : PySem.W.Frag} {mg : Str → Option Value} {base : Heap} {x qual : Str} {st : Stmt} {f : Addr} {fd : FuncData} {N ps : List Str} {b : ISs} {sp : List D → Option D} (e : Env1 T P w K mg base tb k) (Fn : Fun K x qual st f fd) (S : FnScope N ps (defScope st)) (hm : mg x = some (.ref f)) (hb : Binds K fd ps [])
    {gd : Bool} (ht : TabF gd base mg tb fd.code) (hc : chSs (scOf N st gd) b (defBody st) = true) (hsp : ∀ ds r, sp ds = some r → ds.length = ps.length → ∃ n, runP n T N.length b ds = some r) : Can P w K mg base tb (gk gd k + 1) x (.p ps.length sp) :=
  ⟨.inl ⟨f, fd, ps, fng_p e Fn S ht hc hsp, hm, Fn.kp, hb⟩⟩
theorem Can.mono {P : Program} {w : World} {K : PySem.W.Frag} {mg : Str → Option Value} {base : Heap} {j : Nat} {x : Str} {fs : FS} (h : Can P w K mg base tb j x fs) (hk : j ≤ k) : Can P w K mg base tb k x fs := by
  refine ⟨h.ex.imp (fun ⟨f, fd, ps, h1, h2, h3, h4⟩ => ⟨f, fd, ps, h1.mono hk, h2, h3, h4⟩) id⟩
theorem CanK.mono {P : Program} {w : World} {K : PySem.W.Frag} {mg : Str → Option Value} {base : Heap} {j : Nat} {x : Str} {n : Nat} {ks : List Str} {pm : List Nat} {fs : FS} (h : CanK P w K mg base tb j x n ks pm fs) (hk : j ≤ k) : CanK P w K mg base tb k x n ks pm fs := by
  obtain ⟨f, fd, ps, h1, h2, h3, h4⟩ := h.ex
  exact ⟨f, fd, ps, h1.mono hk, h2, h3, h4⟩
theorem cank_p {P : Program} {w : World} {K : PySem.W.Frag} {mg : Str → Option Value} {base : Heap} {x : Str} {f : Addr} {fd : FuncData} {ps : List Str} {n : Nat} {ks : List Str} {pm : List Nat} {fs : FS} (hF : FnG P w K mg base k f fd ps (SpOf K tb fs)) (hm : mg x = some (.ref f)) (hk : PySem.W.keepIn K (.ref f) = true) (hb : KB K fd ps n ks pm) : CanK P w K mg base tb k x n ks pm fs := ⟨f, fd, ps, hF, hm, hk, hb⟩
/-- tables -/
abbrev KTab := List (Str × List ((Nat × List Str) × List Nat))
def tabT (fs : List (Str × FS)) (kt : KTab) (gl : List (Str × D)) : Tb := ⟨fun x => fs.lookup x, fun f n ks => (kt.lookup f).bind fun l => l.lookup (n, ks), fun x => gl.lookup x⟩
theorem lookup_mem {α β : Type} [BEq α] [LawfulBEq α] {a : α} {b : β} : ∀ {l : List (α × β)}, l.lookup a = some b → (a, b) ∈ l
  | [], h => by cases h
  | (x, y) :: l, h => by
    simp only [List.lookup] at h
    split at h
    · rename_i q
      cases h
      rw [eq_of_beq q]
      exact List.mem_cons_self
    · exact List.mem_cons_of_mem _ (lookup_mem h)
theorem Env1.ext {P : Program} {w : World} {K : PySem.W.Frag} {mg : Str → Option Value} {base : Heap} {j : Nat} {fs : List (Str × FS)} {kt : KTab} {gl : List (Str × D)} {x : Str} {s : FS} (e : Env1 (tabT fs kt gl) P w K mg base tb j) (h : Can P w K mg base tb k x s)
    (hk : ∀ l, kt.lookup x = some l → ∀ n ks pm, ((n, ks), pm) ∈ l → CanK P w K mg base tb k x n ks pm s) (hj : j ≤ k) : Env1 (tabT ((x, s) :: fs) kt gl) P w K mg base tb k := by
  refine ⟨fun f s' hf => ?_, fun f n ks pm s' h1 h2 => ?_, e.gls, e.blt⟩
  · simp only [tabT, List.lookup] at hf
    split at hf
    · rename_i q
      cases hf
      rw [eq_of_beq q]
      exact h
    · exact (e.fns f s' hf).mono hj
  · simp only [tabT, List.lookup] at h2
    split at h2
    · rename_i q
      cases h2
      have q := eq_of_beq q
      subst q
      simp only [tabT, Option.bind_eq_some_iff] at h1
      obtain ⟨l, h3, h4⟩ := h1
      exact hk l h3 n ks pm (lookup_mem h4)
    · exact (e.kws f n ks pm s' h1 h2).mono hj
/-- nothing yet -/
theorem env0 {P : Program} {w : World} {K : PySem.W.Frag} {mg : Str → Option Value} {base : Heap} {kt : KTab} {gl : List (Str × D)} (hg : ∀ x d, gl.lookup x = some d → ∃ v u, mg x = some u ∧ RelV v u ∧ ∀ F, Rp K F v d) (hb : ∀ x ∈ bnames, mg x = none) : Env1 (tabT [] kt gl) P w K mg base tb 0 :=
  ⟨fun f s h => (by cases h), fun f n ks pm s h1 h2 => (by cases h2), hg, hb⟩
end
end Ev

set_option maxHeartbeats 4000000
namespace Ev
open PySem PySem.Spec PyProof.Rows L2

section
variable {T : Tb} {tb : List Addr} {k : Nat} {n : Nat}
theorem ent_relW {K : PySem.W.Frag} {B F H : Hp} {p : Addr} {vr vs0 : List V} {ds0 ds : List D} {N : Nat} (w : Wf tb B F H) (hp : H p = some (.lst vs0)) (hf : F p = none) (hb : B p = none) (r0 : RpAll K F vs0 ds0) (r : RpAll K F vr ds) (hN : vr.length + 1 ≤ N) :
    Rel K tb (fun _ => p) B F ((V.ref p :: vr).map some ++ List.replicate (N - (V.ref p :: vr).length) none) H (entW N ds0 ds) := by
  have hl := RpAll.length r
  have cell : ∀ (i : Nat) (sl : Sl), (entW N ds0 ds)[i]? = some sl → (i = 0 ∧ sl = .o true ds0) ∨ (∃ j d, i = j + 1 ∧ ds[j]? = some d ∧ sl = .v d) ∨ sl = .u := fun i sl hi => by
    unfold entW at hi
    cases i with
    | zero => cases hi; exact .inl ⟨rfl, rfl⟩
    | succ j =>
      rw [List.getElem?_cons_succ] at hi
      by_cases h : j < ds.length
      · rw [List.getElem?_append_left (by simpa using h), List.getElem?_map] at hi
        obtain ⟨d, hd, rfl⟩ := Option.map_eq_some_iff.mp hi
        exact .inr (.inl ⟨j, d, rfl, hd, rfl⟩)
      · rw [List.getElem?_append_right (by simpa using h), List.getElem?_replicate] at hi
        split at hi
        · cases hi; exact .inr (.inr rfl)
        · cases hi
  refine ⟨w, by simp [entW, hl]; omega, fun i sl hi => ?_, fun i j s t hij hs ht os ot => ?_⟩
  · rcases cell i sl hi with ⟨rfl, rfl⟩ | ⟨j, d, rfl, hd, rfl⟩ | rfl
    · exact ⟨p, vs0, rfl, fun _ => rfl, hp, hf, hb, r0⟩
    · obtain ⟨x, e1, e2⟩ := RpAll.get r hd
      have hj := (List.getElem?_eq_some_iff.mp e1).1
      refine ⟨x, ?_, e2⟩
      rw [List.getElem?_append_left (by simp; omega), List.map_cons, List.getElem?_cons_succ, List.getElem?_map, e1]
      rfl
    · trivial
  · rcases cell i s hs with ⟨rfl, rfl⟩ | ⟨j', d, rfl, hd, rfl⟩ | rfl
    · rcases cell j t ht with ⟨rfl, rfl⟩ | ⟨j', d, rfl, hd, rfl⟩ | rfl
      · exact absurd rfl hij
      · cases ot
      · cases ot
    · cases os
    · cases os
theorem can_w {P : Program} {w : World} {K : PySem.W.Frag} {mg : Str → Option Value} {base : Heap} {x qual : Str} {st : Stmt} {f : Addr} {fd : FuncData} {N ps : List Str} {b : ISs} {sp : List D → List D → Option (D × List D)} (e : Env1 T P w K mg base tb k) (Fn : Fun K x qual st f fd) (S : FnScope N ps (defScope st)) (hm : mg x = some (.ref f)) (hb : Binds K fd ps [])
    {gd : Bool} (ht : TabF gd base mg tb fd.code) (hc : chSs (scOf N st gd) b (defBody st) = true) (hsp : ∀ ds0 ds r, sp ds0 ds = some r → ds.length + 1 = ps.length → ∃ n, runW n T N.length b ds0 ds = some r) : Can P w K mg base tb (gk gd k + 1) x (.w ps.length sp) := by
  refine ⟨.inl ⟨f, fd, ps, ?_, hm, Fn.kp, hb⟩⟩
  refine fnG_of Fn S (fun vs H Q E h => h.1) fun cdv A outer s H vs Q E hcd hg hr h => ?_
  obtain ⟨hl, B, F, p, vr, vs0, ds0, ds, r, es, rfl, wf, hp, hf, hB, r0, rp, hr', hQ⟩ := h
  have o := xok_of (outer := outer) (H := H) (E := E) (qual := qual) (f := f) (cdv := cdv) e S (by rw [← hcd]; exact ht) hg hr
  have hl' := RpAll.length rp
  rw [List.length_cons] at hl
  obtain ⟨n, hrun⟩ := hsp ds0 ds _ hr' (by omega)
  have hN : vr.length + 1 ≤ N.length := by
    have := congrArg List.length S.pre
    rw [List.length_take] at this
    omega
  have rel : Rel K tb (fun _ => p) B F (start N (V.ref p :: vr)) H (entW N.length ds0 ds) := ent_relW wf hp hf hB r0 rp hN
  unfold runW at hrun
  split at hrun
  · rename_i d ρ' hev
    split at hrun
    · rename_i es' h0
      cases hrun
      refine ⟨fun pins s' σ H' D I q => ?_⟩
      obtain ⟨rfl, rfl, q1, q2⟩ := q
      refine evSs_ok b o hc hev (fun _ => p) B F _ _ rel D (fun v F' σ' H' s' r' rv => ?_) pins s' I
      rw [q1]
      obtain ⟨p', ws, a1, m1, b1, c1, e1, f1⟩ := r'.sl 0 _ h0
      cases m1 rfl
      exact hQ v F' H' ws s' r'.wf b1 c1 f1 rv
    · cases hrun
  · rename_i ρ' hev
    split at hrun
    · rename_i es' h0
      cases hrun
      refine ⟨fun pins s' σ H' D I q => ?_⟩
      obtain ⟨rfl, rfl, q1, q2⟩ := q
      refine evSs_ok b o hc hev (fun _ => p) B F _ _ rel D (fun F' σ' H' s' r' => ?_) pins s' I
      rw [q2]
      obtain ⟨p', ws, a1, m1, b1, c1, e1, f1⟩ := r'.sl 0 _ h0
      cases m1 rfl
      exact hQ .non F' H' ws s' r'.wf b1 c1 f1 .non
    · cases hrun
  · cases hrun
/-- math.gcd -/
def gcdF : List D → Option D
  | [.int i, .int j] => some (.int ((Nat.gcd i.natAbs j.natAbs : Nat) : Int))
  | _ => none
theorem can_gcd {P : Program} {w : World} {K : PySem.W.Frag} {mg : Str → Option Value} {base : Heap} {x : Str} (hm : mg x = some (.builtin "math.gcd")) : Can P w K mg base tb k x (.p 2 gcdF) := by
  refine ⟨.inr ⟨"math.gcd", hm, fun H Q E h => ?_, fun X hK pins s σ H vs us Q I r h => ?_⟩⟩
  · have h : ([] : List V).length = 2 ∧ _ := h
    cases h.1
  · obtain ⟨hl, B, F, ds, rr, wf, rp, hf, hQ⟩ := h
    subst hK
    cases rp with
    | nil => cases hl
    | cons a rp =>
      cases rp with
      | nil => cases hl
      | cons b rp =>
        cases rp with
        | cons _ _ => simp at hl
        | nil =>
          unfold gcdF at hf
          split at hf
          · rename_i i j hd
            cases hd
            cases hf
            cases a
            cases b
            exact cr_gcd pins s σ H _ us Q I r ⟨_, _, rfl, hQ _ F H (Sm.refl _) wf (.int _)⟩
          · cases hf
/-- the law at its script -/
theorem sp_law {K : PySem.W.Frag} {sp : List D → Option D} {H : Hp} {a : Addr} {ns : List Int} (hall : ∀ b u, H b = some u → b = a ∧ ∃ o, u = .frz o (.lst (ns.map V.int))) (hr : Rd H a (.lst (ns.map V.int))) (h : sp [.list (ns.map .int)] = some (.bool true)) : SpP K [] 1 sp [.ref a] H (fun v _ => v = .bl true) E0 := by
  have hin : ∀ ns : List Int, RpAll K H (ns.map V.int) (ns.map .int) := fun ns => by
    induction ns with
    | nil => exact .nil
    | cons n ns ih => exact .cons (.int n) ih
  refine ⟨rfl, fun _ => none, H, [.list (ns.map .int)], .bool true, ⟨Sm.refl _, (fun p o e => by cases e), (fun P hP => by cases hP)⟩, .cons (.lst hr (hin ns)) .nil, h, fun v F' H' s' w' rv => ?_⟩
  cases rv
  rfl
/-- a def as the program's top leaves it -/
def Got (K : PySem.W.Frag) (mg : Str → Option Value) (x : Str) (st : Stmt) : Prop := ∃ (f : Addr) (fd : FuncData), Fun K x x st f fd ∧ mg x = some (.ref f)
def BA (x : Str) (st : Stmt) (ps : List Str) : Prop := ∀ (kV doc pm : Value) (an : Option Addr) (cdv ct : Value) (us : List Value), us.length = ps.length → bindArgs (PySem.W.fnOf x x (defArgs st) (defBody st) (defScope st) .none kV doc pm an cdv ct) ⟨us, []⟩ = pure (ps.zip us)
def KA (x : Str) (st : Stmt) (ps : List Str) (n : Nat) (ks : List Str) (pl : List Nat) : Prop := ∀ (kV doc pm : Value) (an : Option Addr) (cdv ct : Value) (us ws : List Value), us.length = n → ws.length = ks.length → bindArgs (PySem.W.fnOf x x (defArgs st) (defBody st) (defScope st) .none kV doc pm an cdv ct) ⟨us, ks.zip ws⟩ = pure (ps.zip (permL pl (us ++ ws)))
section
variable {P : Program} {w : World} {K : PySem.W.Frag} {mg : Str → Option Value} {base : Heap} {x : Str} {st : Stmt} {N ps : List Str} {b : ISs}
theorem got_mk {f : Addr} {oc : Value} {od an : Option Addr} {osl : Array (Option Value)} {kV doc pm cdv ct : Value} {h : Heap} (X : K.In h) (G : h.Ns mainGlobals mg) (a : PySem.W.nsIn K mainGlobals x = some (some (.ref f))) (l : K.lookup f = some ⟨oc, od, .func (PySem.W.fnOf x x (defArgs st) (defBody st) (defScope st) .none kV doc pm an cdv ct), osl⟩)
    (c : PySem.W.codeIn K cdv x = true) (k : PySem.W.keepIn K (.ref f) = true) : Got K mg x st := ⟨f, _, fun_mk l c k, PySem.W.mg_of X G a⟩
def isIntV : Value → Int → Bool
  | .int i _, v => decide (i = v)
  | _, _ => false
theorem con_mk {u : Value} {v : Int} {h : Heap} (X : K.In h) (G : h.Ns mainGlobals mg) (a : PySem.W.nsIn K mainGlobals x = some (some u)) (e : isIntV u v = true) : ∃ t, mg x = some (.int v t) := by
  have := PySem.W.mg_of X G a
  cases u with
  | int i t =>
    have e : i = v := of_decide_eq_true e
    subst e
    exact ⟨t, this⟩
  | _ => cases e
/-- a tuple of numbers that the module keeps under a name -/
def ConT (K : PySem.W.Frag) (mg : Str → Option Value) (x : Str) (l : List Int) : Prop := ∃ (a : Addr) (o : Obj) (its : Array Value) (m : Nat), mg x = some (.ref a) ∧ K.lookup a = some o ∧ o.cls = .type "tuple" ∧ o.data = .seq its m ∧ its.size ≤ sizeLine ∧ Vals (l.map V.int) its.toList
def intsV : List Value → List Int → Bool
  | [], [] => true
  | .int i _ :: us, j :: l => decide (i = j) && intsV us l
  | _, _ => false
theorem intsV_ok : ∀ {us : List Value} {l : List Int}, intsV us l = true → Vals (l.map V.int) us
  | [], [], _ => .nil
  | .int i t :: us, j :: l, h => by
    simp only [intsV, Bool.and_eq_true, decide_eq_true_eq] at h
    obtain ⟨rfl, h⟩ := h
    exact .cons ⟨t, rfl⟩ (intsV_ok h)
  | [], _ :: _, h => by simp [intsV] at h
  | .none :: _, _, h => by simp [intsV] at h
  | .bool _ :: _, _, h => by simp [intsV] at h
  | .int _ _ :: _, [], h => by simp [intsV] at h
  | .float .. :: _, _, h => by simp [intsV] at h
  | .str .. :: _, _, h => by simp [intsV] at h
  | .bytes .. :: _, _, h => by simp [intsV] at h
  | .ref _ :: _, _, h => by simp [intsV] at h
  | .type _ :: _, _, h => by simp [intsV] at h
  | .builtin _ :: _, _, h => by simp [intsV] at h
  | .ellipsis :: _, _, h => by simp [intsV] at h
  | .notImplemented :: _, _, h => by simp [intsV] at h
def tupV (o : Option Obj) (l : List Int) : Bool := match o with
  | some ⟨.type "tuple", _, .seq its _, _⟩ => decide (its.size ≤ 1000) && intsV its.toList l
  | _ => false
theorem cot_mk {p : Addr} {l : List Int} {h : Heap} (X : K.In h) (G : h.Ns mainGlobals mg) (a : PySem.W.nsIn K mainGlobals x = some (some (.ref p))) (e : tupV (K.lookup p) l = true) : ConT K mg x l := by
  have hm := PySem.W.mg_of X G a
  unfold tupV at e
  split at e
  · rename_i o d its m sl q
    rw [Bool.and_eq_true, decide_eq_true_eq] at e
    refine ⟨p, _, its, m, hm, q, rfl, rfl, ?_, intsV_ok e.2⟩
    have : sizeLine = 16777216 := by decide
    omega
  · cases e
theorem ints_rp {K : PySem.W.Frag} {F : Hp} : ∀ l : List Int, RpAll K F (l.map V.int) (l.map .int)
  | [] => .nil
  | i :: l => .cons (.int i) (ints_rp l)
theorem conT_glb {l : List Int} (c : ConT K mg x l) : ∃ v u, mg x = some u ∧ RelV v u ∧ ∀ F, Rp K F v (.tuple (l.map .int)) := by
  obtain ⟨a, o, its, m, h1, h2, h3, h4, h5, h6⟩ := c
  exact ⟨.ref a, .ref a, h1, rfl, fun F => .tup (.inr ⟨o, its, m, h2, h3, h4, h5, h6⟩) (ints_rp l)⟩
theorem got_drop {h : Heap} {a : Addr} {vs : Array Value} (X : K.In h) (ha : h.get? a = some { cls := .type "list", data := .seq vs }) (g : Got K mg x st) : Got (dropK a K) mg x st := by
  obtain ⟨f, fd, F, hm⟩ := g
  obtain ⟨oc, od, kV, doc, pm, an, cdv, ct, osl, rfl, lk, hcd⟩ := F.ex
  have hf : f ≠ a := fun e => by
    subst e
    have := X _ _ lk
    rw [ha] at this
    cases this
  have lk' : (dropK a K).lookup f = some _ := (dropK_lookup hf).trans lk
  refine ⟨f, _, ⟨⟨oc, od, kV, doc, pm, an, cdv, ct, osl, rfl, lk', ?_⟩, ?_⟩, hm⟩
  · unfold PySem.W.codeIn at hcd ⊢
    cases cdv with
    | ref c =>
      dsimp only at hcd ⊢
      by_cases hc : c = a
      · subst hc
        split at hcd
        · rename_i vs' _ e
          have := X _ _ e
          rw [ha] at this
          cases this
        · cases hcd
      · rw [dropK_lookup hc]
        exact hcd
    | _ => cases hcd
  · unfold PySem.W.keepIn
    dsimp only
    rw [lk']
/-- .. with its code's table, where generator expressions stand in it -/
def GotT (K : PySem.W.Frag) (mg : Str → Option Value) (base : Heap) (tb : List Addr) (gd : Bool) (x : Str) (st : Stmt) : Prop := ∃ (f : Addr) (fd : FuncData), Fun K x x st f fd ∧ mg x = some (.ref f) ∧ TabF gd base mg tb fd.code
theorem Got.t0 {tb : List Addr} (g : Got K mg x st) : GotT K mg base tb false x st := by
  obtain ⟨f, fd, F, hm⟩ := g
  exact ⟨f, fd, F, hm, fun h => by cases h⟩
section
variable {T : Tb} {tb : List Addr} {k : Nat} {gd : Bool}
theorem can_gp {sp : List D → Option D} (g : GotT K mg base tb gd x st) (S : FnScope N ps (defScope st)) (hb : BA x st ps) (e : Env1 T P w K mg base tb k) (hc : chSs (scOf N st gd) b (defBody st) = true) (hsp : ∀ ds r, sp ds = some r → ds.length = ps.length → ∃ n, runP n T N.length b ds = some r) : Can P w K mg base tb (gk gd k + 1) x (.p ps.length sp) := by
  obtain ⟨f, fd, F, hm, ht⟩ := g
  exact can_p e F S hm (F.binds hb) ht hc hsp
theorem can_gm {sp : List D → Option (List D)} (g : GotT K mg base tb gd x st) (S : FnScope N ps (defScope st)) (hb : BA x st ps) (e : Env1 T P w K mg base tb k) (hc : chSs (scOf N st gd) b (defBody st) = true) (hsp : ∀ ds r, sp ds = some r → ds.length = ps.length → ∃ n, runM n T N.length b ds = some r) : Can P w K mg base tb (gk gd k + 1) x (.m ps.length sp) := by
  obtain ⟨f, fd, F, hm, ht⟩ := g
  exact ⟨.inl ⟨f, fd, ps, fng_m e F S ht hc hsp, hm, F.kp, F.binds hb⟩⟩
theorem can_gw {sp : List D → List D → Option (D × List D)} (g : GotT K mg base tb gd x st) (S : FnScope N ps (defScope st)) (hb : BA x st ps) (e : Env1 T P w K mg base tb k) (hc : chSs (scOf N st gd) b (defBody st) = true) (hsp : ∀ ds0 ds r, sp ds0 ds = some r → ds.length + 1 = ps.length → ∃ n, runW n T N.length b ds0 ds = some r) : Can P w K mg base tb (gk gd k + 1) x (.w ps.length sp) := by
  obtain ⟨f, fd, F, hm, ht⟩ := g
  exact can_w e F S hm (F.binds hb) ht hc hsp
theorem cank_gp {sp : List D → Option D} {n : Nat} {ks : List Str} {pl : List Nat} (g : GotT K mg base tb gd x st) (S : FnScope N ps (defScope st)) (hb : KA x st ps n ks pl) (e : Env1 T P w K mg base tb k) (hc : chSs (scOf N st gd) b (defBody st) = true) (hsp : ∀ ds r, sp ds = some r → ds.length = ps.length → ∃ n, runP n T N.length b ds = some r) : CanK P w K mg base tb (gk gd k + 1) x n ks pl (.p ps.length sp) := by
  obtain ⟨f, fd, F, hm, ht⟩ := g
  refine cank_p (fng_p e F S ht hc hsp) hm F.kp ?_
  obtain ⟨oc, od, kV, doc, pm, an, cdv, ct, osl, rfl, lk, hcd⟩ := F.ex
  exact fun s us ws _ h1 h2 => .of_eq (hb kV doc pm an cdv ct us ws h1 h2)
theorem law_g {fa : Addr} {sp : List D → Option D} {y : Str} (g : Got K mg x st) (S : FnScope N [y] (defScope st)) (hb : BA x st [y]) (hfa : mg x = some (.ref fa)) (hc : chSs (scOf N st) b (defBody st) = true) :
    ∃ fd : FuncData, (∀ (s : Shared) (u : Value), BindsTo s fd ⟨[u], []⟩ [(y, u)]) ∧ ∀ base, Env1 T P w K mg base tb k → (∀ ds r, sp ds = some r → ds.length = [y].length → ∃ n, runP n T N.length b ds = some r) → FnG P w K mg base (k + 1) fa fd [y] (SpP K tb 1 sp) := by
  obtain ⟨f, fd, F, hm⟩ := g
  rw [hfa] at hm
  cases hm
  refine ⟨fd, fun s u => ?_, fun base e hsp => fng_p (gd := false) e F S (fun h => by cases h) hc hsp⟩
  obtain ⟨oc, od, kV, doc, pm, an, cdv, ct, osl, rfl, lk, hcd⟩ := F.ex
  exact .of_eq (hb kV doc pm an cdv ct [u] rfl)
end
end
end
end Ev

set_option maxHeartbeats 4000000
namespace Ev
open PySem PySem.Spec PyProof.Rows L2

/-! ### the end, with tables of code objects -/
theorem lawGT {P : Program} {w : World} {K : PySem.W.Frag} {mg mb : Str → Option Value} {k : Nat} {fa a : Addr} {cs : List (Addr × Addr)} {fd : FuncData} {x : Str} {sp : Sp} {s₁ : Shared} {vs : List Value} {ns : List Int}
    (KX : K.In s₁.heap) (hns : s₁.heap.Ns mainGlobals mg) (hb : s₁.heap.Ns builtinsNs mb) (hbb : ∀ x : Str, x ≠ "__name__" → mb x = bootBuiltins x) (hlim : s₁.heap.NoLimit) (hg : s₁.gens = #[])
    (hT : ∀ p ∈ cs, s₁.heap.get? p.2 = some { cls := .none, data := .fields #[] }) (nT : ∀ p ∈ cs, K.lookup p.2 = none) (C : ∀ p ∈ cs, PySem.W.CodeHd s₁.heap p.1 p.2)
    (hbm : ∃ (bm : Addr) (ob : Obj), mg "__builtins__" = some (.ref bm) ∧ bm ≠ builtinsNs ∧ s₁.heap.get? bm = some ob ∧ ob.cls = .type "module" ∧ ob.dict = some builtinsNs ∧ ob.data = .plain)
    (ha : s₁.heap.get? a = some { cls := .type "list", data := .seq vs.toArray }) (hi : IntsAre vs ns) (hl : ns.length ≤ sizeLine) (hr : Room k callerA)
    (F : ∀ base : Heap, K.In base → base.Ns mainGlobals mg → (∀ p ∈ cs, GxR.TabB base mg p.1 p.2) → FnG P w K mg base k fa fd [x] sp) (hbind : ∀ (s : Shared) (u : Value), BindsTo s fd ⟨[u], []⟩ [(x, u)])
    (hK : K.lookup a = none)
    (hsp : ∀ (H : Hp) (o : Obj), H a = some (.frz o (.lst (ns.map V.int))) → (∀ p ∈ cs, H p.2 = some (.tbl #[])) → sp [.ref a] H (fun v _ => v = .bl true) E0) :
    codeAny (model P w) callerA (.call (.ref fa) ⟨[.ref a], []⟩) (fun r s' => r = .ok (.ret (.bool true)) ∧ OldK s₁.heap s'.heap ∧ s'.os = s₁.os ∧ AllBare s'.gens) s₁ := by
  have rv := vals_ints hi
  have lenV := hi.length
  have isT : ∀ b : Addr, b ∈ cs.map (·.2) → s₁.heap.get? b = some { cls := .none, data := .fields #[] } := fun b hb => by
    obtain ⟨p, hp, e⟩ := List.mem_map.mp hb
    rw [← e]
    exact hT p hp
  have aT : a ∉ cs.map (·.2) := fun z => by
    have q := isT a z
    rw [ha] at q
    have z' : Data.seq vs.toArray _ = Data.fields #[] := congrArg Obj.data (Option.some.inj q)
    cases z'
  have memT : ∀ p ∈ cs, p.2 ∈ cs.map (·.2) := fun p hp => List.mem_map.mpr ⟨p, hp, rfl⟩
  obtain ⟨H, hH⟩ : ∃ H : Hp, H = fun b => if b = a then some (.frz { cls := .type "list", data := .seq vs.toArray } (.lst (ns.map V.int))) else if b ∈ cs.map (·.2) then some (.tbl #[]) else none := ⟨_, rfl⟩
  have hHa : H a = some (.frz { cls := .type "list", data := .seq vs.toArray } (.lst (ns.map V.int))) := by rw [hH]; exact if_pos rfl
  have hHT : ∀ b, b ∈ cs.map (·.2) → H b = some (.tbl #[]) := fun b hb => by
    rw [hH]
    have : b ≠ a := fun z => aT (by rw [← z]; exact hb)
    exact (if_neg this).trans (if_pos hb)
  have hHN : ∀ b, b ≠ a → b ∉ cs.map (·.2) → H b = none := fun b h1 h2 => by
    rw [hH]
    exact (if_neg h1).trans (if_neg h2)
  have hA : ∀ b, H b ≠ none → b = a ∨ b ∈ cs.map (·.2) := fun b z => by
    by_cases h1 : b = a
    · exact .inl h1
    · by_cases h2 : b ∈ cs.map (·.2)
      · exact .inr h2
      · exact absurd (hHN b h1 h2) z
  have hok : HOk P w H s₁.heap := fun b u z => by
    rcases hA b (by rw [z]; simp) with rfl | hb
    · rw [hHa] at z
      cases z
      exact ⟨ha, by rw [List.length_map]; exact hl, vs, _, rv, ha⟩
    · rw [hHT b hb] at z
      cases z
      exact isT b hb
  have base_of : ∀ {b : Addr} {o : Obj}, s₁.heap.get? b = some o → H b = none → (hidT s₁.heap H).get? b = some o := fun e n => hidT_get e n
  have noD : ∀ {b : Addr} {o : Obj}, s₁.heap.get? b = some o → (∀ vs n, o.data ≠ .seq vs n) → o.data ≠ .fields #[] → H b = none := fun {b o} e h1 h2 => by
    cases q : H b with
    | none => rfl
    | some u =>
      rcases hA b (by rw [q]; simp) with e' | e'
      · rw [e', ha] at e
        cases e
        exact (h1 _ _ rfl).elim
      · rw [isT b e'] at e
        cases e
        exact (h2 rfl).elim
  have noA : ∀ {b : Addr} {o : Obj} {es : Array DictEntry} {ep : Nat}, s₁.heap.get? b = some o → o.data = .dict es ep → H b = none := fun {b o es ep} e d => by
    refine noD e (fun vs n z => ?_) fun z => ?_
    · rw [d] at z
      cases z
    · rw [d] at z
      cases z
  have nsK : ∀ {b : Addr} {m : Str → Option Value}, s₁.heap.Ns b m → (hidT s₁.heap H).Ns b m := fun {b m} ⟨o, es, ep, e, d, r⟩ => ⟨o, es, ep, base_of e (noA e d), d, r⟩
  have hKb : K.In (hidT s₁.heap H) := fun b o e => base_of (KX b o e) (by
    cases q : H b with
    | none => rfl
    | some u =>
      rcases hA b (by rw [q]; simp) with e' | e'
      · rw [e', hK] at e
        cases e
      · obtain ⟨p, hp, ep⟩ := List.mem_map.mp e'
        rw [← ep, nT p hp] at e
        cases e)
  have hM : L2.Mod K mg (hidT s₁.heap H) := ⟨hKb, nsK hns, ⟨mb, nsK hb, hbb⟩, let ⟨mc, h1, h2⟩ := hlim; ⟨mc, nsK h1, h2⟩⟩
  have TB : ∀ p ∈ cs, GxR.TabB (hidT s₁.heap H) mg p.1 p.2 := fun p hp => by
    have hTp := hT p hp
    refine ⟨?_, ?_, fun z => ?_⟩
    · obtain ⟨o, us, file, tf, flags, tg, inF, text, tt, e1, r1, r2, r3, r4, r5, r6, r7, r8, hne⟩ := C p hp
      refine ⟨o, us, file, tf, flags, tg, inF, text, tt, base_of e1 (noD e1 (fun vs n z => ?_) fun z => ?_), r1, r2, r3, r4, r5, r6, r7, r8, hne⟩
      · rw [r2] at z
        cases z
      · rw [r2] at z
        cases z
        simp at r3
    · obtain ⟨bm, ob, b1, b2, b3, b4, b5, b6⟩ := hbm
      have nG : bm ≠ mainGlobals := fun q => by
        obtain ⟨o, es, ep, e, hd, _⟩ := hns
        rw [q, e] at b3
        cases b3
        rw [hd] at b6
        cases b6
      have nP : bm ≠ p.2 := fun q => by
        rw [q, hTp] at b3
        cases b3
        cases b6
      refine ⟨bm, ob, b1, b2, nG, nP, base_of b3 (noD b3 (fun vs n z => ?_) fun z => ?_), b4, b5, b6⟩
      · rw [b6] at z
        cases z
      · rw [b6] at z
        cases z
    · obtain ⟨o, es, ep, e, hd, _⟩ := hns
      rw [z, hTp] at e
      cases e
      cases hd
  have e0 : Env0 P w K mg (hidT s₁.heap H) callerA [] s₁ H := ⟨rfl, hM, fun b o e => of_hidT e, Nat.le_of_eq (hidT_size _ _), trivial, fun b hb => absurd (show b ∈ ([] : List Addr) from hb) (by simp), hok, .of_eq hg⟩
  refine codeAny_mono ((F _ hKb (nsK hns) TB).run callerA [] s₁ H ⟨[.ref a], []⟩ [.ref a] [.ref a] _ _ rfl hr e0 (hbind s₁ (.ref a)) (.cons rfl .nil) (hsp H _ hHa fun p hp => hHT _ (memT p hp))) fun r s' h => ?_
  match r, h with
  | .error e, h => exact False.elim h
  | .ok (.ret u), ⟨v, H', os, bare, un, hok', r', q⟩ =>
    obtain rfl : v = .bl true := q
    obtain rfl : u = Value.bool true := r'
    have key : ∀ b o, b ∉ cs.map (·.2) → s₁.heap.get? b = some o → s'.heap.get? b = some o := fun b o nb e => by
      by_cases z : b = a
      · subst z
        rw [ha] at e
        cases e
        exact (hok' b _ (un.frzs b _ _ hHa)).1
      · exact un.keep b o e (hHN b z nb) (by simp [frs]) (by simp)
    have grown : ∀ p ∈ cs, ∃ more : Array Value, s'.heap.get? p.2 = some { cls := .none, data := .fields more } := fun p hp => by
      obtain ⟨more, z⟩ := un.tbls p.2 #[] (hHT _ (memT p hp))
      exact ⟨_, hok' p.2 _ z⟩
    refine ⟨rfl, ⟨fun b o e => ?_, fun b o e => ?_⟩, os, bare⟩
    · by_cases hb : b ∈ cs.map (·.2)
      · obtain ⟨p, hp, ep⟩ := List.mem_map.mp hb
        obtain ⟨more, hm⟩ := grown p hp
        rw [← ep] at e ⊢
        rw [hT p hp] at e
        cases e
        exact .inr (.inl ⟨((C p hp).tab (hT p hp)).isCodeTable, rfl, #[], more, rfl, by rw [Array.empty_append]; exact hm⟩)
      · exact .inl (key b o hb e)
    · by_cases hb : b ∈ cs.map (·.2)
      · obtain ⟨p, hp, ep⟩ := List.mem_map.mp hb
        obtain ⟨more, hm⟩ := grown p hp
        rw [← ep]
        exact ⟨_, hm⟩
      · exact ⟨o, key b o hb e⟩
/-- without what stands at these -/
def dropL : List Addr → PySem.W.Frag → PySem.W.Frag
  | [], K => K
  | a :: l, K => dropK a (dropL l K)
theorem dropL_in {X : PySem.W.Frag} {h : Heap} (x : X.In h) : ∀ l : List Addr, (dropL l X).In h
  | [] => x
  | a :: l => dropK_in (dropL_in x l)
theorem dropL_none {K : PySem.W.Frag} : ∀ {l : List Addr} {b : Addr}, b ∈ l → (dropL l K).lookup b = none
  | a :: l, b, h => by
    by_cases e : b = a
    · subst e; exact dropK_self
    · show (dropK a (dropL l K)).lookup b = none
      rw [dropK_lookup e]
      rcases List.mem_cons.mp h with z | z
      · exact absurd z e
      · exact dropL_none z
theorem got_dropO {K : PySem.W.Frag} {mg : Str → Option Value} {x : Str} {st : Stmt} {h : Heap} {a : Addr} {oa : Obj} (X : K.In h) (ha : h.get? a = some oa) (h1 : ∀ fd, oa.data ≠ .func fd) (h2 : ∀ vs, oa.data = .fields vs → vs.toList = []) (g : Got K mg x st) : Got (dropK a K) mg x st := by
  obtain ⟨f, fd, F, hm⟩ := g
  obtain ⟨oc, od, kV, doc, pm, an, cdv, ct, osl, rfl, lk, hcd⟩ := F.ex
  have hf : f ≠ a := fun e => by
    subst e
    have := X _ _ lk
    rw [ha] at this
    cases this
    exact h1 _ rfl
  have lk' : (dropK a K).lookup f = some _ := (dropK_lookup hf).trans lk
  refine ⟨f, _, ⟨⟨oc, od, kV, doc, pm, an, cdv, ct, osl, rfl, lk', ?_⟩, ?_⟩, hm⟩
  · unfold PySem.W.codeIn at hcd ⊢
    cases cdv with
    | ref c =>
      dsimp only at hcd ⊢
      by_cases hc : c = a
      · subst hc
        split at hcd
        · rename_i vs' _ e
          have := X _ _ e
          rw [ha] at this
          cases this
          rw [h2 _ rfl] at hcd
          cases hcd
        · cases hcd
      · rw [dropK_lookup hc]
        exact hcd
    | _ => cases hcd
  · unfold PySem.W.keepIn
    dsimp only
    rw [lk']
theorem got_dropL {K : PySem.W.Frag} {mg : Str → Option Value} {x : Str} {st : Stmt} {h : Heap} (X : K.In h) (g : Got K mg x st) : ∀ l : List Addr, (∀ b ∈ l, ∃ o, h.get? b = some o ∧ (∀ fd, o.data ≠ .func fd) ∧ ∀ vs, o.data = .fields vs → vs.toList = []) → Got (dropL l K) mg x st
  | [], _ => g
  | a :: l, hl => by
    obtain ⟨o, h1, h2, h3⟩ := hl a List.mem_cons_self
    exact got_dropO (dropL_in X l) h1 h2 h3 (got_dropL X g l fun b hb => hl b (List.mem_cons_of_mem _ hb))
theorem con_dropL {K : PySem.W.Frag} {mg : Str → Option Value} {x : Str} {l : List Int} {h : Heap} (X : K.In h) (c : ConT K mg x l) : ∀ bs : List Addr, (∀ b ∈ bs, ∃ o, h.get? b = some o ∧ ∀ its m, o.cls = .type "tuple" → o.data ≠ .seq its m) → ConT (dropL bs K) mg x l := by
  obtain ⟨a, o, its, m, h1, h2, h3, h4, h5⟩ := c
  intro bs hb
  refine ⟨a, o, its, m, h1, ?_, h3, h4, h5⟩
  have ha := X _ _ h2
  induction bs with
  | nil => exact h2
  | cons b bs ih =>
    have ne : a ≠ b := fun e => by
      subst e
      obtain ⟨o', g1, g2⟩ := hb a List.mem_cons_self
      rw [ha] at g1
      cases g1
      exact g2 _ _ h3 h4
    exact (dropK_lookup ne).trans (ih fun b hb' => hb b (List.mem_cons_of_mem _ hb'))
/-- a def's code object and its table -/
def TabX (h : Heap) (mg : Str → Option Value) (x : Str) (p : Addr × Addr) : Prop := ∃ (f : Addr) (o : Obj) (fd : FuncData), mg x = some (.ref f) ∧ h.get? f = some o ∧ o.data = .func fd ∧ fd.code = .ref p.1 ∧ PySem.W.CodeHd h p.1 p.2 ∧ h.get? p.2 = some { cls := .none, data := .fields #[] }
abbrev TabsX (h : Heap) (mg : Str → Option Value) : List Str → List (Addr × Addr) → Prop := Paired (TabX h mg)
theorem TabsX.uncons {h : Heap} {mg : Str → Option Value} {x : Str} {ds : List Str} {cs : List (Addr × Addr)} (t : TabsX h mg (x :: ds) cs) : ∃ p cs', cs = p :: cs' ∧ TabX h mg x p ∧ TabsX h mg ds cs' := by
  cases t with
  | cons a b => exact ⟨_, _, rfl, a, b⟩
theorem TabsX.mem {h : Heap} {mg : Str → Option Value} : ∀ {ds : List Str} {cs : List (Addr × Addr)}, TabsX h mg ds cs → ∀ p ∈ cs, ∃ x, TabX h mg x p
  | _, _, .nil, _, hp => by cases hp
  | _, _, .cons a b, p, hp => by
    rcases List.mem_cons.mp hp with rfl | hp
    · exact ⟨_, a⟩
    · exact TabsX.mem b p hp
theorem Got.tx {K : PySem.W.Frag} {mg : Str → Option Value} {x : Str} {st : Stmt} {h base : Heap} {tb : List Addr} {p : Addr × Addr} (X : K.In h) (g : Got K mg x st) (t : TabX h mg x p) (TB : GxR.TabB base mg p.1 p.2) (hp : p.2 ∈ tb) : GotT K mg base tb true x st := by
  obtain ⟨f, fd, F, hm⟩ := g
  refine ⟨f, fd, F, hm, fun _ => ⟨p.1, p.2, ?_, TB, hp⟩⟩
  obtain ⟨oc, od, kV, doc, pm, an, cdv, ct, osl, rfl, lk, hcd⟩ := F.ex
  obtain ⟨f', o, fd', e1, e2, e3, e4, _⟩ := t
  rw [hm] at e1
  cases e1
  have := X _ _ lk
  rw [this] at e2
  cases e2
  cases e3
  exact e4
/-- the law at its script -/
theorem sp_lawT {K : PySem.W.Frag} {sp : List D → Option D} {H : Hp} {a : Addr} {ns : List Int} {o : Obj} {tb : List Addr} (ha : H a = some (.frz o (.lst (ns.map V.int)))) (ht : ∀ P ∈ tb, H P = some (.tbl #[])) (h : sp [.list (ns.map .int)] = some (.bool true)) : SpP K tb 1 sp [.ref a] H (fun v _ => v = .bl true) E0 := by
  obtain ⟨F, hF⟩ : ∃ F : Hp, F = fun b => if b = a then H a else none := ⟨_, rfl⟩
  have hFa : F a = H a := by rw [hF]; exact if_pos rfl
  have hFn : ∀ b, b ≠ a → F b = none := fun b e => by rw [hF]; exact if_neg e
  have hin : ∀ ns : List Int, RpAll K F (ns.map V.int) (ns.map .int) := fun ns => by
    induction ns with
    | nil => exact .nil
    | cons n ns ih => exact .cons (.int n) ih
  have hne : ∀ P ∈ tb, P ≠ a := fun P hP z => by
    have := ht P hP
    rw [z, ha] at this
    cases this
  refine ⟨rfl, fun _ => none, F, [.list (ns.map .int)], .bool true, ⟨fun p o e => ?_, (fun p o e => by cases e), (fun P hP => ⟨⟨#[], ht P hP, trivial⟩, hFn P (hne P hP), rfl⟩)⟩, .cons (.lst (.inr ⟨o, by rw [hFa]; exact ha⟩) (hin ns)) .nil, h, fun v F' H' s' w' rv => ?_⟩
  · by_cases z : p = a
    · subst z; rw [hFa] at e; exact e
    · rw [hFn p z] at e; cases e
  · cases rv
    rfl
theorem walkGT {l : PySem.W.OpenLaw} {n k : Nat} {q : Program} {loose : List Str} {XP : (Str → Option Value) → Heap → Prop} {YP : World → Heap → Prop} {d : DefRec} {K : Params → PySem.W.Frag} {f : List D → Option D} {x : Str} (ds : List Str)
    (hds : (ds.all fun x => (recsOf q).any fun d => d.name == x) = true)
    (hn : l.most = some n) (hn2 : n ≤ sizeLine) (hdf : d.params.defaults = []) (hr : Room k callerA)
    (hY : ∀ (w : World) (h : Heap), YP w h → (K w.params).In h)
    (F : ∀ (w : World) (mg : Str → Option Value) (fa : Addr) (h : Heap), (K w.params).In h → h.Ns mainGlobals mg → mg d.name = some (.ref fa) → ∀ (K' : PySem.W.Frag) (cs : List (Addr × Addr)), TabsX h mg ds cs → K'.In h → (∀ x st, Got (K w.params) mg x st → Got K' mg x st) → (∀ x l, ConT (K w.params) mg x l → ConT K' mg x l) →
      ∃ fd : FuncData, (∀ (s : Shared) (u : Value), BindsTo s fd ⟨[u], []⟩ [(x, u)]) ∧
        ∀ base : Heap, (∀ p ∈ cs, GxR.TabB base mg p.1 p.2) → FnG l.prog w K' mg base k fa fd [x] (SpP K' (cs.map (·.2)) 1 f))
    (hf : ∀ ns : List Int, ns.length ≤ n → (∀ k ∈ ns, Builtin.Int.intBits k ≤ 1048576) → f [.list (ns.map .int)] = some (.bool true)) :
    PySem.W.WalkO q loose XP YP l.row.toRowW d [] (fun f vs => PySem.call f vs) := by
  refine Att.attach_callB hn hdf fun w s₀ s₁ mg mb fa o pm cd doc a vs ns G Y ho hd hcd hmg hobj hints hlen hbits hg => ?_
  have KX := hY w _ Y
  have tabs : ∀ ds : List Str, (ds.all fun x => (recsOf q).any fun d => d.name == x) = true → ∃ cs, TabsX s₁.heap mg ds cs := by
    intro ds
    induction ds with
    | nil => exact fun _ => ⟨[], .nil⟩
    | cons x ds ih =>
      intro h
      rw [List.all_cons, Bool.and_eq_true] at h
      obtain ⟨cs, hcs⟩ := ih h.2
      obtain ⟨d', hm, hn'⟩ := List.any_eq_true.mp h.1
      have hn' : d'.name = x := beq_iff_eq.mp hn'
      obtain ⟨f', o', fd', c, P, h1, h2, h3, h4, h5, h6⟩ := G.T.tab d' hm
      rw [hn'] at h1
      exact ⟨(c, P) :: cs, .cons ⟨f', o', fd', h1, h2, h3, h4, PySem.W.CodeHd.of h5 h6, h6.2⟩ hcs⟩
  obtain ⟨cs, hcs⟩ := tabs ds hds
  have bad : ∀ b ∈ a :: cs.map (·.2), ∃ o, s₁.heap.get? b = some o ∧ (∀ fd, o.data ≠ .func fd) ∧ ∀ vs, o.data = .fields vs → vs.toList = [] := fun b hb => by
    rcases List.mem_cons.mp hb with rfl | hb
    · exact ⟨_, hobj, (fun fd z => by cases z), (fun vs z => by cases z)⟩
    · obtain ⟨p, hp, rfl⟩ := List.mem_map.mp hb
      obtain ⟨y, _, _, _, _, _, _, _, _, e⟩ := hcs.mem p hp
      exact ⟨_, e, (fun fd z => by cases z), (fun vs z => by cases z; rfl)⟩
  have bad2 : ∀ b ∈ a :: cs.map (·.2), ∃ o, s₁.heap.get? b = some o ∧ ∀ its m, o.cls = .type "tuple" → o.data ≠ .seq its m := fun b hb => by
    rcases List.mem_cons.mp hb with rfl | hb
    · exact ⟨_, hobj, fun its m z => absurd (show Value.type "list" = Value.type "tuple" from z) (by decide)⟩
    · obtain ⟨p, hp, rfl⟩ := List.mem_map.mp hb
      obtain ⟨y, _, _, _, _, _, _, _, _, e⟩ := hcs.mem p hp
      exact ⟨_, e, fun its m z => by cases z⟩
  obtain ⟨fd, hb, hF⟩ := F w mg fa _ KX G.T.g hmg (dropL (a :: cs.map (·.2)) (K w.params)) cs hcs (dropL_in KX _) (fun x st g => got_dropL KX g _ bad) (fun x l c => con_dropL KX c _ bad2)
  refine lawGT (cs := cs) (dropL_in KX _) G.T.g G.T.b G.T.builtins G.T.nolimit hg (fun p hp => ?_) (fun p hp => dropL_none (List.mem_cons_of_mem _ (List.mem_map.mpr ⟨p, hp, rfl⟩))) (fun p hp => ?_) G.T.bmain hobj hints (Nat.le_trans hlen hn2) hr (fun base _ _ hTB => hF base hTB) hb (dropL_none List.mem_cons_self) fun H o h1 h2 => sp_lawT h1 (fun P hP => ?_) (hf ns hlen hbits)
  · obtain ⟨y, _, _, _, _, _, _, _, _, e⟩ := hcs.mem p hp
    exact e
  · obtain ⟨y, _, _, _, _, _, _, _, e, _⟩ := hcs.mem p hp
    exact e
  · obtain ⟨p, hp, rfl⟩ := List.mem_map.mp hP
    exact h2 p hp
end Ev

set_option maxHeartbeats 1000000
namespace Ev
open PySem L2
/-! ### tools for values -/
theorem evComp_inv {f : D → En → Option (Option D × En)} {P : En → Prop} {g : D → Option D} : ∀ {xs acc : List D} {ρ : En}, (∀ x ∈ xs, ∀ ρ, P ρ → ∃ ρ', f x ρ = some (g x, ρ') ∧ P ρ') → P ρ → ∃ ρ', evComp f xs acc ρ = some (acc ++ xs.filterMap g, ρ') ∧ P ρ'
  | [], acc, ρ, _, h => ⟨ρ, by simp [evComp], h⟩
  | x :: xs, acc, ρ, hf, h => by
    obtain ⟨ρ1, e1, h1⟩ := hf x List.mem_cons_self ρ h
    cases hg : g x with
    | none =>
      obtain ⟨ρ2, e2, h2⟩ := evComp_inv (xs := xs) (acc := acc) (fun y hy => hf y (List.mem_cons_of_mem _ hy)) h1
      exact ⟨ρ2, by simp only [evComp, e1, hg, e2, List.filterMap_cons], h2⟩
    | some d =>
      obtain ⟨ρ2, e2, h2⟩ := evComp_inv (xs := xs) (acc := acc ++ [d]) (fun y hy => hf y (List.mem_cons_of_mem _ hy)) h1
      exact ⟨ρ2, by simp only [evComp, e1, hg, e2, List.filterMap_cons, List.append_assoc, List.singleton_append], h2⟩
/-- a loop as a fold of a state; R: what the other slots may be -/
theorem evFor_fold {S : Type} {f : D → En → Option Oc} {R : S → En → Prop} {step : S → D → S} : ∀ {xs : List D} {s : S} {ρ : En}, (∀ x ∈ xs, ∀ s ρ, R s ρ → ∃ ρ', f x ρ = some (.nx ρ') ∧ R (step s x) ρ') → R s ρ → ∃ ρ', evFor f xs ρ = some (.nx ρ') ∧ R (xs.foldl step s) ρ'
  | [], s, ρ, _, h => ⟨ρ, rfl, h⟩
  | x :: xs, s, ρ, hf, h => by
    obtain ⟨ρ1, e1, h1⟩ := hf x List.mem_cons_self s ρ h
    obtain ⟨ρ2, e2, h2⟩ := evFor_fold (xs := xs) (fun y hy => hf y (List.mem_cons_of_mem _ hy)) h1
    exact ⟨ρ2, by simp only [evFor, e1, e2], h2⟩
/-- a while loop by a measure -/
theorem evWhl_inv {c : En → Option (Bool × En)} {b : En → Option Oc} {P Q : En → Prop} (μ : En → Nat) (h : ∀ ρ, P ρ → (∃ ρ', c ρ = some (false, ρ') ∧ Q ρ') ∨ ∃ ρ1 ρ2, c ρ = some (true, ρ1) ∧ b ρ1 = some (.nx ρ2) ∧ P ρ2 ∧ μ ρ2 < μ ρ) : ∀ (n : Nat) (ρ : En), P ρ → μ ρ < n → ∃ ρ', evWhl c b n ρ = some (.nx ρ') ∧ Q ρ'
  | 0, ρ, _, hn => absurd hn (Nat.not_lt_zero _)
  | n + 1, ρ, hp, hn => by
    rcases h ρ hp with ⟨ρ', e, q⟩ | ⟨ρ1, ρ2, e1, e2, p2, hm⟩
    · exact ⟨ρ', by simp only [evWhl, e], q⟩
    · obtain ⟨ρ', e3, q⟩ := evWhl_inv μ h n ρ2 p2 (by omega)
      exact ⟨ρ', by simp only [evWhl, e1, e2, e3], q⟩
theorem mulOk_r {i j : Int} (h : -(2 ^ 64) < j) (h2 : j < 2 ^ 64) : mulOk i j = true := by
  unfold mulOk; simp only [Bool.or_eq_true, decide_eq_true_eq]; exact .inr (.inl ⟨h, h2⟩)
theorem mulOk_l {i j : Int} (h : -(2 ^ 64) < i) (h2 : i < 2 ^ 64) : mulOk i j = true := by
  unfold mulOk; simp only [Bool.or_eq_true, decide_eq_true_eq]; exact .inl ⟨h, h2⟩
theorem shaped_int (i : Int) : SeqAt.shaped (.int i) = true := by first | rfl | simp [SeqAt.shaped, PyData.canLay0, PyData.depth]
theorem cmp_eq (i j : Int) : cmpD .Eq (.int i) (.int j) = some (decide (i = j)) := by
  unfold cmpD; simp only [shaped_int, Bool.and_self, if_true]; congr 1
theorem cmp_ne (i j : Int) : cmpD .NotEq (.int i) (.int j) = some (!decide (i = j)) := by
  unfold cmpD; simp only [shaped_int, Bool.and_self, if_true]; congr 2
end Ev

set_option maxHeartbeats 1000000
namespace Ev
open PySem L2
/-- a number's size -/
def Bd (n : Nat) (i : Int) : Prop := i.natAbs < 2 ^ n
theorem Bd.mono {m n : Nat} {i : Int} (h : Bd m i) (hn : m ≤ n) : Bd n i := Nat.lt_of_lt_of_le h (Nat.pow_le_pow_right (by decide) hn)
theorem Bd.mul {m n : Nat} {i j : Int} (h : Bd m i) (h2 : Bd n j) : Bd (m + n) (i * j) := by
  unfold Bd at *
  rw [Int.natAbs_mul, Nat.pow_add]
  exact Nat.mul_lt_mul'' h h2
theorem Bd.add {n : Nat} {i j : Int} (h : Bd n i) (h2 : Bd n j) : Bd (n + 1) (i + j) := by
  unfold Bd at *
  have := Int.natAbs_add_le i j
  rw [Nat.pow_succ]; omega
theorem Bd.sub {n : Nat} {i j : Int} (h : Bd n i) (h2 : Bd n j) : Bd (n + 1) (i - j) := by
  unfold Bd at *
  rw [Nat.pow_succ]; omega
theorem Bd.neg {n : Nat} {i : Int} (h : Bd n i) : Bd n (-i) := by
  unfold Bd at *; omega
theorem Bd.mulOk {m n : Nat} {i j : Int} (h : Bd m i) (h2 : Bd n j) (hmn : m + n < 1000000) : mulOk i j = true := by
  unfold Ev.mulOk
  simp only [Bool.or_eq_true, decide_eq_true_eq]
  refine .inr (.inr ?_)
  have l : ∀ {k : Nat} {x : Int}, Bd k x → x.natAbs.log2 ≤ k := fun {k x} hk => by
    unfold Bd at hk
    by_cases z : x.natAbs = 0
    · rw [z]; simp
    · exact Nat.le_of_lt ((Nat.log2_lt z).mpr hk)
  have := l h
  have := l h2
  omega
/-! ### what may be shown -/
theorem int_short {n : Nat} {i : Int} (h : Bd n i) (hn : n ≤ 1600) : i.natAbs < 10 ^ 500 ∧ i.natAbs.log2 < 1920 := by
  have h1 : i.natAbs < 2 ^ 1600 := h.mono hn
  constructor
  · exact Nat.lt_of_lt_of_le h1 (by decide +kernel)
  · by_cases z : i.natAbs = 0
    · rw [z]; decide
    · exact (Nat.log2_lt z).mpr (Nat.lt_of_lt_of_le h1 (Nat.pow_le_pow_right (by decide) (by decide)))
theorem int_shown {i : Int} (h : i.natAbs < 10 ^ 500) : (PyData.shown (.int i)).length ≤ 501 := by
  have e := int_text_length_le10 (k := 500) (by decide) h
  show (Str.ofString (toString i)).length ≤ 501
  rw [ofString_length]; exact e
/-- shown without harm -/
structure Tame (d : D) : Prop where
  sh : d.showable = true
  nd : d.hasDict = false
  lv : d.leavesShort 501 = true
  dp : d.depth ≤ 3
  wt : d.weight ≤ 5000
theorem reprOk_of {d : D} (h1 : d.showable = true) (h2 : d.hasDict = false) (h3 : d.leavesShort 501 = true) (hd : d.depth ≤ 20) (hw : d.weight ≤ 20000) : reprOk d = true := by
  have := PyData.shown_le 501 (by decide) d h3
  have hs : d.shown.length + 64 ≤ sizeLine := by
    have e : sizeLine = 16777216 := by decide
    rw [e]
    have : (501 + 2) * d.weight ≤ (501 + 2) * 20000 := Nat.mul_le_mul_left _ hw
    omega
  unfold reprOk
  simp [h1, h2, hd, hs]
theorem tame_int {n : Nat} {i : Int} (h : Bd n i) (hn : n ≤ 1600) : Tame (.int i) := by
  obtain ⟨h1, h2⟩ := int_short h hn
  refine ⟨by simp [PyData.showable, h2], by simp [PyData.hasDict], by simp [PyData.leavesShort, int_shown h1], by simp [PyData.depth], ?_⟩
  simp only [PyData.weight]
  split <;> omega
theorem tame_int_wt {n : Nat} {i : Int} (h : Bd n i) (hn : n ≤ 1600) : (PyData.int i).weight ≤ 1920 := by
  obtain ⟨h1, h2⟩ := int_short h hn
  simp only [PyData.weight]
  split <;> omega
theorem tame_int_dp (i : Int) : (PyData.int i).depth = 0 := by simp [PyData.depth]
theorem Tame.repr {d : D} (h : Tame d) : reprOk d = true := reprOk_of h.sh h.nd h.lv (by have := h.dp; omega) (by have := h.wt; omega)
theorem Tame.repr2 {a b : D} (ha : Tame a) (hb : Tame b) : reprOk (.list [a, b]) = true := by
  refine reprOk_of ?_ ?_ ?_ ?_ ?_
  · show PyData.showableAll [_, _] = true
    simp only [PyData.showableAll, ha.sh, hb.sh, Bool.and_self]
  · show PyData.hasDictAll [_, _] = false
    simp only [PyData.hasDictAll, ha.nd, hb.nd, Bool.or_self]
  · show PyData.leavesShortAll 501 [_, _] = true
    simp only [PyData.leavesShortAll, ha.lv, hb.lv, Bool.and_self]
  · show PyData.depthAll [_, _] + 1 ≤ 20
    simp only [PyData.depthAll]
    have := ha.dp; have := hb.dp; omega
  · show PyData.weightAll [_, _] ≤ 20000
    simp only [PyData.weightAll]
    have := ha.wt; have := hb.wt; omega
theorem Tame.repr3 {a b c : D} (ha : Tame a) (hb : Tame b) (hc : Tame c) : reprOk (.list [a, b, c]) = true := by
  refine reprOk_of ?_ ?_ ?_ ?_ ?_
  · show PyData.showableAll [_, _, _] = true
    simp only [PyData.showableAll, ha.sh, hb.sh, hc.sh, Bool.and_self]
  · show PyData.hasDictAll [_, _, _] = false
    simp only [PyData.hasDictAll, ha.nd, hb.nd, hc.nd, Bool.or_self]
  · show PyData.leavesShortAll 501 [_, _, _] = true
    simp only [PyData.leavesShortAll, ha.lv, hb.lv, hc.lv, Bool.and_self]
  · show PyData.depthAll [_, _, _] + 1 ≤ 20
    simp only [PyData.depthAll]
    have := ha.dp; have := hb.dp; have := hc.dp; omega
  · show PyData.weightAll [_, _, _] ≤ 20000
    simp only [PyData.weightAll]
    have := ha.wt; have := hb.wt; have := hc.wt; omega
theorem eqv_str (x : Str) : PyData.eqv (.str x) (.str x) = true := by simp [PyData.eqv]
/-! ### texts that may be compared -/
def TxO (x : Str) : Prop := ∀ c ∈ x.cps.toList, c < 0x110000
theorem so_of (s : String) : TxO (Str.ofString s) := by
  intro c hc
  rw [Str.ofString_eq_toList] at hc
  simp only [List.mem_map] at hc
  obtain ⟨ch, _, rfl⟩ := hc
  have := ch.valid
  have h : ch.toNat.isValidChar := this
  unfold Nat.isValidChar at h
  omega
theorem so_app {a b : Str} (h : TxO a) (h2 : TxO b) : TxO (a ++ b) := by
  intro c hc
  have e : (a ++ b).cps.toList = a.cps.toList ++ b.cps.toList := by
    show (a.cps ++ b.cps).toList = _
    simp
  rw [e] at hc
  rcases List.mem_append.mp hc with z | z
  · exact h c z
  · exact h2 c z
theorem so_textFrom : ∀ (ts : List Str) (k : Nat) (acc : Str), TxO acc → (∀ t ∈ ts, TxO t) → TxO (textFrom k acc ts)
  | [], k, acc, h, _ => h
  | t :: ts, k, acc, h, ht => by
    refine so_textFrom ts (k + 1) _ (so_app (so_app h ?_) (ht t List.mem_cons_self)) fun u hu => ht u (List.mem_cons_of_mem _ hu)
    split <;> exact so_of _
theorem so_list {ts : List Str} (ht : ∀ t ∈ ts, TxO t) : TxO (listText ts) := so_app (so_textFrom ts 0 _ (so_of "[") ht) (so_of "]")
theorem so_join : ∀ {ts : List Str}, (∀ t ∈ ts, TxO t) → TxO (Str.join ", " ts)
  | [], _ => fun c hc => by cases hc
  | [x], h => h x List.mem_cons_self
  | x :: y :: r, h => so_app (so_app (h x List.mem_cons_self) (so_of ", ")) (so_join fun u hu => h u (List.mem_cons_of_mem _ hu))
theorem so_tuple {ts : List Str} (ht : ∀ t ∈ ts, TxO t) : TxO (tupleText ts) := by
  refine so_app (so_app (so_of "(") (so_join ht)) ?_
  split <;> exact so_of _
theorem so_int (i : Int) : TxO (PyData.shown (.int i)) := so_of (toString i)
theorem so_L2 {a b : D} (h : TxO a.shown) (h2 : TxO b.shown) : TxO (PyData.list [a, b]).shown := by
  refine so_list (ts := [_, _]) fun t ht => ?_
  simp only [PyData.shownAll, List.mem_cons, List.not_mem_nil, or_false] at ht
  rcases ht with rfl | rfl <;> assumption
theorem so_L3 {a b c : D} (h : TxO a.shown) (h2 : TxO b.shown) (h3 : TxO c.shown) : TxO (PyData.list [a, b, c]).shown := by
  refine so_list (ts := [_, _, _]) fun t ht => ?_
  simp only [PyData.shownAll, List.mem_cons, List.not_mem_nil, or_false] at ht
  rcases ht with rfl | rfl | rfl <;> assumption
theorem shaped_so {x : Str} (h : TxO x) : SeqAt.shaped (.str x) = true := by
  have h1 : (PyData.str x).canLay0 = true := by
    show x.cps.all (· < 0x110000) = true
    rw [Array.all_eq_true_iff_forall_mem]
    intro c hc
    exact decide_eq_true (h c (Array.mem_toList_iff.mpr hc))
  simp [SeqAt.shaped, h1, PyData.depth]
theorem ne_same {x : Str} (h : TxO x) : cmpD .NotEq (.str x) (.str x) = some false := by
  unfold cmpD; simp [shaped_so h, eqv_str]
theorem eq_same {x : Str} (h : TxO x) : cmpD .Eq (.str x) (.str x) = some true := by
  unfold cmpD; simp [shaped_so h, eqv_str]
theorem evFor_inv {f : D → En → Option Oc} {Q : En → Prop} : ∀ {xs : List D} {ρ : En}, (∀ x ∈ xs, ∀ ρ, Q ρ → ∃ ρ', f x ρ = some (.nx ρ') ∧ Q ρ') → Q ρ → ∃ ρ', evFor f xs ρ = some (.nx ρ') ∧ Q ρ'
  | [], ρ, _, h => ⟨ρ, rfl, h⟩
  | x :: xs, ρ, hf, h => by
    obtain ⟨ρ1, e1, h1⟩ := hf x List.mem_cons_self ρ h
    obtain ⟨ρ2, e2, h2⟩ := evFor_inv (xs := xs) (fun y hy => hf y (List.mem_cons_of_mem _ hy)) h1
    exact ⟨ρ2, by simp only [evFor, e1, e2], h2⟩
theorem lenOk1 : lenOk 1 = true := by decide +kernel
theorem lenOk2 : lenOk 2 = true := by decide +kernel
theorem lenOk3 : lenOk 3 = true := by decide +kernel

/-! ### whole numbers in a row -/
theorem intsD_map : ∀ l : List Int, intsD (l.map .int) = some l
  | [] => rfl
  | i :: l => by simp [intsD, intsD_map l]
theorem boolsD_tr : ∀ l : List D, boolsD (l.map fun _ => PyData.bool true) = some (l.map fun _ => true)
  | [] => rfl
  | i :: l => by simp [boolsD, boolsD_tr l]
theorem Bd.wt {n : Nat} {i : Int} (h : Bd n i) : (PyData.int i).weight ≤ n := by
  simp only [PyData.weight]
  split
  · omega
  · rename_i z
    have z' : i.natAbs ≠ 0 := fun e => z (by simp at e; simp [e])
    exact (Nat.log2_lt z').mpr h
theorem tame_all {n : Nat} (hn : n ≤ 1600) : ∀ {l : List Int}, (∀ x ∈ l, Bd n x) → PyData.showableAll (l.map .int) = true ∧ PyData.hasDictAll (l.map .int) = false ∧ PyData.leavesShortAll 501 (l.map .int) = true ∧ PyData.depthAll (l.map .int) = 0 ∧ PyData.weightAll (l.map .int) ≤ l.length * (n + 1)
  | [], _ => by simp [PyData.showableAll, PyData.hasDictAll, PyData.leavesShortAll, PyData.depthAll, PyData.weightAll]
  | i :: l, h => by
    have hi := h i List.mem_cons_self
    obtain ⟨a1, a2, a3, a4, a5⟩ := tame_int hi hn
    obtain ⟨b1, b2, b3, b4, b5⟩ := tame_all hn (l := l) fun x hx => h x (List.mem_cons_of_mem _ hx)
    have w := hi.wt
    refine ⟨?_, ?_, ?_, ?_, ?_⟩
    · simp only [List.map_cons, PyData.showableAll, a1, b1, Bool.and_self]
    · simp only [List.map_cons, PyData.hasDictAll, a2, b2, Bool.or_self]
    · simp only [List.map_cons, PyData.leavesShortAll, a3, b3, Bool.and_self]
    · simp only [List.map_cons, PyData.depthAll, tame_int_dp, b4]; decide
    · simp only [List.map_cons, PyData.weightAll, List.length_cons, Nat.succ_mul]; omega
theorem tame_tup {n : Nat} {l : List Int} (hn : n ≤ 1600) (h : ∀ x ∈ l, Bd n x) (hw : l.length * (n + 1) ≤ 5000) : Tame (.tuple (l.map .int)) := by
  obtain ⟨b1, b2, b3, b4, b5⟩ := tame_all hn h
  exact ⟨b1, b2, b3, by show PyData.depthAll _ + 1 ≤ 3; omega, by show PyData.weightAll _ ≤ 5000; omega⟩
theorem tame_lst {n : Nat} {l : List Int} (hn : n ≤ 1600) (h : ∀ x ∈ l, Bd n x) (hw : l.length * (n + 1) ≤ 5000) : Tame (.list (l.map .int)) := by
  obtain ⟨b1, b2, b3, b4, b5⟩ := tame_all hn h
  exact ⟨b1, b2, b3, by show PyData.depthAll _ + 1 ≤ 3; omega, by show PyData.weightAll _ ≤ 5000; omega⟩
theorem so_all (l : List Int) : ∀ t ∈ PyData.shownAll (l.map .int), TxO t := by
  induction l with
  | nil => intro t ht; simp [PyData.shownAll] at ht
  | cons i l ih =>
    intro t ht
    simp only [List.map_cons, PyData.shownAll, List.mem_cons] at ht
    rcases ht with rfl | ht
    · exact so_int _
    · exact ih t ht
theorem so_tup (l : List Int) : TxO (PyData.tuple (l.map .int)).shown := so_tuple (so_all l)
theorem so_lst (l : List Int) : TxO (PyData.list (l.map .int)).shown := so_list (so_all l)

def I0 (l : List Int) : List D := l.map .int
/-! ### blocks of one name -/
theorem back1 {ρ1 : En} {i : Nat} {s : Sl} (hu : ρ1[i]? = some .u) : backE ρ1 (ρ1.set i s) [i] = ρ1 := by
  simp only [backE, hu, List.set_set]
  apply List.ext_getElem?
  intro j
  by_cases e : j = i
  · subst e
    have hl : j < ρ1.length := by
      rcases Nat.lt_or_ge j ρ1.length with h | h
      · exact h
      · rw [List.getElem?_eq_none h] at hu; cases hu
    rw [List.getElem?_set_self hl, hu]
  · rw [List.getElem?_set_ne (Ne.symm e)]
theorem lc1 {T : Tb} {ρ ρ1 : En} {it : IT} {c : IC} {e : IE} {i : Nat} {nm : Str} {xs : List D} (g : D → Option D) (hit : evIt T ρ it = some (xs, ρ1)) (hu : ρ1[i]? = some .u)
    (hb : ∀ x ∈ xs, ((evIf T (ρ1.set i (.v x)) c).bind fun q => if q.1 then (evE T q.2 e).bind fun r => (keepOp r.2 r.1).map fun k => (some k.1, k.2) else some (none, q.2)) = some (g x, ρ1.set i (.v x)))
    (hl : lenOk (xs.filterMap g).length = true) : evE T ρ (.lc e (.nm i) [(nm, i)] it c) = some (.new (xs.filterMap g), ρ1) := by
  have hi : i < ρ1.length := by
    rcases Nat.lt_or_ge i ρ1.length with h | h
    · exact h
    · rw [List.getElem?_eq_none h] at hu; cases hu
  obtain ⟨ρ', e1, s, rfl⟩ := evComp_inv (f := fun x ρ1 => (bindT (wipeE ρ1 ([(nm, i)].map (·.2))) (.nm i) x).bind fun ρ2 =>
      (evIf T ρ2 c).bind fun q => if q.1 then (evE T q.2 e).bind fun r => (keepOp r.2 r.1).map fun k => (some k.1, k.2) else some (none, q.2))
      (P := fun ρ => ∃ s, ρ = ρ1.set i s) (g := g) (xs := xs) (acc := []) (ρ := ρ1) (fun x hx ρ ⟨s, hs⟩ => ⟨ρ1.set i (.v x), by
        subst hs
        simp only [List.map_cons, List.map_nil, wipeE, List.set_set, bindT, setE, List.length_set, decide_eq_true hi, if_true, Option.bind_some]
        exact hb x hx, _, rfl⟩) ⟨.u, by
          apply List.ext_getElem?
          intro j
          by_cases e : j = i
          · subst e; rw [List.getElem?_set_self hi, hu]
          · rw [List.getElem?_set_ne (Ne.symm e)]⟩
  simp only [evE, hit, Option.bind_some]
  rw [e1]
  simp only [Option.bind_some, List.nil_append, hl, if_true]
  rw [show (List.map (·.2) [(nm, i)] : List Nat) = [i] from rfl, back1 hu]
theorem evGen_inv {st : D → Bool} {f : D → En → Option (Option D × En)} {P : En → Prop} {g : D → Option D} : ∀ {xs acc : List D} {ρ : En}, (∀ x ∈ xs, ∀ ρ, P ρ → ∃ ρ', f x ρ = some (g x, ρ') ∧ P ρ') → (∀ x ∈ xs, ∀ d, g x = some d → st d = false) → P ρ → ∃ ρ', evGen st f xs acc ρ = some (acc ++ xs.filterMap g, ρ') ∧ P ρ'
  | [], acc, ρ, _, _, h => ⟨ρ, by simp [evGen], h⟩
  | x :: xs, acc, ρ, hf, hs, h => by
    obtain ⟨ρ1, e1, h1⟩ := hf x List.mem_cons_self ρ h
    cases hg : g x with
    | none =>
      obtain ⟨ρ2, e2, h2⟩ := evGen_inv (xs := xs) (acc := acc) (fun y hy => hf y (List.mem_cons_of_mem _ hy)) (fun y hy => hs y (List.mem_cons_of_mem _ hy)) h1
      exact ⟨ρ2, by simp only [evGen, e1, hg, e2, List.filterMap_cons], h2⟩
    | some d =>
      obtain ⟨ρ2, e2, h2⟩ := evGen_inv (xs := xs) (acc := acc ++ [d]) (fun y hy => hf y (List.mem_cons_of_mem _ hy)) (fun y hy => hs y (List.mem_cons_of_mem _ hy)) h1
      exact ⟨ρ2, by simp only [evGen, e1, hg, e2, hs x List.mem_cons_self d hg, Bool.false_eq_true, if_false, List.filterMap_cons, List.append_assoc, List.singleton_append], h2⟩
theorem gn1 {T : Tb} {ρ ρ1 : En} {it : IT} {c : IC} {e : IE} {i : Nat} {nm : Str} {f : String} {xs : List D} {d : D} (g : D → Option D) (hit : evIt T ρ it = some (xs, ρ1)) (hu : ρ1[i]? = some .u)
    (hb : ∀ x ∈ xs, ((evIf T (ρ1.set i (.v x)) c).bind fun q => if q.1 then (evE T q.2 e).bind fun r => (keepOp r.2 r.1).map fun k => (some k.1, k.2) else some (none, q.2)) = some (g x, ρ1.set i (.v x)))
    (hs : ∀ x ∈ xs, ∀ d, g x = some d → gnSt f d = false) (hd : gnD f (xs.filterMap g) = some d) : evE T ρ (.gn f e (.nm i) [(nm, i)] it c) = some (.val d, ρ1) := by
  have hi : i < ρ1.length := by
    rcases Nat.lt_or_ge i ρ1.length with h | h
    · exact h
    · rw [List.getElem?_eq_none h] at hu; cases hu
  obtain ⟨ρ', e1, s, rfl⟩ := evGen_inv (st := gnSt f) (f := fun x ρ1 => (bindT (wipeE ρ1 ([(nm, i)].map (·.2))) (.nm i) x).bind fun ρ2 =>
      (evIf T ρ2 c).bind fun q => if q.1 then (evE T q.2 e).bind fun r => (keepOp r.2 r.1).map fun k => (some k.1, k.2) else some (none, q.2))
      (P := fun ρ => ∃ s, ρ = ρ1.set i s) (g := g) (xs := xs) (acc := []) (ρ := ρ1) (fun x hx ρ ⟨s, hs⟩ => ⟨ρ1.set i (.v x), by
        subst hs
        simp only [List.map_cons, List.map_nil, wipeE, List.set_set, bindT, setE, List.length_set, decide_eq_true hi, if_true, Option.bind_some]
        exact hb x hx, _, rfl⟩) hs ⟨.u, by
          apply List.ext_getElem?
          intro j
          by_cases e : j = i
          · subst e; rw [List.getElem?_set_self hi, hu]
          · rw [List.getElem?_set_ne (Ne.symm e)]⟩
  simp only [evE, hit, Option.bind_some]
  rw [e1]
  simp only [Option.bind_some, List.nil_append, hd, Option.map_some]
  rw [show (List.map (·.2) [(nm, i)] : List Nat) = [i] from rfl, back1 hu]
theorem filterMap_ints (g : Int → Int) : ∀ l : List Int, (l.map PyData.int).filterMap (fun x => match x with | .int i => some (.int (g i)) | _ => none) = (l.map g).map PyData.int
  | [] => rfl
  | i :: l => by
    have := filterMap_ints g l
    simp only [List.map_cons, List.filterMap_cons, this]
theorem filterMap_keep (p : Int → Bool) : ∀ l : List Int, (l.map PyData.int).filterMap (fun x => match x with | .int i => if p i then some (.int i) else none | _ => none) = (l.filter p).map PyData.int
  | [] => rfl
  | i :: l => by
    have := filterMap_keep p l
    simp only [List.map_cons, List.filterMap_cons, List.filter_cons]
    cases h : p i <;> simp [this]
/-- a loop, turn by turn -/
theorem evFor_count {f : D → En → Option Oc} {Q : Nat → En → Prop} : ∀ {xs : List D} {n : Nat} {ρ : En}, (∀ x ∈ xs, ∀ k ρ, Q k ρ → ∃ ρ', f x ρ = some (.nx ρ') ∧ Q (k + 1) ρ') → Q n ρ → ∃ ρ', evFor f xs ρ = some (.nx ρ') ∧ Q (n + xs.length) ρ'
  | [], n, ρ, _, h => ⟨ρ, rfl, h⟩
  | x :: xs, n, ρ, hf, h => by
    obtain ⟨ρ1, e1, h1⟩ := hf x List.mem_cons_self n ρ h
    obtain ⟨ρ2, e2, h2⟩ := evFor_count (xs := xs) (fun y hy => hf y (List.mem_cons_of_mem _ hy)) h1
    exact ⟨ρ2, by simp only [evFor, e1, e2], by rw [List.length_cons, Nat.add_comm xs.length 1, ← Nat.add_assoc]; exact h2⟩
theorem ixN_nn {n : Nat} {i : Int} (h0 : 0 ≤ i) (h1 : i < n) : ixN n i = some i.toNat := by unfold ixN; rw [if_pos h0, if_pos h1]
theorem sum_set (x : Int) : ∀ (l : List Int) (i : Nat) (y : Int), l[i]? = some y → (l.set i x).sum = l.sum - y + x
  | [], i, y, h => by simp at h
  | a :: l, 0, y, h => by simp at h; subst h; simp; omega
  | a :: l, i + 1, y, h => by
    have := sum_set x l i y (by simpa using h)
    simp [this]; omega
theorem lenOk_le {n : Nat} (h : n ≤ 16777216) : lenOk n = true := by
  unfold lenOk; rw [decide_eq_true_eq]
  have e : sizeLine = 16777216 := by decide
  rw [e]; exact h
theorem bin_rep {xs : List D} {k : Nat} (hk : k < 9223372036854775808) (h : lenOk (xs.length * k) = true) : binD .Mult (.list xs) (.int k) = some (.new (List.replicate k xs).flatten) := by
  have h1 : (decide (-(2 ^ 63) ≤ (k : Int) ∧ (k : Int) < 2 ^ 63)) = true := by
    rw [decide_eq_true_eq]; omega
  unfold binD
  simp only [h1, Int.toNat_natCast, h, Bool.and_self, if_true]
theorem rep_b0 {k : Nat} (hk2 : k ≤ 60) : k < 9223372036854775808 := by omega
theorem rep_b1 {k : Nat} (hk2 : k ≤ 60) : [PyData.int 0].length * k ≤ 16777216 := by simp; omega
theorem rep_b2 {k : Nat} (hk2 : k ≤ 60) : lenOk ([PyData.int 0].length * k) = true := lenOk_le (rep_b1 hk2)
theorem rep_b3 {k : Nat} (hk2 : k ≤ 60) : binD .Mult (.list [.int 0]) (.int (k : Int)) = some (.new (List.replicate k [.int 0]).flatten) := bin_rep (rep_b0 hk2) (rep_b2 hk2)
theorem rep_b4 {k : Nat} (hk2 : k ≤ 60) : binD .Mult (.list [.int 0]) (.int (k : Int)) = some (.new (List.replicate k (.int 0))) := by
  rw [rep_b3 hk2, List.flatten_replicate_singleton]
theorem ev_z1 (T : Tb) (ρ : En) : evE T ρ (.lst (.cons (.cst (.int 0)) .nil)) = some (.new [.int 0], ρ) := by
  simp only [evE, evEs, ofC, Option.bind_some, Option.map_some, keepL, keepOp, List.length_cons, List.length_nil]
  rw [show lenOk (0 + 1) = true from lenOk1]
  simp only [if_true, Option.bind_some]
theorem bin_ok {T : Tb} {ρ ρ1 ρ2 : En} {op : Operator} {a b : IE} {x y r : Op} {d e : D} (h1 : evE T ρ a = some (x, ρ1)) (h2 : evE T ρ1 b = some (y, ρ2)) (h3 : viewOp ρ2 x = some d) (h4 : viewOp ρ2 y = some e) (h5 : binD op d e = some r) : evE T ρ (.bin op a b) = some (r, ρ2) := by
  simp only [evE, h1, h2, h3, h4, h5, Option.bind_some, Option.map_some]
theorem asg_ok {n : Nat} {T : Tb} {ρ ρ1 ρ2 : En} {t : Tg} {e : IE} {o : Op} (h1 : evE T ρ e = some (o, ρ1)) (h2 : asgT T ρ1 t o = some ρ2) : evS n T ρ (.asg t e) = some (.nx ρ2) := by
  simp only [evS, h1, h2, Option.bind_some, Option.map_some]
theorem ss_nx {n : Nat} {T : Tb} {ρ ρ1 : En} {s : IS} {ss : ISs} {r : Option Oc} (h1 : evS n T ρ s = some (.nx ρ1)) (h2 : evSs n T ρ1 ss = r) : evSs n T ρ (.cons s ss) = r := by
  simp only [evSs, h1, h2]
theorem ss_rt {n : Nat} {T : Tb} {ρ ρ1 : En} {s : IS} {ss : ISs} {d : D} (h1 : evS n T ρ s = some (.rt d ρ1)) : evSs n T ρ (.cons s ss) = some (.rt d ρ1) := by
  simp only [evSs, h1]
theorem ret_ok {n : Nat} {T : Tb} {ρ ρ1 ρ2 : En} {e : IE} {o : Op} {d : D} (h1 : evE T ρ e = some (o, ρ1)) (h2 : keepOp ρ1 o = some (d, ρ2)) : evS n T ρ (.ret e) = some (.rt d ρ2) := by
  simp only [evS, h1, h2, Option.bind_some, Option.map_some]
theorem runW_ok {n N : Nat} {T : Tb} {b : ISs} {l ds l' : List D} {d : D} {r : En} (h : evSs n T (entW N l ds) b = some (.rt d (.o true l' :: r))) : runW n T N b l ds = some (d, l') := by
  simp [runW, h]
theorem runP_ok {n N : Nat} {T : Tb} {b : ISs} {ds : List D} {d : D} {r : En} (h : evSs n T (entP N ds) b = some (.rt d r)) : runP n T N b ds = some d := by
  simp [runP, h]
theorem and_t {T : Tb} {ρ ρ1 : En} {a b : IE} {x : Op} (h1 : evE T ρ a = some (x, ρ1)) (h2 : viewOp ρ1 x = some (.bool true)) : evE T ρ (.and a b) = evE T ρ1 b := by
  simp only [evE, h1, h2, Option.bind_some]
theorem one_e {T : Tb} {ρ : En} {a : IE} : evE T ρ (.one a) = evE T ρ a := by simp only [evE]
theorem isi_ok {T : Tb} {ρ ρ1 : En} {a : IE} {x : Op} {d : D} {t : String} {b : Bool} (h1 : evE T ρ a = some (x, ρ1)) (h2 : viewOp ρ1 x = some d) (h3 : kitB (tyD d) t = some b) : evE T ρ (.isi a t) = some (.val (.bool b), ρ1) := by
  simp only [evE, h1, h2, h3, Option.bind_some, Option.map_some]
theorem tup2 {T : Tb} {ρ ρ1 ρ2 : En} {a b : IE} {d e : D} (h1 : evE T ρ a = some (.val d, ρ1)) (h2 : evE T ρ1 b = some (.val e, ρ2)) : evE T ρ (.tup (.cons a (.cons b .nil))) = some (.val (.tuple [d, e]), ρ2) := by
  simp only [evE, evEs, h1, h2, Option.bind_some, Option.map_some, keepL, keepOp, List.length_cons, List.length_nil]
  rw [show lenOk (0 + 1 + 1) = true from lenOk2]
  rfl
theorem lst2 {T : Tb} {ρ ρ1 ρ2 : En} {a b : IE} {d e : D} (h1 : evE T ρ a = some (.val d, ρ1)) (h2 : evE T ρ1 b = some (.val e, ρ2)) : evE T ρ (.lst (.cons a (.cons b .nil))) = some (.new [d, e], ρ2) := by
  simp only [evE, evEs, h1, h2, Option.bind_some, Option.map_some, keepL, keepOp, List.length_cons, List.length_nil]
  rw [show lenOk (0 + 1 + 1) = true from lenOk2]
  rfl
theorem bi1 {T : Tb} {ρ ρ1 : En} {f : String} {a : IE} {x r : Op} {d : D} (h1 : evE T ρ a = some (x, ρ1)) (h2 : viewOp ρ1 x = some d) (h3 : biD f [d] = some r) : evE T ρ (.bi f (.cons a .nil)) = some (r, ρ1) := by
  simp only [evE, evEs, h1, h2, h3, viewL, Option.bind_some, Option.map_some]
theorem cmpT_ok {T : Tb} {ρ ρ1 ρ2 : En} {op : CmpOp} {a b : IE} {x y : Op} {d e : D} {r : Bool} (h1 : evE T ρ a = some (x, ρ1)) (h2 : evE T ρ1 b = some (y, ρ2)) (h3 : viewOp ρ2 x = some d) (h4 : viewOp ρ2 y = some e) (h5 : cmpD op d e = some r) : evT T ρ (.cmp op a b) = some (r, ρ2) := by
  simp only [evT, h1, h2, h3, h4, h5, Option.bind_some, Option.map_some]
theorem cmpE_ok {T : Tb} {ρ ρ1 ρ2 : En} {op : CmpOp} {a b : IE} {x y : Op} {d e : D} {r : Bool} (h1 : evE T ρ a = some (x, ρ1)) (h2 : evE T ρ1 b = some (y, ρ2)) (h3 : viewOp ρ2 x = some d) (h4 : viewOp ρ2 y = some e) (h5 : cmpD op d e = some r) : evE T ρ (.cmp op a b) = some (.val (.bool r), ρ2) := by
  simp only [evE, h1, h2, h3, h4, h5, Option.bind_some, Option.map_some]
theorem if_no {n : Nat} {T : Tb} {ρ ρ1 : En} {c : IE} {a : ISs} (h : evT T ρ c = some (false, ρ1)) : evS n T ρ (.ifs c a .nil) = some (.nx ρ1) := by
  simp only [evS, h, evSs]
def mapI (g : Int → Int) : D → Option D
  | .int i => some (.int (g i))
  | _ => none
theorem filterMap_mapI (g : Int → Int) : ∀ l : List Int, (l.map PyData.int).filterMap (mapI g) = (l.map g).map PyData.int
  | [] => rfl
  | i :: l => by
    have := filterMap_mapI g l
    simp only [List.map_cons, List.filterMap_cons, mapI, this]
theorem rep_ok {T : Tb} {ρ : En} {a b : IE} {x y : Op} {d e : D} (h1 : evE T ρ a = some (x, ρ)) (h2 : evE T ρ b = some (y, ρ)) (hk : keepL ρ [x, y] = some ([d, e], ρ)) (hr : reprOk (.list [d, e]) = true) : evE T ρ (.bi "repr" (.cons (.lst (.cons a (.cons b .nil))) .nil)) = some (.val (.str (PyData.list [d, e]).shown), ρ) := by
  refine bi1 (x := .new [d, e]) ?_ rfl (by simp only [biD, hr, if_true])
  simp only [evE, evEs, h1, h2, hk, Option.bind_some, Option.map_some, List.length_cons, List.length_nil]
  rw [show lenOk (0 + 1 + 1) = true from lenOk2]
  rfl
theorem ne_rep {T : Tb} {ρ : En} {a b a' b' : IE} {x y x' y' : Op} {d e : D} (h1 : evE T ρ a = some (x, ρ)) (h2 : evE T ρ b = some (y, ρ)) (hk : keepL ρ [x, y] = some ([d, e], ρ)) (h1' : evE T ρ a' = some (x', ρ)) (h2' : evE T ρ b' = some (y', ρ)) (hk' : keepL ρ [x', y'] = some ([d, e], ρ)) (hd : Tame d) (he : Tame e) (td : TxO d.shown) (te : TxO e.shown) :
    evT T ρ (.cmp .NotEq (.bi "repr" (.cons (.lst (.cons a (.cons b .nil))) .nil)) (.bi "repr" (.cons (.lst (.cons a' (.cons b' .nil))) .nil))) = some (false, ρ) :=
  cmpT_ok (rep_ok h1 h2 hk (hd.repr2 he)) (rep_ok h1' h2' hk' (hd.repr2 he)) rfl rfl (ne_same (so_L2 td te))
theorem eq_rep {T : Tb} {ρ : En} {a b a' b' : IE} {x y x' y' : Op} {d e : D} (h1 : evE T ρ a = some (x, ρ)) (h2 : evE T ρ b = some (y, ρ)) (hk : keepL ρ [x, y] = some ([d, e], ρ)) (h1' : evE T ρ a' = some (x', ρ)) (h2' : evE T ρ b' = some (y', ρ)) (hk' : keepL ρ [x', y'] = some ([d, e], ρ)) (hd : Tame d) (he : Tame e) (td : TxO d.shown) (te : TxO e.shown) :
    evE T ρ (.cmp .Eq (.bi "repr" (.cons (.lst (.cons a (.cons b .nil))) .nil)) (.bi "repr" (.cons (.lst (.cons a' (.cons b' .nil))) .nil))) = some (.val (.bool true), ρ) :=
  cmpE_ok (rep_ok h1 h2 hk (hd.repr2 he)) (rep_ok h1' h2' hk' (hd.repr2 he)) rfl rfl (eq_same (so_L2 td te))
theorem cal_ok {T : Tb} {ρ ρ1 : En} {f : Str} {es : IEs} {ops : List Op} {fs : FS} {r : Op × En} (h1 : evEs T ρ es = some (ops, ρ1)) (h2 : T.fs f = some fs) (h3 : callF fs ops ρ1 = some r) : evE T ρ (.cal f es) = some r := by
  simp only [evE, h1, h2, h3, Option.bind_some]
theorem callP1 {ρ : En} {o : Op} {g : List D → Option D} {d r : D} (hv : viewOp ρ o = some d) (hk : keepL ρ [o] = some ([d], ρ)) (hg : g [d] = some r) : callF (.p 1 g) [o] ρ = some (.val r, ρ) := by
  simp only [callF, callP, viewL, hv, hg, hk, Option.bind_some, Option.map_some, List.length_cons, List.length_nil]
  by_cases hf : flat r = true <;> simp [hf]
theorem calP1 {T : Tb} {ρ : En} {f : Str} {a : IE} {o : Op} {g : List D → Option D} {d r : D} (hs : T.fs f = some (.p 1 g)) (ha : evE T ρ a = some (o, ρ)) (hv : viewOp ρ o = some d) (hk : keepL ρ [o] = some ([d], ρ)) (hg : g [d] = some r) : evE T ρ (.cal f (.cons a .nil)) = some (.val r, ρ) :=
  cal_ok (ops := [o]) (ρ1 := ρ) (by simp only [evEs, ha, Option.bind_some, Option.map_some]) hs (callP1 hv hk hg)
theorem calkP1 {T : Tb} {ρ : En} {f x : Str} {a : IE} {o : Op} {g : List D → Option D} {d r : D} (hs : T.fs f = some (.p 1 g)) (hq : T.ks f 0 [x] = some [0]) (ha : evE T ρ a = some (o, ρ)) (hk : keepL ρ [o] = some ([d], ρ)) (hg : g [d] = some r) : evE T ρ (.calk f 0 (.cons a .nil) [x]) = some (.val r, ρ) := by
  simp only [evE, evEs, ha, Option.bind_some, Option.map_some, hk, hq, hs]
  exact callP1 (o := .val d) rfl rfl hg
theorem calT2 {T : Tb} {ρ : En} {f : Str} {a b : IE} {x y : Op} {g : List D → Option D} {d e : D} {r : Bool} (hs : T.fs f = some (.p 2 g)) (ha : evE T ρ a = some (x, ρ)) (hb : evE T ρ b = some (y, ρ)) (hx : viewOp ρ x = some d) (hy : viewOp ρ y = some e) (hg : g [d, e] = some (.bool r)) : evT T ρ (.cal f (.cons a (.cons b .nil))) = some (r, ρ) := by
  have h : callF (.p 2 g) [x, y] ρ = some (.val (.bool r), ρ) := by
    simp only [callF, callP, viewL, hx, hy, hg, Option.bind_some, Option.map_some, List.length_cons, List.length_nil, flat, if_true]
    rfl
  simp only [evT, evEs, ha, hb, hs, h, Option.bind_some, Option.map_some, viewOp, trD]
theorem or_no {T : Tb} {ρ ρ1 ρ2 : En} {a b : IE} (ha : evT T ρ a = some (true, ρ1)) (hb : evT T ρ1 b = some (false, ρ2)) : evT T ρ (.or (.not a) (.one b)) = some (false, ρ2) := by
  simp [evT, ha, hb]
theorem callW3 {f : List D → List D → Option (D × List D)} {l l' : List D} {ρ : En} {i : Nat} {d e r x : D} (hx : ρ[i]? = some (.v x)) (h : f l [x, d, e] = some (r, l')) : callF (.w 4 f) [.slot 0, .slot (i + 1), .val d, .val e] (.o true l :: ρ) = some (.val r, .o true l' :: ρ) := by
  simp [callF, callW, keepL, keepOp, hx, h]
theorem asgs2 {n : Nat} {T : Tb} {ρ ρ1 ρ2 ρ3 : En} {a b : IE} {x : D} {y : List D} {i j : Nat} (h1 : evE T ρ a = some (.val x, ρ1)) (h2 : evE T ρ1 b = some (.new y, ρ2)) (h3 : asgN ρ2 [i, j] [.val x, .new y] = some ρ3) : evS n T ρ (.asgs [i, j] (.cons a (.cons b .nil))) = some (.nx ρ3) := by
  simp only [evS, evEs, h1, h2, settle, settle1, Option.bind_some, Option.map_some, h3]
theorem it_r1 {T : Tb} {ρ : En} {i k : Nat} (h : ρ[i]? = some (.v (.int k))) (hk : k ≤ 1000) : evIt T ρ (.r1 (.var i)) = some (I0 ((List.range k).map fun i => ((i : Nat) : Int)), ρ) := by
  have ro : rngOk k = true := by unfold rngOk; rw [decide_eq_true_eq]; omega
  have rg : rngD 0 k = I0 ((List.range k).map fun i => ((i : Nat) : Int)) := by simp [rngD, I0]
  simp only [evIt, evE, h, Option.bind_some, viewOp, ro, if_true, Int.toNat_natCast, rg]
theorem it_ex {T : Tb} {ρ ρ1 ρ2 : En} {e : IE} {o : Op} {ds : List D} (h : evE T ρ e = some (o, ρ1)) (hk : keepOp ρ1 o = some (.list ds, ρ2)) : evIt T ρ (.ex e) = some (ds, ρ2) := by
  simp only [evIt, h, Option.bind_some, hk]
theorem body_no {T : Tb} {ρ ρ1 ρ2 : En} {e : IE} {o : Op} {d : D} (h : evE T ρ e = some (o, ρ1)) (hk : keepOp ρ1 o = some (d, ρ2)) : ((evIf T ρ .no).bind fun q => if q.1 then (evE T q.2 e).bind fun r => (keepOp r.2 r.1).map fun k => (some k.1, k.2) else some (none, q.2)) = some (some d, ρ2) := by
  simp only [evIf, Option.bind_some, if_true, h, hk, Option.map_some]
theorem slc_to {T : Tb} {ρ : En} {i j : Nat} {xs : List D} {k : Int} (h1 : ρ[i]? = some (.v (.list xs))) (h2 : ρ[j]? = some (.v (.int k))) : evE T ρ (.slc (.var i) .no (.so (.var j))) = some (.new (cutD xs none (some k)), ρ) := by
  simp only [evE, evC, h1, h2, viewOp, slcD, Option.bind_some, Option.map_some]
theorem isiT {T : Tb} {ρ ρ1 : En} {a : IE} {t : String} {b : Bool} (h : evE T ρ (.isi a t) = some (.val (.bool b), ρ1)) : evT T ρ (.isi a t) = some (b, ρ1) := by
  simp only [evE, Option.bind_eq_some_iff, Option.map_eq_some_iff] at h
  obtain ⟨p, h1, x, h2, b', h3, e⟩ := h
  cases e
  simp only [evT, h1, h2, h3, Option.bind_some, Option.map_some]
theorem or3_no {T : Tb} {ρ : En} {a b c : IE} (ha : evT T ρ a = some (true, ρ)) (hb : evT T ρ b = some (false, ρ)) (hc : evT T ρ c = some (false, ρ)) : evT T ρ (.or (.not a) (.or b (.one c))) = some (false, ρ) := by
  simp [evT, ha, hb, hc]
end Ev

set_option maxHeartbeats 1000000
namespace Ev
open PySem L2
/-! ### blocks of any names -/
theorem wipe_len (ρ : En) : ∀ (l : List Nat), (wipeE ρ l).length = ρ.length
  | [] => rfl
  | v :: vs => by rw [wipeE, List.length_set, wipe_len ρ vs]
theorem backE_len (ρ ρ' : En) : ∀ (l : List Nat), (backE ρ ρ' l).length = ρ'.length
  | [] => rfl
  | v :: vs => by rw [backE, List.length_set, backE_len ρ ρ' vs]
theorem wipe_get (ρ : En) : ∀ (l : List Nat) (j : Nat), (wipeE ρ l)[j]? = if j ∈ l then ρ[j]?.map (fun _ => Sl.u) else ρ[j]?
  | [], j => by simp [wipeE]
  | v :: vs, j => by
    rw [wipeE, List.getElem?_set, wipe_get ρ vs, wipe_len]
    by_cases e : v = j
    · subst e
      rw [if_pos rfl, if_pos List.mem_cons_self]
      by_cases h : v < ρ.length
      · rw [if_pos h, List.getElem?_eq_getElem h]; rfl
      · rw [if_neg h, List.getElem?_eq_none (by omega)]; rfl
    · have : ¬ j = v := fun z => e z.symm
      rw [if_neg e]
      simp only [List.mem_cons, this, false_or]
theorem back_get (ρ ρ' : En) : ∀ (l : List Nat) (j : Nat), (backE ρ ρ' l)[j]? = if j ∈ l then ρ'[j]?.map (fun _ => match ρ[j]? with | some (.v d) => Sl.v d | _ => Sl.u) else ρ'[j]?
  | [], j => by simp [backE]
  | v :: vs, j => by
    rw [backE, List.getElem?_set, back_get ρ ρ' vs, backE_len]
    by_cases e : v = j
    · subst e
      rw [if_pos rfl, if_pos List.mem_cons_self]
      by_cases h : v < ρ'.length
      · rw [if_pos h, List.getElem?_eq_getElem h]; rfl
      · rw [if_neg h, List.getElem?_eq_none (l := ρ') (by omega)]; rfl
    · have : ¬ j = v := fun z => e z.symm
      rw [if_neg e]
      simp only [List.mem_cons, this, false_or]
theorem fm_some {α β : Type} (f : α → β) : ∀ l : List α, l.filterMap (fun a => some (f a)) = l.map f
  | [] => rfl
  | a :: l => by simp
theorem back_ok {ρ ρ' : En} {l : List Nat} (hv : ∀ i ∈ l, ρ[i]? = some .u ∨ ∃ d, ρ[i]? = some (.v d)) (h : wipeE ρ' l = wipeE ρ l) : backE ρ ρ' l = ρ := by
  have hl : ρ'.length = ρ.length := by rw [← wipe_len ρ' l, ← wipe_len ρ l, h]
  apply List.ext_getElem?
  intro j
  rw [back_get]
  have hj := congrArg (fun q => q[j]?) h
  simp only [wipe_get] at hj
  by_cases e : j ∈ l
  · simp only [if_pos e] at hj ⊢
    rcases hv j e with h1 | ⟨d, h1⟩
    · have : j < ρ'.length := by rw [hl]; exact (List.getElem?_eq_some_iff.mp h1).1
      rw [h1, List.getElem?_eq_getElem this]
      simp
    · have : j < ρ'.length := by rw [hl]; exact (List.getElem?_eq_some_iff.mp h1).1
      rw [h1, List.getElem?_eq_getElem this]
      simp
  · simpa only [if_neg e] using hj
abbrev Bod (T : Tb) (c : IC) (e : IE) (ρ2 : En) : Option (Option D × En) := (evIf T ρ2 c).bind fun q => if q.1 then (evE T q.2 e).bind fun r => (keepOp r.2 r.1).map fun k => (some k.1, k.2) else some (none, q.2)
theorem comp_ty {α : Type} {f : D → En → Option (Option D × En)} {P : En → Prop} (enc : α → D) (out : α → Option D) : ∀ {l : List α} {acc : List D} {ρ : En}, (∀ a ∈ l, ∀ ρ, P ρ → ∃ ρ', f (enc a) ρ = some (out a, ρ') ∧ P ρ') → P ρ → ∃ ρ', evComp f (l.map enc) acc ρ = some (acc ++ l.filterMap out, ρ') ∧ P ρ'
  | [], acc, ρ, _, h => ⟨ρ, by simp [evComp], h⟩
  | a :: l, acc, ρ, hf, h => by
    obtain ⟨ρ1, e1, h1⟩ := hf a List.mem_cons_self ρ h
    cases hg : out a with
    | none =>
      obtain ⟨ρ2, e2, h2⟩ := comp_ty enc out (l := l) (acc := acc) (fun y hy => hf y (List.mem_cons_of_mem _ hy)) h1
      exact ⟨ρ2, by simp only [List.map_cons, evComp, e1, hg, e2, List.filterMap_cons], h2⟩
    | some d =>
      obtain ⟨ρ2, e2, h2⟩ := comp_ty enc out (l := l) (acc := acc ++ [d]) (fun y hy => hf y (List.mem_cons_of_mem _ hy)) h1
      exact ⟨ρ2, by simp only [List.map_cons, evComp, e1, hg, e2, List.filterMap_cons, List.append_assoc, List.singleton_append], h2⟩
/-- a list comprehension over typed data -/
theorem lcT {α : Type} {T : Tb} {ρ ρ1 : En} {it : IT} {c : IC} {e : IE} {t : Tg} {own : List (Str × Nat)} (enc : α → D) (out : α → Option D) {l : List α} (hit : evIt T ρ it = some (l.map enc, ρ1))
    (hb : ∀ a ∈ l, ∃ ρ2, (bindT (wipeE ρ1 (own.map (·.2))) t (enc a)).bind (Bod T c e) = some (out a, ρ2) ∧ wipeE ρ2 (own.map (·.2)) = wipeE ρ1 (own.map (·.2)))
    (hv : ∀ i ∈ own.map (·.2), ρ1[i]? = some .u ∨ ∃ d, ρ1[i]? = some (.v d)) (hl : lenOk (l.filterMap out).length = true) : evE T ρ (.lc e t own it c) = some (.new (l.filterMap out), ρ1) := by
  obtain ⟨ρ', e1, h1⟩ := comp_ty (f := fun x ρ1 => (bindT (wipeE ρ1 (own.map (·.2))) t x).bind fun ρ2 => (evIf T ρ2 c).bind fun q => if q.1 then (evE T q.2 e).bind fun r => (keepOp r.2 r.1).map fun k => (some k.1, k.2) else some (none, q.2))
    (P := fun ρ => wipeE ρ (own.map (·.2)) = wipeE ρ1 (own.map (·.2))) enc out (l := l) (acc := []) (ρ := ρ1) (fun a ha ρ hρ => by
      obtain ⟨ρ2, h2, h3⟩ := hb a ha
      exact ⟨ρ2, by rw [hρ]; exact h2, h3⟩) rfl
  simp only [evE, hit, Option.bind_some]
  rw [e1]
  simp only [Option.bind_some, List.nil_append, hl, if_true]
  rw [back_ok hv h1]
/-- the same, each one out -/
theorem lcM {α : Type} {T : Tb} {ρ ρ1 : En} {it : IT} {e : IE} {t : Tg} {own : List (Str × Nat)} (enc out : α → D) {l : List α} (hit : evIt T ρ it = some (l.map enc, ρ1))
    (hb : ∀ a ∈ l, ∃ ρ2 o, bindT (wipeE ρ1 (own.map (·.2))) t (enc a) = some ρ2 ∧ evE T ρ2 e = some (o, ρ2) ∧ keepOp ρ2 o = some (out a, ρ2) ∧ wipeE ρ2 (own.map (·.2)) = wipeE ρ1 (own.map (·.2)))
    (hv : ∀ i ∈ own.map (·.2), ρ1[i]? = some .u ∨ ∃ d, ρ1[i]? = some (.v d)) (hl : lenOk l.length = true) : evE T ρ (.lc e t own it .no) = some (.new (l.map out), ρ1) := by
  have := lcT (T := T) (ρ := ρ) (ρ1 := ρ1) (it := it) (c := .no) (e := e) (t := t) (own := own) enc (fun a => some (out a)) (l := l) hit (fun a ha => by
    obtain ⟨ρ2, o, h1, h2, h3, h4⟩ := hb a ha
    exact ⟨ρ2, by simp only [h1, Option.bind_some, Bod, evIf, if_true, h2, h3, Option.map_some], h4⟩) hv (by rw [fm_some]; simpa using hl)
  rw [fm_some] at this
  exact this
theorem gen_ty {α : Type} {st : D → Bool} {f : D → En → Option (Option D × En)} {P : En → Prop} (enc out : α → D) : ∀ {l : List α} {acc : List D} {ρ : En}, (∀ a ∈ l, ∀ ρ, P ρ → ∃ ρ', f (enc a) ρ = some (some (out a), ρ') ∧ P ρ') → (∀ a ∈ l, st (out a) = false) → P ρ → ∃ ρ', evGen st f (l.map enc) acc ρ = some (acc ++ l.map out, ρ') ∧ P ρ'
  | [], acc, ρ, _, _, h => ⟨ρ, by simp [evGen], h⟩
  | a :: l, acc, ρ, hf, hs, h => by
    obtain ⟨ρ1, e1, h1⟩ := hf a List.mem_cons_self ρ h
    obtain ⟨ρ2, e2, h2⟩ := gen_ty enc out (l := l) (acc := acc ++ [out a]) (fun y hy => hf y (List.mem_cons_of_mem _ hy)) (fun y hy => hs y (List.mem_cons_of_mem _ hy)) h1
    exact ⟨ρ2, by simp only [List.map_cons, evGen, e1, hs a List.mem_cons_self, Bool.false_eq_true, if_false, e2, List.append_assoc, List.singleton_append], h2⟩
theorem gnT {α : Type} {T : Tb} {ρ ρ1 : En} {it : IT} {e : IE} {t : Tg} {f : String} {own : List (Str × Nat)} {d : D} (enc out : α → D) {l : List α} (hit : evIt T ρ it = some (l.map enc, ρ1))
    (hb : ∀ a ∈ l, ∃ ρ2 o, bindT (wipeE ρ1 (own.map (·.2))) t (enc a) = some ρ2 ∧ evE T ρ2 e = some (o, ρ2) ∧ keepOp ρ2 o = some (out a, ρ2) ∧ wipeE ρ2 (own.map (·.2)) = wipeE ρ1 (own.map (·.2)))
    (hs : ∀ a ∈ l, gnSt f (out a) = false) (hv : ∀ i ∈ own.map (·.2), ρ1[i]? = some .u ∨ ∃ d, ρ1[i]? = some (.v d)) (hd : gnD f (l.map out) = some d) : evE T ρ (.gn f e t own it .no) = some (.val d, ρ1) := by
  obtain ⟨ρ', e1, h1⟩ := gen_ty (st := gnSt f) (f := fun x ρ1 => (bindT (wipeE ρ1 (own.map (·.2))) t x).bind fun ρ2 => (evIf T ρ2 .no).bind fun q => if q.1 then (evE T q.2 e).bind fun r => (keepOp r.2 r.1).map fun k => (some k.1, k.2) else some (none, q.2))
    (P := fun ρ => wipeE ρ (own.map (·.2)) = wipeE ρ1 (own.map (·.2))) enc out (l := l) (acc := []) (ρ := ρ1) (fun a ha ρ hρ => by
      obtain ⟨ρ2, o, h1, h2, h3, h4⟩ := hb a ha
      exact ⟨ρ2, by rw [hρ]; simp only [h1, Option.bind_some, evIf, if_true, h2, h3, Option.map_some], h4⟩) hs rfl
  simp only [evE, hit, Option.bind_some]
  rw [e1]
  simp only [Option.bind_some, List.nil_append, hd, Option.map_some]
  rw [back_ok hv h1]
/-- all(..), stopping early -/
theorem all_ty {α : Type} {f : D → En → Option (Option D × En)} {P : En → Prop} (enc : α → D) (p : α → Bool) : ∀ {l : List α} {acc : List D} {ρ : En}, (∀ a ∈ l, ∀ ρ, P ρ → ∃ ρ', f (enc a) ρ = some (some (.bool (p a)), ρ') ∧ P ρ') → P ρ → ∃ (bs : List Bool) (ρ' : En), evGen (gnSt "all") f (l.map enc) acc ρ = some (acc ++ bs.map PyData.bool, ρ') ∧ bs.all id = l.all p ∧ P ρ'
  | [], acc, ρ, _, h => ⟨[], ρ, by simp [evGen], rfl, h⟩
  | a :: l, acc, ρ, hf, h => by
    obtain ⟨ρ1, e1, h1⟩ := hf a List.mem_cons_self ρ h
    cases hp : p a with
    | false => exact ⟨[false], ρ1, by simp [evGen, e1, hp, gnSt], by simp [hp], h1⟩
    | true =>
      obtain ⟨bs, ρ2, e2, h2, h3⟩ := all_ty enc p (l := l) (acc := acc ++ [.bool true]) (fun y hy => hf y (List.mem_cons_of_mem _ hy)) h1
      exact ⟨true :: bs, ρ2, by simp only [List.map_cons, evGen, e1, hp, gnSt, Bool.not_true, Bool.false_eq_true, if_false, e2, List.append_assoc, List.singleton_append], by simp [h2, hp], h3⟩
theorem boolsD_map : ∀ l : List Bool, boolsD (l.map PyData.bool) = some l
  | [] => rfl
  | b :: l => by simp [boolsD, boolsD_map l]
theorem gnAll {α : Type} {T : Tb} {ρ ρ1 : En} {it : IT} {e : IE} {t : Tg} {own : List (Str × Nat)} (enc : α → D) (p : α → Bool) {l : List α} (hit : evIt T ρ it = some (l.map enc, ρ1))
    (hb : ∀ a ∈ l, ∃ ρ2 o, bindT (wipeE ρ1 (own.map (·.2))) t (enc a) = some ρ2 ∧ evE T ρ2 e = some (o, ρ2) ∧ keepOp ρ2 o = some (.bool (p a), ρ2) ∧ wipeE ρ2 (own.map (·.2)) = wipeE ρ1 (own.map (·.2)))
    (hv : ∀ i ∈ own.map (·.2), ρ1[i]? = some .u ∨ ∃ d, ρ1[i]? = some (.v d)) : evE T ρ (.gn "all" e t own it .no) = some (.val (.bool (l.all p)), ρ1) := by
  obtain ⟨bs, ρ', e1, h0, h1⟩ := all_ty (f := fun x ρ1 => (bindT (wipeE ρ1 (own.map (·.2))) t x).bind fun ρ2 => (evIf T ρ2 .no).bind fun q => if q.1 then (evE T q.2 e).bind fun r => (keepOp r.2 r.1).map fun k => (some k.1, k.2) else some (none, q.2))
    (P := fun ρ => wipeE ρ (own.map (·.2)) = wipeE ρ1 (own.map (·.2))) enc p (l := l) (acc := []) (ρ := ρ1) (fun a ha ρ hρ => by
      obtain ⟨ρ2, o, h1, h2, h3, h4⟩ := hb a ha
      exact ⟨ρ2, by rw [hρ]; simp only [h1, Option.bind_some, evIf, if_true, h2, h3, Option.map_some], h4⟩) rfl
  simp only [evE, hit, Option.bind_some]
  rw [e1]
  simp only [Option.bind_some, List.nil_append, gnD, boolsD_map, Option.map_some, h0]
  rw [back_ok hv h1]
/-- a loop over typed data, its state led along -/
theorem forT {α S : Type} {f : D → En → Option Oc} {R : S → En → Prop} {step : S → α → S} (enc : α → D) : ∀ {l : List α} {s : S} {ρ : En}, (∀ a ∈ l, ∀ s ρ, R s ρ → ∃ ρ', f (enc a) ρ = some (.nx ρ') ∧ R (step s a) ρ') → R s ρ → ∃ ρ', evFor f (l.map enc) ρ = some (.nx ρ') ∧ R (l.foldl step s) ρ'
  | [], s, ρ, _, h => ⟨ρ, rfl, h⟩
  | a :: l, s, ρ, hf, h => by
    obtain ⟨ρ1, e1, h1⟩ := hf a List.mem_cons_self s ρ h
    obtain ⟨ρ2, e2, h2⟩ := forT enc (l := l) (fun y hy => hf y (List.mem_cons_of_mem _ hy)) h1
    exact ⟨ρ2, by simp only [List.map_cons, evFor, e1, e2], h2⟩
theorem tup3 {T : Tb} {ρ ρ1 ρ2 ρ3 ρ4 : En} {a b c : IE} {x y z : Op} {d e f : D} (h1 : evE T ρ a = some (x, ρ1)) (h2 : evE T ρ1 b = some (y, ρ2)) (h3 : evE T ρ2 c = some (z, ρ3)) (hk : keepL ρ3 [x, y, z] = some ([d, e, f], ρ4)) : evE T ρ (.tup (.cons a (.cons b (.cons c .nil)))) = some (.val (.tuple [d, e, f]), ρ4) := by
  simp only [evE, evEs, h1, h2, h3, hk, Option.bind_some, Option.map_some, List.length_cons, List.length_nil]
  rw [show lenOk (0 + 1 + 1 + 1) = true from lenOk3]
  rfl
theorem for_ok {n : Nat} {T : Tb} {ρ ρ1 ρ2 : En} {t : Tg} {it : IT} {b : ISs} {xs : List D} (h1 : evIt T ρ it = some (xs, ρ1)) (h2 : evFor (fun x ρ1 => (bindT ρ1 t x).bind fun ρ2 => evSs n T ρ2 b) xs ρ1 = some (.nx ρ2)) : evS n T ρ (.fors t it b) = some (.nx ρ2) := by
  simp only [evS, h1, Option.bind_some]
  exact h2
theorem bi_tuple {T : Tb} {ρ ρ1 : En} {a : IE} {o : Op} {xs : List D} (h1 : evE T ρ a = some (o, ρ1)) (h2 : viewOp ρ1 o = some (.list xs)) : evE T ρ (.bi "tuple" (.cons a .nil)) = some (.val (.tuple xs), ρ1) := bi1 h1 h2 rfl
theorem callW_v {n : Nat} {f : List D → List D → Option (D × List D)} {l l' : List D} {ρ : En} {r : List Op} {ds : List D} {d : D} (hn : r.length + 1 = n) (hk : keepL (.o true l :: ρ) r = some (ds, .o true l :: ρ)) (h : f l ds = some (d, l')) : callF (.w n f) (.slot 0 :: r) (.o true l :: ρ) = some (.val d, .o true l' :: ρ) := by
  subst hn
  simp only [callF, callW, List.length_cons, beq_self_eq_true, if_true, List.getElem?_cons_zero, hk, Option.bind_some, h, Option.map_some, List.set_cons_zero]
theorem calW {n : Nat} {T : Tb} {f : List D → List D → Option (D × List D)} {l l' : List D} {ρ : En} {x : Str} {es : IEs} {r : List Op} {ds : List D} {d : D} (hs : T.fs x = some (.w n f)) (he : evEs T (.o true l :: ρ) es = some (r, .o true l :: ρ)) (hn : r.length + 1 = n) (hk : keepL (.o true l :: ρ) r = some (ds, .o true l :: ρ)) (h : f l ds = some (d, l')) :
    evE T (.o true l :: ρ) (.cal x (.cons (.var 0) es)) = some (.val d, .o true l' :: ρ) :=
  cal_ok (ops := .slot 0 :: r) (ρ1 := .o true l :: ρ) (by simp only [evEs, evE, List.getElem?_cons_zero, Option.bind_some, he, Option.map_some]) hs (callW_v hn hk h)
/-- points -/
def ptD (p : Int × Int) : D := .tuple [.int p.1, .int p.2]
theorem rngD_map (k : Nat) : rngD 0 k = (List.range k).map fun i => PyData.int ((i : Nat) : Int) := by simp [rngD]
end Ev

set_option maxHeartbeats 4000000
namespace Ev
open PySem PySem.Spec PyProof.Rows L2
def topS (i : Nat) : Stmt := PySem.Challenge.pw_slotstars_k14_whole_orders_there_and_gon.main.body.getD i (.Pass ⟨0, 0, 0, 0⟩)
def kt0 : KTab := [("orders_there", [((0, ["row"]), [0])]), ("orders_gone", [((0, ["row"]), [0])])]
def gl0 : List (Str × D) := [("LEAST_SLOTS", .int (2)), ("MOST_SLOTS", .int (60))]
def tb_gcd : List (Str × FS) := (("gcd", .p 2 gcdF) :: [])
abbrev s__law_rounds : Stmt := topS 37
abbrev n__law_rounds : List Str := ["_law_script"]
def i__law_rounds : ISs := (.cons (.ret (.bi "max" (.cons (.cst (.int 2)) (.cons (.bi "min" (.cons (.bi "len" (.cons (.var 0) .nil)) (.cons (.cst (.int 3)) .nil))) .nil)))) .nil)
theorem sc__law_rounds : FnScope n__law_rounds ["_law_script"] (defScope s__law_rounds) := ⟨rfl, rfl, rfl, by decide +kernel, rfl, by decide +kernel, by decide +kernel⟩
theorem ch__law_rounds : chSs (scOf n__law_rounds s__law_rounds false) i__law_rounds (defBody s__law_rounds) = true := by decide +kernel
theorem ba__law_rounds : BA "_law_rounds" s__law_rounds ["_law_script"] := fun _ _ _ _ _ _ us h => match us, h with | [_], _ => rfl
def f__law_rounds (ds : List D) : Option D := runP 100000 (tabT tb_gcd kt0 gl0) 1 i__law_rounds ds
def fs__law_rounds : FS := .p 1 f__law_rounds
def tb__law_rounds : List (Str × FS) := (("_law_rounds", fs__law_rounds) :: tb_gcd)
abbrev s__law_draw : Stmt := topS 35
abbrev n__law_draw : List Str := ["_law_well_here", "_law_many", "_law_pace", "_law_digit"]
def i__law_draw : ISs := (.cons (.ifs (.cmp .Gt (.idx (.var 0) (.cst (.int 0))) (.cst (.int 0))) (.cons (.asg (.tup (.cons (.sub 0 (.cst (.int 0))) (.cons (.nm 3) .nil))) (.bi "divmod" (.cons (.idx (.var 0) (.cst (.int 0))) (.cons (.var 1) .nil)))) (.cons (.ret (.var 3)) .nil)) .nil) (.cons (.asg (.sub 0 (.cst (.int 2))) (.bin .Add (.idx (.var 0) (.cst (.int 2))) (.cst (.int 1)))) (.cons (.asg (.nm 2) (.bin .Add (.bin .Mod (.bi "int" (.cons (.idx (.var 0) (.cst (.int 1))) .nil)) (.cst (.int 8009))) (.cst (.int 31013)))) (.cons (.asg (.sub 0 (.cst (.int 1))) (.bin .Mod (.bi "int" (.cons (.bin .Add (.bin .Add (.bin .Mult (.idx (.var 0) (.cst (.int 1))) (.var 2)) (.bin .Mult (.cst (.int 60101)) (.idx (.var 0) (.cst (.int 2))))) (.cst (.int 23))) .nil)) (.cst (.int 2147483587)))) (.cons (.ret (.bin .Mod (.bi "int" (.cons (.bin .FloorDiv (.idx (.var 0) (.cst (.int 1))) (.cst (.int 59))) .nil)) (.var 1))) .nil)))))
theorem sc__law_draw : FnScope n__law_draw ["_law_well_here", "_law_many"] (defScope s__law_draw) := ⟨rfl, rfl, rfl, by decide +kernel, rfl, by decide +kernel, by decide +kernel⟩
theorem ch__law_draw : chSs (scOf n__law_draw s__law_draw false) i__law_draw (defBody s__law_draw) = true := by decide +kernel
theorem ba__law_draw : BA "_law_draw" s__law_draw ["_law_well_here", "_law_many"] := fun _ _ _ _ _ _ us h => match us, h with | [_, _], _ => rfl
def f__law_draw (ds0 ds : List D) : Option (D × List D) := runW 100000 (tabT tb__law_rounds kt0 gl0) 4 i__law_draw ds0 ds
def fs__law_draw : FS := .w 2 f__law_draw
def tb__law_draw : List (Str × FS) := (("_law_draw", fs__law_draw) :: tb__law_rounds)
abbrev s__law_pick : Stmt := topS 36
abbrev n__law_pick : List Str := ["_law_well_here", "_law_some"]
def i__law_pick : ISs := (.cons (.ret (.idx (.var 1) (.cal "_law_draw" (.cons (.var 0) (.cons (.bi "len" (.cons (.var 1) .nil)) .nil))))) .nil)
theorem sc__law_pick : FnScope n__law_pick ["_law_well_here", "_law_some"] (defScope s__law_pick) := ⟨rfl, rfl, rfl, by decide +kernel, rfl, by decide +kernel, by decide +kernel⟩
theorem ch__law_pick : chSs (scOf n__law_pick s__law_pick false) i__law_pick (defBody s__law_pick) = true := by decide +kernel
theorem ba__law_pick : BA "_law_pick" s__law_pick ["_law_well_here", "_law_some"] := fun _ _ _ _ _ _ us h => match us, h with | [_, _], _ => rfl
def f__law_pick (ds0 ds : List D) : Option (D × List D) := runW 100000 (tabT tb__law_draw kt0 gl0) 2 i__law_pick ds0 ds
def fs__law_pick : FS := .w 2 f__law_pick
def tb__law_pick : List (Str × FS) := (("_law_pick", fs__law_pick) :: tb__law_draw)
abbrev s__law_slots : Stmt := topS 41
abbrev n__law_slots : List Str := ["_law_well_here"]
def i__law_slots : ISs := (.cons (.ifs (.cmp .Eq (.cal "_law_draw" (.cons (.var 0) (.cons (.cst (.int 9)) .nil))) (.cst (.int 0))) (.cons (.ret (.bin .Add (.cst (.int 2)) (.cal "_law_draw" (.cons (.var 0) (.cons (.cst (.int 59)) .nil))))) .nil) .nil) (.cons (.ret (.cal "_law_pick" (.cons (.var 0) (.cons (.tup (.cons (.cst (.int 2)) (.cons (.cst (.int 3)) (.cons (.cst (.int 4)) (.cons (.cst (.int 5)) (.cons (.cst (.int 6)) (.cons (.cst (.int 6)) (.cons (.cst (.int 7)) (.cons (.cst (.int 8)) (.cons (.cst (.int 9)) (.cons (.cst (.int 10)) (.cons (.cst (.int 12)) (.cons (.cst (.int 12)) (.cons (.cst (.int 14)) (.cons (.cst (.int 15)) (.cons (.cst (.int 16)) (.cons (.cst (.int 18)) (.cons (.cst (.int 20)) (.cons (.cst (.int 24)) .nil))))))))))))))))))) .nil)))) .nil))
theorem sc__law_slots : FnScope n__law_slots ["_law_well_here"] (defScope s__law_slots) := ⟨rfl, rfl, rfl, by decide +kernel, rfl, by decide +kernel, by decide +kernel⟩
theorem ch__law_slots : chSs (scOf n__law_slots s__law_slots false) i__law_slots (defBody s__law_slots) = true := by decide +kernel
theorem ba__law_slots : BA "_law_slots" s__law_slots ["_law_well_here"] := fun _ _ _ _ _ _ us h => match us, h with | [_], _ => rfl
def f__law_slots (ds0 ds : List D) : Option (D × List D) := runW 100000 (tabT tb__law_pick kt0 gl0) 1 i__law_slots ds0 ds
def fs__law_slots : FS := .w 1 f__law_slots
def tb__law_slots : List (Str × FS) := (("_law_slots", fs__law_slots) :: tb__law_pick)
abbrev s__law_parts : Stmt := topS 39
abbrev n__law_parts : List Str := ["_law_number_here", "_law_k"]
def i__law_parts : ISs := (.cons (.ret (.lc (.var 1) (.nm 1) [("_law_k", 1)] (.r2 (.cst (.int 1)) (.bin .Add (.var 0) (.cst (.int 1)))) (.so (.cmp .Eq (.bin .Mod (.bi "int" (.cons (.var 0) .nil)) (.var 1)) (.cst (.int 0)))))) .nil)
theorem sc__law_parts : FnScope n__law_parts ["_law_number_here"] (defScope s__law_parts) := ⟨rfl, rfl, rfl, by decide +kernel, rfl, by decide +kernel, by decide +kernel⟩
theorem ch__law_parts : chSs (scOf n__law_parts s__law_parts false) i__law_parts (defBody s__law_parts) = true := by decide +kernel
theorem ba__law_parts : BA "_law_parts" s__law_parts ["_law_number_here"] := fun _ _ _ _ _ _ us h => match us, h with | [_], _ => rfl
def f__law_parts (ds : List D) : Option D := runP 100000 (tabT tb__law_slots kt0 gl0) 2 i__law_parts ds
def fs__law_parts : FS := .p 1 f__law_parts
def tb__law_parts : List (Str × FS) := (("_law_parts", fs__law_parts) :: tb__law_slots)
abbrev s__law_number : Stmt := topS 38
abbrev n__law_number : List Str := ["_law_well_here", "_law_size"]
def i__law_number : ISs := (.cons (.asg (.nm 1) (.cal "_law_pick" (.cons (.var 0) (.cons (.tup (.cons (.cst (.int 1)) (.cons (.cst (.int 2)) (.cons (.cst (.int 2)) (.cons (.cst (.int 3)) (.cons (.cst (.int 5)) (.cons (.cst (.int 20)) (.cons (.cst (.int 400)) (.cons (.cst (.int 0)) .nil))))))))) .nil)))) (.cons (.ifs (.cmp .Gt (.var 1) (.cst (.int 0))) (.cons (.ret (.bin .Sub (.cal "_law_draw" (.cons (.var 0) (.cons (.bin .Add (.bin .Mult (.cst (.int 2)) (.var 1)) (.cst (.int 1))) .nil))) (.var 1))) .nil) .nil) (.cons (.ret (.bin .Mult (.bin .Add (.bin .Mult (.cal "_law_draw" (.cons (.var 0) (.cons (.cst (.int 999983)) .nil))) (.cst (.int 999983))) (.cal "_law_draw" (.cons (.var 0) (.cons (.cst (.int 999983)) .nil)))) (.bin .Sub (.cst (.int 1)) (.bin .Mult (.cst (.int 2)) (.cal "_law_draw" (.cons (.var 0) (.cons (.cst (.int 2)) .nil))))))) .nil)))
theorem sc__law_number : FnScope n__law_number ["_law_well_here"] (defScope s__law_number) := ⟨rfl, rfl, rfl, by decide +kernel, rfl, by decide +kernel, by decide +kernel⟩
theorem ch__law_number : chSs (scOf n__law_number s__law_number false) i__law_number (defBody s__law_number) = true := by decide +kernel
theorem ba__law_number : BA "_law_number" s__law_number ["_law_well_here"] := fun _ _ _ _ _ _ us h => match us, h with | [_], _ => rfl
def f__law_number (ds0 ds : List D) : Option (D × List D) := runW 100000 (tabT tb__law_parts kt0 gl0) 2 i__law_number ds0 ds
def fs__law_number : FS := .w 1 f__law_number
def tb__law_number : List (Str × FS) := (("_law_number", fs__law_number) :: tb__law_parts)
abbrev s__law_row : Stmt := topS 42
abbrev n__law_row : List Str := ["_law_well_here", "_law_slots_here", "_law_size", "_law_row_here", "_law_k", "_law_turn", "_law_step", "_law_sign"]
def i__law_row : ISs := (.cons (.asg (.nm 2) (.cal "_law_pick" (.cons (.var 0) (.cons (.tup (.cons (.cst (.int 1)) (.cons (.cst (.int 1)) (.cons (.cst (.int 1)) (.cons (.cst (.int 2)) (.cons (.cst (.int 3)) (.cons (.cst (.int 30)) (.cons (.cst (.int 0)) .nil)))))))) .nil)))) (.cons (.asg (.nm 3) (.lst .nil)) (.cons (.fors (.nm 4) (.r1 (.var 1)) (.cons (.app 3 (.ite (.cmp .Eq (.var 2) (.cst (.int 0))) (.cal "_law_number" (.cons (.var 0) .nil)) (.bin .Sub (.cal "_law_draw" (.cons (.var 0) (.cons (.bin .Add (.bin .Mult (.cst (.int 2)) (.var 2)) (.cst (.int 1))) .nil))) (.var 2)))) .nil)) (.cons (.fors (.nm 5) (.r1 (.ite (.cmp .Gt (.var 1) (.cst (.int 1))) (.cal "_law_draw" (.cons (.var 0) (.cons (.cst (.int 3)) .nil))) (.cst (.int 0)))) (.cons (.asg (.nm 6) (.ite (.cmp .Eq (.cal "_law_draw" (.cons (.var 0) (.cons (.cst (.int 2)) .nil))) (.cst (.int 0))) (.cal "_law_pick" (.cons (.var 0) (.cons (.slc (.cal "_law_parts" (.cons (.var 1) .nil)) .no (.so (.neg (.cst (.int 1))))) .nil))) (.bin .Add (.cst (.int 1)) (.cal "_law_draw" (.cons (.var 0) (.cons (.bin .Sub (.var 1) (.cst (.int 1))) .nil)))))) (.cons (.asg (.nm 7) (.bin .Sub (.cst (.int 1)) (.bin .Mult (.cst (.int 2)) (.cal "_law_draw" (.cons (.var 0) (.cons (.cst (.int 2)) .nil)))))) (.cons (.asg (.nm 3) (.lc (.bin .Add (.idx (.var 3) (.var 4)) (.bin .Mult (.var 7) (.idx (.var 3) (.bin .Sub (.var 4) (.var 6))))) (.nm 4) [("_law_k", 4)] (.r1 (.var 1)) .no)) .nil)))) (.cons (.ret (.var 3)) .nil)))))
theorem sc__law_row : FnScope n__law_row ["_law_well_here", "_law_slots_here"] (defScope s__law_row) := ⟨rfl, rfl, rfl, by decide +kernel, rfl, by decide +kernel, by decide +kernel⟩
theorem ch__law_row : chSs (scOf n__law_row s__law_row false) i__law_row (defBody s__law_row) = true := by decide +kernel
theorem ba__law_row : BA "_law_row" s__law_row ["_law_well_here", "_law_slots_here"] := fun _ _ _ _ _ _ us h => match us, h with | [_, _], _ => rfl
def f__law_row (ds0 ds : List D) : Option (D × List D) := runW 100000 (tabT tb__law_number kt0 gl0) 8 i__law_row ds0 ds
def fs__law_row : FS := .w 2 f__law_row
def tb__law_row : List (Str × FS) := (("_law_row", fs__law_row) :: tb__law_number)
abbrev s__law_killed : Stmt := topS 45
abbrev n__law_killed : List Str := ["_law_well_here", "_law_row_here", "_law_slots_here", "_law_found", "_law_turn", "_law_part", "_law_many", "_law_k", "_law_each"]
def i__law_killed : ISs := (.cons (.asg (.nm 3) (.var 1)) (.cons (.fors (.nm 4) (.r1 (.cal "_law_draw" (.cons (.var 0) (.cons (.cst (.int 4)) .nil)))) (.cons (.asg (.nm 5) (.cal "_law_pick" (.cons (.var 0) (.cons (.slc (.cal "_law_parts" (.cons (.var 2) .nil)) .no (.so (.neg (.cst (.int 1))))) .nil)))) (.cons (.asg (.nm 6) (.cal "_law_pick" (.cons (.var 0) (.cons (.cal "_law_parts" (.cons (.var 5) .nil)) .nil)))) (.cons (.ifs (.cmp .Eq (.cal "_law_draw" (.cons (.var 0) (.cons (.cst (.int 2)) .nil))) (.cst (.int 0))) (.cons (.asg (.nm 3) (.lc (.bin .Sub (.idx (.var 3) (.var 7)) (.idx (.var 3) (.bin .Sub (.var 7) (.var 5)))) (.nm 7) [("_law_k", 7)] (.r1 (.var 2)) .no)) .nil) (.cons (.asg (.nm 3) (.lc (.bi "sum" (.cons (.lc (.idx (.var 3) (.bin .Sub (.var 7) (.bin .Mult (.bin .FloorDiv (.var 5) (.var 6)) (.var 8)))) (.nm 8) [("_law_each", 8)] (.r1 (.var 6)) .no) .nil)) (.nm 7) [("_law_k", 7)] (.r1 (.var 2)) .no)) .nil)) .nil)))) (.cons (.ret (.var 3)) .nil)))
theorem sc__law_killed : FnScope n__law_killed ["_law_well_here", "_law_row_here", "_law_slots_here"] (defScope s__law_killed) := ⟨rfl, rfl, rfl, by decide +kernel, rfl, by decide +kernel, by decide +kernel⟩
theorem ch__law_killed : chSs (scOf n__law_killed s__law_killed false) i__law_killed (defBody s__law_killed) = true := by decide +kernel
theorem ba__law_killed : BA "_law_killed" s__law_killed ["_law_well_here", "_law_row_here", "_law_slots_here"] := fun _ _ _ _ _ _ us h => match us, h with | [_, _, _], _ => rfl
def f__law_killed (ds0 ds : List D) : Option (D × List D) := runW 100000 (tabT tb__law_row kt0 gl0) 9 i__law_killed ds0 ds
def fs__law_killed : FS := .w 3 f__law_killed
def tb__law_killed : List (Str × FS) := (("_law_killed", fs__law_killed) :: tb__law_row)
abbrev s_is_whole : Stmt := topS 7
abbrev n_is_whole : List Str := ["value"]
def i_is_whole : ISs := (.cons (.ret (.and (.isi (.var 0) "int") (.one (.not (.isi (.var 0) "bool"))))) .nil)
theorem sc_is_whole : FnScope n_is_whole ["value"] (defScope s_is_whole) := ⟨rfl, rfl, rfl, by decide +kernel, rfl, by decide +kernel, by decide +kernel⟩
theorem ch_is_whole : chSs (scOf n_is_whole s_is_whole false) i_is_whole (defBody s_is_whole) = true := by decide +kernel
theorem ba_is_whole : BA "is_whole" s_is_whole ["value"] := fun _ _ _ _ _ _ us h => match us, h with | [_], _ => rfl
def f_is_whole (ds : List D) : Option D := runP 100000 (tabT tb__law_killed kt0 gl0) 1 i_is_whole ds
def fs_is_whole : FS := .p 1 f_is_whole
def tb_is_whole : List (Str × FS) := (("is_whole", fs_is_whole) :: tb__law_killed)
abbrev s_are_wholes : Stmt := topS 9
abbrev n_are_wholes : List Str := ["value", "part"]
def i_are_wholes : ISs := (.cons (.ret (.and (.isi (.var 0) "tuple") (.one (.gn "all" (.cal "is_whole" (.cons (.var 1) .nil)) (.nm 1) [("part", 1)] (.ex (.var 0)) .no)))) .nil)
theorem sc_are_wholes : FnScope n_are_wholes ["value"] (defScope s_are_wholes) := ⟨rfl, rfl, rfl, by decide +kernel, rfl, by decide +kernel, by decide +kernel⟩
theorem ch_are_wholes : chSs (scOf n_are_wholes s_are_wholes true) i_are_wholes (defBody s_are_wholes) = true := by decide +kernel
theorem ba_are_wholes : BA "are_wholes" s_are_wholes ["value"] := fun _ _ _ _ _ _ us h => match us, h with | [_], _ => rfl
def f_are_wholes (ds : List D) : Option D := runP 100000 (tabT tb_is_whole kt0 gl0) 2 i_are_wholes ds
def fs_are_wholes : FS := .p 1 f_are_wholes
def tb_are_wholes : List (Str × FS) := (("are_wholes", fs_are_wholes) :: tb_is_whole)
abbrev s_is_row : Stmt := topS 21
abbrev n_is_row : List Str := ["value"]
def i_is_row : ISs := (.cons (.ret (.and (.cal "are_wholes" (.cons (.var 0) .nil)) (.one (.cmp2 .LtE .LtE (.glb "LEAST_SLOTS") (.bi "len" (.cons (.var 0) .nil)) (.glb "MOST_SLOTS"))))) .nil)
theorem sc_is_row : FnScope n_is_row ["value"] (defScope s_is_row) := ⟨rfl, rfl, rfl, by decide +kernel, rfl, by decide +kernel, by decide +kernel⟩
theorem ch_is_row : chSs (scOf n_is_row s_is_row false) i_is_row (defBody s_is_row) = true := by decide +kernel
theorem ba_is_row : BA "is_row" s_is_row ["value"] := fun _ _ _ _ _ _ us h => match us, h with | [_], _ => rfl
def f_is_row (ds : List D) : Option D := runP 100000 (tabT tb_are_wholes kt0 gl0) 1 i_is_row ds
def fs_is_row : FS := .p 1 f_is_row
def tb_is_row : List (Str × FS) := (("is_row", fs_is_row) :: tb_are_wholes)
abbrev s_check_row : Stmt := topS 22
abbrev n_check_row : List Str := ["row"]
def i_check_row : ISs := (.cons (.ifs (.not (.cal "is_row" (.cons (.var 0) .nil))) (.cons .nev .nil) .nil) .nil)
theorem sc_check_row : FnScope n_check_row ["row"] (defScope s_check_row) := ⟨rfl, rfl, rfl, by decide +kernel, rfl, by decide +kernel, by decide +kernel⟩
theorem ch_check_row : chSs (scOf n_check_row s_check_row false) i_check_row (defBody s_check_row) = true := by decide +kernel
theorem ba_check_row : BA "check_row" s_check_row ["row"] := fun _ _ _ _ _ _ us h => match us, h with | [_], _ => rfl
def f_check_row (ds : List D) : Option D := runP 100000 (tabT tb_is_row kt0 gl0) 1 i_check_row ds
def fs_check_row : FS := .p 1 f_check_row
def tb_check_row : List (Str × FS) := (("check_row", fs_check_row) :: tb_is_row)
abbrev s_divisors_of : Stmt := topS 11
abbrev n_divisors_of : List Str := ["number", "part"]
def i_divisors_of : ISs := (.cons (.ret (.gn "tuple" (.var 1) (.nm 1) [("part", 1)] (.r2 (.cst (.int 1)) (.bin .Add (.var 0) (.cst (.int 1)))) (.so (.cmp .Eq (.bin .Mod (.var 0) (.var 1)) (.cst (.int 0)))))) .nil)
theorem sc_divisors_of : FnScope n_divisors_of ["number"] (defScope s_divisors_of) := ⟨rfl, rfl, rfl, by decide +kernel, rfl, by decide +kernel, by decide +kernel⟩
theorem ch_divisors_of : chSs (scOf n_divisors_of s_divisors_of true) i_divisors_of (defBody s_divisors_of) = true := by decide +kernel
theorem ba_divisors_of : BA "divisors_of" s_divisors_of ["number"] := fun _ _ _ _ _ _ us h => match us, h with | [_], _ => rfl
def f_divisors_of (ds : List D) : Option D := runP 100000 (tabT tb_check_row kt0 gl0) 2 i_divisors_of ds
def fs_divisors_of : FS := .p 1 f_divisors_of
def tb_divisors_of : List (Str × FS) := (("divisors_of", fs_divisors_of) :: tb_check_row)
abbrev s_divided : Stmt := topS 14
abbrev n_divided : List Str := ["numbers", "divisor", "degree", "parts", "rest", "quotient", "top", "remainder", "share", "low", "place", "part"]
def i_divided : ISs := (.cons (.asg (.nm 2) (.bin .Sub (.bi "len" (.cons (.var 1) .nil)) (.cst (.int 1)))) (.cons (.asg (.nm 3) (.lc (.tup (.cons (.var 10) (.cons (.var 11) .nil))) (.tup (.cons (.nm 10) (.cons (.nm 11) .nil))) [("place", 10), ("part", 11)] (.en (.slc (.var 1) .no (.so (.var 2)))) (.so (.cmp .NotEq (.var 11) (.cst (.int 0)))))) (.cons (.asg (.nm 4) (.bi "list" (.cons (.var 0) .nil))) (.cons (.asg (.nm 5) (.bin .Mult (.lst (.cons (.cst (.int 0)) .nil)) (.bin .Sub (.bi "len" (.cons (.var 4) .nil)) (.var 2)))) (.cons (.fors (.nm 6) (.r3 (.cons (.bin .Sub (.bi "len" (.cons (.var 4) .nil)) (.cst (.int 1))) (.cons (.bin .Sub (.var 2) (.cst (.int 1))) (.cons (.neg (.cst (.int 1))) .nil)))) (.cons (.asg (.nm 8) (.idx (.var 4) (.var 6))) (.cons (.ifs (.cmp .NotEq (.var 8) (.cst (.int 0))) (.cons (.asg (.nm 9) (.bin .Sub (.var 6) (.var 2))) (.cons (.asg (.sub 5 (.var 9)) (.var 8)) (.cons (.fors (.tup (.cons (.nm 10) (.cons (.nm 11) .nil))) (.ex (.var 3)) (.cons (.augS 4 (.bin .Add (.var 9) (.var 10)) .Sub (.bin .Mult (.var 8) (.var 11))) .nil)) .nil))) .nil) .nil))) (.cons (.asg (.nm 7) (.bin .Add (.slc (.var 4) .no (.so (.var 2))) (.bin .Mult (.lst (.cons (.cst (.int 0)) .nil)) (.bin .Sub (.var 2) (.bi "len" (.cons (.var 4) .nil)))))) (.cons (.ret (.tup (.cons (.var 5) (.cons (.var 7) .nil)))) .nil)))))))
theorem sc_divided : FnScope n_divided ["numbers", "divisor"] (defScope s_divided) := ⟨rfl, rfl, rfl, by decide +kernel, rfl, by decide +kernel, by decide +kernel⟩
theorem ch_divided : chSs (scOf n_divided s_divided false) i_divided (defBody s_divided) = true := by decide +kernel
theorem ba_divided : BA "divided" s_divided ["numbers", "divisor"] := fun _ _ _ _ _ _ us h => match us, h with | [_, _], _ => rfl
def f_divided (ds : List D) : Option D := runP 100000 (tabT tb_divisors_of kt0 gl0) 12 i_divided ds
def fs_divided : FS := .p 2 f_divided
def tb_divided : List (Str × FS) := (("divided", fs_divided) :: tb_divisors_of)
abbrev s_remainder_by : Stmt := topS 15
abbrev n_remainder_by : List Str := ["numbers", "divisor", "_", "remainder"]
def i_remainder_by : ISs := (.cons (.asg (.tup (.cons (.nm 2) (.cons (.nm 3) .nil))) (.cal "divided" (.cons (.var 0) (.cons (.var 1) .nil)))) (.cons (.ret (.bi "tuple" (.cons (.var 3) .nil))) .nil))
theorem sc_remainder_by : FnScope n_remainder_by ["numbers", "divisor"] (defScope s_remainder_by) := ⟨rfl, rfl, rfl, by decide +kernel, rfl, by decide +kernel, by decide +kernel⟩
theorem ch_remainder_by : chSs (scOf n_remainder_by s_remainder_by false) i_remainder_by (defBody s_remainder_by) = true := by decide +kernel
theorem ba_remainder_by : BA "remainder_by" s_remainder_by ["numbers", "divisor"] := fun _ _ _ _ _ _ us h => match us, h with | [_, _], _ => rfl
def f_remainder_by (ds : List D) : Option D := runP 100000 (tabT tb_divided kt0 gl0) 4 i_remainder_by ds
def fs_remainder_by : FS := .p 2 f_remainder_by
def tb_remainder_by : List (Str × FS) := (("remainder_by", fs_remainder_by) :: tb_divided)
abbrev s_primes_of : Stmt := topS 12
abbrev n_primes_of : List Str := ["number", "primes", "prime"]
def i_primes_of : ISs := (.cons (.asg (.nm 1) (.lst .nil)) (.cons (.asg (.nm 2) (.cst (.int 2))) (.cons (.whl (.cmp .Gt (.var 0) (.cst (.int 1))) (.cons (.ifs (.cmp .Eq (.bin .Mod (.var 0) (.var 2)) (.cst (.int 0))) (.cons (.app 1 (.var 2)) (.cons (.aug 0 .FloorDiv (.var 2)) .nil)) (.cons (.aug 2 .Add (.cst (.int 1))) .nil)) .nil)) (.cons (.ret (.var 1)) .nil))))
theorem sc_primes_of : FnScope n_primes_of ["number"] (defScope s_primes_of) := ⟨rfl, rfl, rfl, by decide +kernel, rfl, by decide +kernel, by decide +kernel⟩
theorem ch_primes_of : chSs (scOf n_primes_of s_primes_of false) i_primes_of (defBody s_primes_of) = true := by decide +kernel
theorem ba_primes_of : BA "primes_of" s_primes_of ["number"] := fun _ _ _ _ _ _ us h => match us, h with | [_], _ => rfl
def f_primes_of (ds : List D) : Option D := runP 100000 (tabT tb_remainder_by kt0 gl0) 3 i_primes_of ds
def fs_primes_of : FS := .p 1 f_primes_of
def tb_primes_of : List (Str × FS) := (("primes_of", fs_primes_of) :: tb_remainder_by)
abbrev s_stretched : Stmt := topS 16
abbrev n_stretched : List Str := ["numbers", "factor", "result", "place", "number"]
def i_stretched : ISs := (.cons (.asg (.nm 2) (.bin .Mult (.lst (.cons (.cst (.int 0)) .nil)) (.bin .Add (.bin .Mult (.bin .Sub (.bi "len" (.cons (.var 0) .nil)) (.cst (.int 1))) (.var 1)) (.cst (.int 1))))) (.cons (.fors (.tup (.cons (.nm 3) (.cons (.nm 4) .nil))) (.en (.var 0)) (.cons (.asg (.sub 2 (.bin .Mult (.var 3) (.var 1))) (.var 4)) .nil)) (.cons (.ret (.var 2)) .nil)))
theorem sc_stretched : FnScope n_stretched ["numbers", "factor"] (defScope s_stretched) := ⟨rfl, rfl, rfl, by decide +kernel, rfl, by decide +kernel, by decide +kernel⟩
theorem ch_stretched : chSs (scOf n_stretched s_stretched false) i_stretched (defBody s_stretched) = true := by decide +kernel
theorem ba_stretched : BA "stretched" s_stretched ["numbers", "factor"] := fun _ _ _ _ _ _ us h => match us, h with | [_, _], _ => rfl
def f_stretched (ds : List D) : Option D := runP 100000 (tabT tb_primes_of kt0 gl0) 5 i_stretched ds
def fs_stretched : FS := .p 2 f_stretched
def tb_stretched : List (Str × FS) := (("stretched", fs_stretched) :: tb_primes_of)
abbrev s_polynomial_of : Stmt := topS 17
abbrev n_polynomial_of : List Str := ["order", "result", "done", "prime", "wider", "_"]
def i_polynomial_of : ISs := (.cons (.asg (.nm 1) (.lst (.cons (.neg (.cst (.int 1))) (.cons (.cst (.int 1)) .nil)))) (.cons (.asg (.nm 2) (.cst (.int 1))) (.cons (.fors (.nm 3) (.ex (.cal "primes_of" (.cons (.var 0) .nil))) (.cons (.asg (.nm 4) (.cal "stretched" (.cons (.var 1) (.cons (.var 3) .nil)))) (.cons (.ifs (.cmp .Eq (.bin .Mod (.var 2) (.var 3)) (.cst (.int 0))) (.cons (.asg (.nm 1) (.var 4)) .nil) (.cons (.asg (.tup (.cons (.nm 1) (.cons (.nm 5) .nil))) (.cal "divided" (.cons (.var 4) (.cons (.var 1) .nil)))) .nil)) (.cons (.aug 2 .Mult (.var 3)) .nil)))) (.cons (.ret (.var 1)) .nil))))
theorem sc_polynomial_of : FnScope n_polynomial_of ["order"] (defScope s_polynomial_of) := ⟨rfl, rfl, rfl, by decide +kernel, rfl, by decide +kernel, by decide +kernel⟩
theorem ch_polynomial_of : chSs (scOf n_polynomial_of s_polynomial_of false) i_polynomial_of (defBody s_polynomial_of) = true := by decide +kernel
theorem ba_polynomial_of : BA "polynomial_of" s_polynomial_of ["order"] := fun _ _ _ _ _ _ us h => match us, h with | [_], _ => rfl
def f_polynomial_of (ds : List D) : Option D := runP 100000 (tabT tb_stretched kt0 gl0) 6 i_polynomial_of ds
def fs_polynomial_of : FS := .p 1 f_polynomial_of
def tb_polynomial_of : List (Str × FS) := (("polynomial_of", fs_polynomial_of) :: tb_stretched)
abbrev s_has_order : Stmt := topS 29
abbrev n_has_order : List Str := ["row", "order", "number"]
def i_has_order : ISs := (.cons (.ret (.gn "any" (.cmp .NotEq (.var 2) (.cst (.int 0))) (.nm 2) [("number", 2)] (.ex (.cal "remainder_by" (.cons (.var 0) (.cons (.cal "polynomial_of" (.cons (.var 1) .nil)) .nil)))) .no)) .nil)
theorem sc_has_order : FnScope n_has_order ["row", "order"] (defScope s_has_order) := ⟨rfl, rfl, rfl, by decide +kernel, rfl, by decide +kernel, by decide +kernel⟩
theorem ch_has_order : chSs (scOf n_has_order s_has_order true) i_has_order (defBody s_has_order) = true := by decide +kernel
theorem ba_has_order : BA "has_order" s_has_order ["row", "order"] := fun _ _ _ _ _ _ us h => match us, h with | [_, _], _ => rfl
def f_has_order (ds : List D) : Option D := runP 100000 (tabT tb_polynomial_of kt0 gl0) 3 i_has_order ds
def fs_has_order : FS := .p 2 f_has_order
def tb_has_order : List (Str × FS) := (("has_order", fs_has_order) :: tb_polynomial_of)
abbrev s_orders_there : Stmt := topS 31
abbrev n_orders_there : List Str := ["row", "order"]
def i_orders_there : ISs := (.cons (.exp (.cal "check_row" (.cons (.var 0) .nil))) (.cons (.ret (.gn "tuple" (.var 1) (.nm 1) [("order", 1)] (.ex (.cal "divisors_of" (.cons (.bi "len" (.cons (.var 0) .nil)) .nil))) (.so (.cal "has_order" (.cons (.var 0) (.cons (.var 1) .nil)))))) .nil))
theorem sc_orders_there : FnScope n_orders_there ["row"] (defScope s_orders_there) := ⟨rfl, rfl, rfl, by decide +kernel, rfl, by decide +kernel, by decide +kernel⟩
theorem ch_orders_there : chSs (scOf n_orders_there s_orders_there true) i_orders_there (defBody s_orders_there) = true := by decide +kernel
theorem ba_orders_there : BA "orders_there" s_orders_there ["row"] := fun _ _ _ _ _ _ us h => match us, h with | [_], _ => rfl
theorem ka_orders_there_0 : KA "orders_there" s_orders_there ["row"] 0 ["row"] [0] := fun _ _ _ _ _ _ us ws h h2 => match us, ws, h, h2 with | [], [_], _, _ => rfl
def f_orders_there (ds : List D) : Option D := runP 100000 (tabT tb_has_order kt0 gl0) 2 i_orders_there ds
def fs_orders_there : FS := .p 1 f_orders_there
def tb_orders_there : List (Str × FS) := (("orders_there", fs_orders_there) :: tb_has_order)
abbrev s_orders_gone : Stmt := topS 32
abbrev n_orders_gone : List Str := ["row", "order"]
def i_orders_gone : ISs := (.cons (.exp (.cal "check_row" (.cons (.var 0) .nil))) (.cons (.ret (.gn "tuple" (.var 1) (.nm 1) [("order", 1)] (.ex (.cal "divisors_of" (.cons (.bi "len" (.cons (.var 0) .nil)) .nil))) (.so (.not (.cal "has_order" (.cons (.var 0) (.cons (.var 1) .nil))))))) .nil))
theorem sc_orders_gone : FnScope n_orders_gone ["row"] (defScope s_orders_gone) := ⟨rfl, rfl, rfl, by decide +kernel, rfl, by decide +kernel, by decide +kernel⟩
theorem ch_orders_gone : chSs (scOf n_orders_gone s_orders_gone true) i_orders_gone (defBody s_orders_gone) = true := by decide +kernel
theorem ba_orders_gone : BA "orders_gone" s_orders_gone ["row"] := fun _ _ _ _ _ _ us h => match us, h with | [_], _ => rfl
theorem ka_orders_gone_0 : KA "orders_gone" s_orders_gone ["row"] 0 ["row"] [0] := fun _ _ _ _ _ _ us ws h h2 => match us, ws, h, h2 with | [], [_], _, _ => rfl
def f_orders_gone (ds : List D) : Option D := runP 100000 (tabT tb_orders_there kt0 gl0) 2 i_orders_gone ds
def fs_orders_gone : FS := .p 1 f_orders_gone
def tb_orders_gone : List (Str × FS) := (("orders_gone", fs_orders_gone) :: tb_orders_there)
abbrev s_check_number : Stmt := topS 10
abbrev n_check_number : List Str := ["given"]
def i_check_number : ISs := (.cons (.ifs (.not (.cal "is_whole" (.cons (.var 0) .nil))) (.cons .nev .nil) .nil) .nil)
theorem sc_check_number : FnScope n_check_number ["given"] (defScope s_check_number) := ⟨rfl, rfl, rfl, by decide +kernel, rfl, by decide +kernel, by decide +kernel⟩
theorem ch_check_number : chSs (scOf n_check_number s_check_number false) i_check_number (defBody s_check_number) = true := by decide +kernel
theorem ba_check_number : BA "check_number" s_check_number ["given"] := fun _ _ _ _ _ _ us h => match us, h with | [_], _ => rfl
def f_check_number (ds : List D) : Option D := runP 100000 (tabT tb_orders_gone kt0 gl0) 1 i_check_number ds
def fs_check_number : FS := .p 1 f_check_number
def tb_check_number : List (Str × FS) := (("check_number", fs_check_number) :: tb_orders_gone)
abbrev s_turned_row : Stmt := topS 24
abbrev n_turned_row : List Str := ["row", "turn", "first"]
def i_turned_row : ISs := (.cons (.exp (.cal "check_row" (.cons (.var 0) .nil))) (.cons (.exp (.cal "check_number" (.cons (.var 1) .nil))) (.cons (.asg (.nm 2) (.bin .Mod (.neg (.var 1)) (.bi "len" (.cons (.var 0) .nil)))) (.cons (.ret (.bin .Add (.slc (.var 0) (.so (.var 2)) .no) (.slc (.var 0) .no (.so (.var 2))))) .nil))))
theorem sc_turned_row : FnScope n_turned_row ["row", "turn"] (defScope s_turned_row) := ⟨rfl, rfl, rfl, by decide +kernel, rfl, by decide +kernel, by decide +kernel⟩
theorem ch_turned_row : chSs (scOf n_turned_row s_turned_row false) i_turned_row (defBody s_turned_row) = true := by decide +kernel
theorem ba_turned_row : BA "turned_row" s_turned_row ["row", "turn"] := fun _ _ _ _ _ _ us h => match us, h with | [_, _], _ => rfl
def f_turned_row (ds : List D) : Option D := runP 100000 (tabT tb_check_number kt0 gl0) 3 i_turned_row ds
def fs_turned_row : FS := .p 2 f_turned_row
def tb_turned_row : List (Str × FS) := (("turned_row", fs_turned_row) :: tb_check_number)
abbrev s_mirrored_row : Stmt := topS 25
abbrev n_mirrored_row : List Str := ["row"]
def i_mirrored_row : ISs := (.cons (.exp (.cal "check_row" (.cons (.var 0) .nil))) (.cons (.ret (.bin .Add (.slc (.var 0) .no (.so (.cst (.int 1)))) (.slb (.var 0) .no (.so (.cst (.int 0)))))) .nil))
theorem sc_mirrored_row : FnScope n_mirrored_row ["row"] (defScope s_mirrored_row) := ⟨rfl, rfl, rfl, by decide +kernel, rfl, by decide +kernel, by decide +kernel⟩
theorem ch_mirrored_row : chSs (scOf n_mirrored_row s_mirrored_row false) i_mirrored_row (defBody s_mirrored_row) = true := by decide +kernel
theorem ba_mirrored_row : BA "mirrored_row" s_mirrored_row ["row"] := fun _ _ _ _ _ _ us h => match us, h with | [_], _ => rfl
def f_mirrored_row (ds : List D) : Option D := runP 100000 (tabT tb_turned_row kt0 gl0) 1 i_mirrored_row ds
def fs_mirrored_row : FS := .p 1 f_mirrored_row
def tb_mirrored_row : List (Str × FS) := (("mirrored_row", fs_mirrored_row) :: tb_turned_row)
abbrev s_scaled_row : Stmt := topS 26
abbrev n_scaled_row : List Str := ["row", "many", "number"]
def i_scaled_row : ISs := (.cons (.exp (.cal "check_row" (.cons (.var 0) .nil))) (.cons (.exp (.cal "check_number" (.cons (.var 1) .nil))) (.cons (.ret (.gn "tuple" (.bin .Mult (.var 2) (.var 1)) (.nm 2) [("number", 2)] (.ex (.var 0)) .no)) .nil)))
theorem sc_scaled_row : FnScope n_scaled_row ["row", "many"] (defScope s_scaled_row) := ⟨rfl, rfl, rfl, by decide +kernel, rfl, by decide +kernel, by decide +kernel⟩
theorem ch_scaled_row : chSs (scOf n_scaled_row s_scaled_row true) i_scaled_row (defBody s_scaled_row) = true := by decide +kernel
theorem ba_scaled_row : BA "scaled_row" s_scaled_row ["row", "many"] := fun _ _ _ _ _ _ us h => match us, h with | [_, _], _ => rfl
def f_scaled_row (ds : List D) : Option D := runP 100000 (tabT tb_mirrored_row kt0 gl0) 3 i_scaled_row ds
def fs_scaled_row : FS := .p 2 f_scaled_row
def tb_scaled_row : List (Str × FS) := (("scaled_row", fs_scaled_row) :: tb_mirrored_row)
abbrev s_is_within : Stmt := topS 8
abbrev n_is_within : List Str := ["value", "least", "greatest"]
def i_is_within : ISs := (.cons (.ret (.and (.cal "is_whole" (.cons (.var 0) .nil)) (.one (.cmp2 .LtE .LtE (.var 1) (.var 0) (.var 2))))) .nil)
theorem sc_is_within : FnScope n_is_within ["value", "least", "greatest"] (defScope s_is_within) := ⟨rfl, rfl, rfl, by decide +kernel, rfl, by decide +kernel, by decide +kernel⟩
theorem ch_is_within : chSs (scOf n_is_within s_is_within false) i_is_within (defBody s_is_within) = true := by decide +kernel
theorem ba_is_within : BA "is_within" s_is_within ["value", "least", "greatest"] := fun _ _ _ _ _ _ us h => match us, h with | [_, _, _], _ => rfl
def f_is_within (ds : List D) : Option D := runP 100000 (tabT tb_scaled_row kt0 gl0) 3 i_is_within ds
def fs_is_within : FS := .p 3 f_is_within
def tb_is_within : List (Str × FS) := (("is_within", fs_is_within) :: tb_scaled_row)
abbrev s_check_slots : Stmt := topS 23
abbrev n_check_slots : List Str := ["slots"]
def i_check_slots : ISs := (.cons (.ifs (.not (.cal "is_within" (.cons (.var 0) (.cons (.glb "LEAST_SLOTS") (.cons (.glb "MOST_SLOTS") .nil))))) (.cons .nev .nil) .nil) .nil)
theorem sc_check_slots : FnScope n_check_slots ["slots"] (defScope s_check_slots) := ⟨rfl, rfl, rfl, by decide +kernel, rfl, by decide +kernel, by decide +kernel⟩
theorem ch_check_slots : chSs (scOf n_check_slots s_check_slots false) i_check_slots (defBody s_check_slots) = true := by decide +kernel
theorem ba_check_slots : BA "check_slots" s_check_slots ["slots"] := fun _ _ _ _ _ _ us h => match us, h with | [_], _ => rfl
def f_check_slots (ds : List D) : Option D := runP 100000 (tabT tb_is_within kt0 gl0) 1 i_check_slots ds
def fs_check_slots : FS := .p 1 f_check_slots
def tb_check_slots : List (Str × FS) := (("check_slots", fs_check_slots) :: tb_is_within)
abbrev s_order_of : Stmt := topS 28
abbrev n_order_of : List Str := ["slots", "harmonic"]
def i_order_of : ISs := (.cons (.exp (.cal "check_slots" (.cons (.var 0) .nil))) (.cons (.exp (.cal "check_number" (.cons (.var 1) .nil))) (.cons (.ret (.bin .FloorDiv (.var 0) (.cal "gcd" (.cons (.var 1) (.cons (.var 0) .nil))))) .nil)))
theorem sc_order_of : FnScope n_order_of ["slots", "harmonic"] (defScope s_order_of) := ⟨rfl, rfl, rfl, by decide +kernel, rfl, by decide +kernel, by decide +kernel⟩
theorem ch_order_of : chSs (scOf n_order_of s_order_of false) i_order_of (defBody s_order_of) = true := by decide +kernel
theorem ba_order_of : BA "order_of" s_order_of ["slots", "harmonic"] := fun _ _ _ _ _ _ us h => match us, h with | [_, _], _ => rfl
def f_order_of (ds : List D) : Option D := runP 100000 (tabT tb_check_slots kt0 gl0) 2 i_order_of ds
def fs_order_of : FS := .p 2 f_order_of
def tb_order_of : List (Str × FS) := (("order_of", fs_order_of) :: tb_check_slots)
abbrev s_is_there : Stmt := topS 30
abbrev n_is_there : List Str := ["row", "harmonic"]
def i_is_there : ISs := (.cons (.exp (.cal "check_row" (.cons (.var 0) .nil))) (.cons (.exp (.cal "check_number" (.cons (.var 1) .nil))) (.cons (.ret (.cal "has_order" (.cons (.var 0) (.cons (.cal "order_of" (.cons (.bi "len" (.cons (.var 0) .nil)) (.cons (.var 1) .nil))) .nil)))) .nil)))
theorem sc_is_there : FnScope n_is_there ["row", "harmonic"] (defScope s_is_there) := ⟨rfl, rfl, rfl, by decide +kernel, rfl, by decide +kernel, by decide +kernel⟩
theorem ch_is_there : chSs (scOf n_is_there s_is_there false) i_is_there (defBody s_is_there) = true := by decide +kernel
theorem ba_is_there : BA "is_there" s_is_there ["row", "harmonic"] := fun _ _ _ _ _ _ us h => match us, h with | [_, _], _ => rfl
def f_is_there (ds : List D) : Option D := runP 100000 (tabT tb_order_of kt0 gl0) 2 i_is_there ds
def fs_is_there : FS := .p 2 f_is_there
def tb_is_there : List (Str × FS) := (("is_there", fs_is_there) :: tb_order_of)
abbrev s__law_led : Stmt := topS 43
abbrev n__law_led : List Str := ["_law_numbers", "_law_step", "_law_order", "_law_found", "_law_k", "_law_place"]
def i__law_led : ISs := (.cons (.asg (.nm 3) (.bin .Mult (.lst (.cons (.cst (.int 0)) .nil)) (.var 2))) (.cons (.fors (.nm 4) (.r1 (.bi "len" (.cons (.var 0) .nil))) (.cons (.asg (.nm 5) (.bin .Mod (.bi "int" (.cons (.bin .Mult (.var 4) (.var 1)) .nil)) (.var 2))) (.cons (.asg (.sub 3 (.var 5)) (.bin .Add (.idx (.var 3) (.var 5)) (.idx (.var 0) (.var 4)))) .nil))) (.cons (.ret (.var 3)) .nil)))
theorem sc__law_led : FnScope n__law_led ["_law_numbers", "_law_step", "_law_order"] (defScope s__law_led) := ⟨rfl, rfl, rfl, by decide +kernel, rfl, by decide +kernel, by decide +kernel⟩
theorem ch__law_led : chSs (scOf n__law_led s__law_led false) i__law_led (defBody s__law_led) = true := by decide +kernel
theorem ba__law_led : BA "_law_led" s__law_led ["_law_numbers", "_law_step", "_law_order"] := fun _ _ _ _ _ _ us h => match us, h with | [_, _, _], _ => rfl
def f__law_led (ds : List D) : Option D := runP 100000 (tabT tb_is_there kt0 gl0) 6 i__law_led ds
def fs__law_led : FS := .p 3 f__law_led
def tb__law_led : List (Str × FS) := (("_law_led", fs__law_led) :: tb_is_there)
abbrev s__law_primes : Stmt := topS 40
abbrev n__law_primes : List Str := ["_law_number_here", "_law_k", "_law_found", "_law_rest"]
def i__law_primes : ISs := (.cons (.asgs [2, 3] (.cons (.lst .nil) (.cons (.var 0) .nil))) (.cons (.fors (.nm 1) (.r2 (.cst (.int 2)) (.bin .Add (.var 0) (.cst (.int 1)))) (.cons (.ifs (.cmp .Eq (.bin .Mod (.bi "int" (.cons (.var 3) .nil)) (.var 1)) (.cst (.int 0))) (.cons (.app 2 (.var 1)) (.cons (.whl (.cmp .Eq (.bin .Mod (.bi "int" (.cons (.var 3) .nil)) (.var 1)) (.cst (.int 0))) (.cons (.asg (.nm 3) (.bin .FloorDiv (.var 3) (.var 1))) .nil)) .nil)) .nil) .nil)) (.cons (.ret (.var 2)) .nil)))
theorem sc__law_primes : FnScope n__law_primes ["_law_number_here"] (defScope s__law_primes) := ⟨rfl, rfl, rfl, by decide +kernel, rfl, by decide +kernel, by decide +kernel⟩
theorem ch__law_primes : chSs (scOf n__law_primes s__law_primes false) i__law_primes (defBody s__law_primes) = true := by decide +kernel
theorem ba__law_primes : BA "_law_primes" s__law_primes ["_law_number_here"] := fun _ _ _ _ _ _ us h => match us, h with | [_], _ => rfl
def f__law_primes (ds : List D) : Option D := runP 100000 (tabT tb__law_led kt0 gl0) 4 i__law_primes ds
def fs__law_primes : FS := .p 1 f__law_primes
def tb__law_primes : List (Str × FS) := (("_law_primes", fs__law_primes) :: tb__law_led)
abbrev s__law_is_nothing : Stmt := topS 44
abbrev n__law_is_nothing : List Str := ["_law_numbers", "_law_order", "_law_row_here", "_law_prime", "_law_k"]
def i__law_is_nothing : ISs := (.cons (.asg (.nm 2) (.cal "_law_led" (.cons (.var 0) (.cons (.cst (.int 1)) (.cons (.var 1) .nil))))) (.cons (.fors (.nm 3) (.ex (.cal "_law_primes" (.cons (.var 1) .nil))) (.cons (.asg (.nm 2) (.lc (.bin .Sub (.idx (.var 2) (.var 4)) (.idx (.var 2) (.bin .Sub (.var 4) (.bin .FloorDiv (.var 1) (.var 3))))) (.nm 4) [("_law_k", 4)] (.r1 (.var 1)) .no)) .nil)) (.cons (.ret (.cmp .Eq (.var 2) (.bin .Mult (.lst (.cons (.cst (.int 0)) .nil)) (.var 1)))) .nil)))
theorem sc__law_is_nothing : FnScope n__law_is_nothing ["_law_numbers", "_law_order"] (defScope s__law_is_nothing) := ⟨rfl, rfl, rfl, by decide +kernel, rfl, by decide +kernel, by decide +kernel⟩
theorem ch__law_is_nothing : chSs (scOf n__law_is_nothing s__law_is_nothing false) i__law_is_nothing (defBody s__law_is_nothing) = true := by decide +kernel
theorem ba__law_is_nothing : BA "_law_is_nothing" s__law_is_nothing ["_law_numbers", "_law_order"] := fun _ _ _ _ _ _ us h => match us, h with | [_, _], _ => rfl
def f__law_is_nothing (ds : List D) : Option D := runP 100000 (tabT tb__law_primes kt0 gl0) 5 i__law_is_nothing ds
def fs__law_is_nothing : FS := .p 2 f__law_is_nothing
def tb__law_is_nothing : List (Str × FS) := (("_law_is_nothing", fs__law_is_nothing) :: tb__law_primes)
abbrev s__law_right : Stmt := topS 46
abbrev n__law_right : List Str := ["_law_well_here", "_law_slots_here", "_law_row_here", "_law_parts_here", "_law_due", "_law_turn", "_law_turned", "_law_part", "_law_there", "_law_gone", "_law_harmonic"]
def i__law_right : ISs := (.cons (.asg (.nm 1) (.cal "_law_slots" (.cons (.var 0) .nil))) (.cons (.asg (.nm 2) (.ite (.cmp .Gt (.cal "_law_draw" (.cons (.var 0) (.cons (.cst (.int 12)) .nil))) (.cst (.int 0))) (.cal "_law_row" (.cons (.var 0) (.cons (.var 1) .nil))) (.bin .Mult (.lst (.cons (.cst (.int 0)) .nil)) (.var 1)))) (.cons (.asg (.nm 2) (.bi "tuple" (.cons (.cal "_law_killed" (.cons (.var 0) (.cons (.var 2) (.cons (.var 1) .nil)))) .nil))) (.cons (.asgs [8, 9] (.cons (.cal "orders_there" (.cons (.var 2) .nil)) (.cons (.cal "orders_gone" (.cons (.var 2) .nil)) .nil))) (.cons (.asg (.nm 3) (.cal "_law_parts" (.cons (.var 1) .nil))) (.cons (.asg (.nm 4) (.lc (.var 7) (.nm 7) [("_law_part", 7)] (.ex (.var 3)) (.so (.not (.cal "_law_is_nothing" (.cons (.var 2) (.cons (.var 7) .nil))))))) (.cons (.ifs (.cmp .NotEq (.bi "repr" (.cons (.lst (.cons (.var 8) (.cons (.var 9) .nil))) .nil)) (.bi "repr" (.cons (.lst (.cons (.bi "tuple" (.cons (.var 4) .nil)) (.cons (.bi "tuple" (.cons (.lc (.var 7) (.nm 7) [("_law_part", 7)] (.ex (.var 3)) (.so (.cmp .NotIn (.var 7) (.var 4)))) .nil)) .nil))) .nil))) (.cons (.ret (.cst (.bool false))) .nil) .nil) (.cons (.ifs (.and (.cmp .Eq (.bi "sum" (.cons (.var 2) .nil)) (.cst (.int 0))) (.one (.cmp .NotIn (.cst (.int 1)) (.var 9)))) (.cons (.ret (.cst (.bool false))) .nil) .nil) (.cons (.asg (.nm 5) (.cal "_law_number" (.cons (.var 0) .nil))) (.cons (.fors (.nm 6) (.ex (.tup (.cons (.cal "turned_row" (.cons (.var 2) (.cons (.var 5) .nil))) (.cons (.cal "mirrored_row" (.cons (.var 2) .nil)) (.cons (.cal "scaled_row" (.cons (.var 2) (.cons (.neg (.cst (.int 3))) .nil))) .nil))))) (.cons (.ifs (.or (.cmp .NotEq (.bi "repr" (.cons (.calk "orders_there" 0 (.cons (.var 6) .nil) ["row"]) .nil)) (.bi "repr" (.cons (.var 8) .nil))) (.one (.cmp .NotEq (.bi "repr" (.cons (.calk "orders_gone" 0 (.cons (.var 6) .nil) ["row"]) .nil)) (.bi "repr" (.cons (.var 9) .nil))))) (.cons (.ret (.cst (.bool false))) .nil) .nil) .nil)) (.cons (.fors (.nm 7) (.ex (.var 3)) (.cons (.asg (.nm 10) (.bin .Mult (.bin .FloorDiv (.var 1) (.var 7)) (.bin .Add (.cst (.int 1)) (.bin .Mult (.var 7) (.bin .Sub (.cal "_law_draw" (.cons (.var 0) (.cons (.cst (.int 7)) .nil))) (.cst (.int 3))))))) (.cons (.ifs (.or (.cmp .NotEq (.cal "order_of" (.cons (.var 1) (.cons (.var 10) .nil))) (.var 7)) (.one (.cmp .NotEq (.bi "repr" (.cons (.cal "is_there" (.cons (.var 2) (.cons (.var 10) .nil))) .nil)) (.bi "repr" (.cons (.cmp .In (.var 7) (.var 4)) .nil))))) (.cons (.ret (.cst (.bool false))) .nil) .nil) .nil))) (.cons (.fors (.nm 5) (.r1 (.cst (.int 4))) (.cons (.asg (.nm 10) (.cal "_law_number" (.cons (.var 0) .nil))) (.cons (.ifs (.cmp .NotEq (.cmp .In (.cal "order_of" (.cons (.var 1) (.cons (.var 10) .nil))) (.var 8)) (.cal "is_there" (.cons (.var 2) (.cons (.var 10) .nil)))) (.cons (.ret (.cst (.bool false))) .nil) .nil) .nil))) (.cons (.ret (.cst (.bool true))) .nil)))))))))))))
theorem sc__law_right : FnScope n__law_right ["_law_well_here"] (defScope s__law_right) := ⟨rfl, rfl, rfl, by decide +kernel, rfl, by decide +kernel, by decide +kernel⟩
theorem ch__law_right : chSs (scOf n__law_right s__law_right false) i__law_right (defBody s__law_right) = true := by decide +kernel
theorem ba__law_right : BA "_law_right" s__law_right ["_law_well_here"] := fun _ _ _ _ _ _ us h => match us, h with | [_], _ => rfl
def f__law_right (ds0 ds : List D) : Option (D × List D) := runW 100000 (tabT tb__law_is_nothing kt0 gl0) 11 i__law_right ds0 ds
def fs__law_right : FS := .w 1 f__law_right
def tb__law_right : List (Str × FS) := (("_law_right", fs__law_right) :: tb__law_is_nothing)
abbrev s__law_well : Stmt := topS 34
abbrev n__law_well : List Str := ["_law_script", "_law_spot", "_law_mix", "_law_cell", "_law_own", "_law_rest"]
def i__law_well : ISs := (.cons (.asg (.nm 2) (.bin .Add (.cst (.int 70001)) (.bin .Mult (.cst (.int 3001)) (.var 1)))) (.cons (.fors (.nm 3) (.ex (.slc (.var 0) .no (.so (.cst (.int 63))))) (.cons (.asg (.nm 2) (.bin .Mod (.bi "int" (.cons (.bin .Add (.bin .Add (.bin .Mult (.var 2) (.cst (.int 52021))) (.bin .Mod (.bi "int" (.cons (.var 3) .nil)) (.cst (.int 2147483587)))) (.cst (.int 101))) .nil)) (.cst (.int 2147483587)))) .nil)) (.cons (.asg (.nm 4) (.ite (.cmp .Lt (.var 1) (.bi "len" (.cons (.var 0) .nil))) (.bi "int" (.cons (.idx (.var 0) (.var 1)) .nil)) (.var 2))) (.cons (.asg (.nm 5) (.ite (.or (.cmp .Lt (.var 4) (.cst (.int 0))) (.one (.cmp .GtE (.var 4) (.bin .Pow (.cst (.int 10)) (.cst (.int 18)))))) (.bi "abs" (.cons (.var 4) .nil)) (.cst (.int 0)))) (.cons (.retM (.lst (.cons (.var 5) (.cons (.bin .Mod (.bi "int" (.cons (.bin .Add (.bin .Add (.bin .Mult (.var 2) (.cst (.int 30323))) (.bin .Mult (.bin .Mod (.bi "int" (.cons (.var 4) .nil)) (.cst (.int 2147483587))) (.cst (.int 9001)))) (.cst (.int 5))) .nil)) (.cst (.int 2147483587))) (.cons (.cst (.int 0)) .nil))))) .nil)))))
theorem sc__law_well : FnScope n__law_well ["_law_script", "_law_spot"] (defScope s__law_well) := ⟨rfl, rfl, rfl, by decide +kernel, rfl, by decide +kernel, by decide +kernel⟩
theorem ch__law_well : chSs (scOf n__law_well s__law_well false) i__law_well (defBody s__law_well) = true := by decide +kernel
theorem ba__law_well : BA "_law_well" s__law_well ["_law_script", "_law_spot"] := fun _ _ _ _ _ _ us h => match us, h with | [_, _], _ => rfl
def f__law_well (ds : List D) : Option (List D) := runM 100000 (tabT tb__law_right kt0 gl0) 6 i__law_well ds
def fs__law_well : FS := .m 2 f__law_well
def tb__law_well : List (Str × FS) := (("_law_well", fs__law_well) :: tb__law_right)
abbrev s_law : Stmt := topS 47
abbrev n_law : List Str := ["_law_script", "_law_spot"]
def i_law : ISs := (.cons (.fors (.nm 1) (.r1 (.cal "_law_rounds" (.cons (.var 0) .nil))) (.cons (.ifs (.not (.cal "_law_right" (.cons (.cal "_law_well" (.cons (.var 0) (.cons (.var 1) .nil))) .nil))) (.cons (.ret (.cst (.bool false))) .nil) .nil) .nil)) (.cons (.ret (.cst (.bool true))) .nil))
theorem sc_law : FnScope n_law ["_law_script"] (defScope s_law) := ⟨rfl, rfl, rfl, by decide +kernel, rfl, by decide +kernel, by decide +kernel⟩
theorem ch_law : chSs (scOf n_law s_law false) i_law (defBody s_law) = true := by decide +kernel
theorem ba_law : BA "law" s_law ["_law_script"] := fun _ _ _ _ _ _ us h => match us, h with | [_], _ => rfl
def f_law (ds : List D) : Option D := runP 100000 (tabT tb__law_well kt0 gl0) 2 i_law ds
def fs_law : FS := .p 1 f_law
section
variable {P : Program} {w : World} {K : PySem.W.Frag} {mg : Str → Option Value}
theorem all_mk {fa : Addr} {h : Heap} {cs0 : List (Addr × Addr)} (KX : K.In h) (hfa : mg "law" = some (.ref fa))
    (g__law_rounds : Got K mg "_law_rounds" s__law_rounds)
    (g__law_draw : Got K mg "_law_draw" s__law_draw)
    (g__law_pick : Got K mg "_law_pick" s__law_pick)
    (g__law_slots : Got K mg "_law_slots" s__law_slots)
    (g__law_parts : Got K mg "_law_parts" s__law_parts)
    (g__law_number : Got K mg "_law_number" s__law_number)
    (g__law_row : Got K mg "_law_row" s__law_row)
    (g__law_killed : Got K mg "_law_killed" s__law_killed)
    (g_is_whole : Got K mg "is_whole" s_is_whole)
    (g_are_wholes : Got K mg "are_wholes" s_are_wholes)
    (g_is_row : Got K mg "is_row" s_is_row)
    (g_check_row : Got K mg "check_row" s_check_row)
    (g_divisors_of : Got K mg "divisors_of" s_divisors_of)
    (g_divided : Got K mg "divided" s_divided)
    (g_remainder_by : Got K mg "remainder_by" s_remainder_by)
    (g_primes_of : Got K mg "primes_of" s_primes_of)
    (g_stretched : Got K mg "stretched" s_stretched)
    (g_polynomial_of : Got K mg "polynomial_of" s_polynomial_of)
    (g_has_order : Got K mg "has_order" s_has_order)
    (g_orders_there : Got K mg "orders_there" s_orders_there)
    (g_orders_gone : Got K mg "orders_gone" s_orders_gone)
    (g_check_number : Got K mg "check_number" s_check_number)
    (g_turned_row : Got K mg "turned_row" s_turned_row)
    (g_mirrored_row : Got K mg "mirrored_row" s_mirrored_row)
    (g_scaled_row : Got K mg "scaled_row" s_scaled_row)
    (g_is_within : Got K mg "is_within" s_is_within)
    (g_check_slots : Got K mg "check_slots" s_check_slots)
    (g_order_of : Got K mg "order_of" s_order_of)
    (g_is_there : Got K mg "is_there" s_is_there)
    (g__law_led : Got K mg "_law_led" s__law_led)
    (g__law_primes : Got K mg "_law_primes" s__law_primes)
    (g__law_is_nothing : Got K mg "_law_is_nothing" s__law_is_nothing)
    (g__law_right : Got K mg "_law_right" s__law_right)
    (g__law_well : Got K mg "_law_well" s__law_well)
    (g_law : Got K mg "law" s_law)
    (z_len : mg "len" = none) (z_abs : mg "abs" = none) (z_int : mg "int" = none) (z_max : mg "max" = none) (z_min : mg "min" = none) (z_divmod : mg "divmod" = none) (z_tuple : mg "tuple" = none) (z_list : mg "list" = none) (z_sum : mg "sum" = none) (z_repr : mg "repr" = none) (z_all : mg "all" = none) (z_any : mg "any" = none) (z_sorted : mg "sorted" = none) (z_range : mg "range" = none) (z_enumerate : mg "enumerate" = none) (z_zip : mg "zip" = none) (z_isinstance : mg "isinstance" = none) (z_bool : mg "bool" = none) (z_str : mg "str" = none) (z_dict : mg "dict" = none) (z_float : mg "float" = none)
    (c_LEAST_SLOTS : ∃ t, mg "LEAST_SLOTS" = some (.int (2) t))
    (c_MOST_SLOTS : ∃ t, mg "MOST_SLOTS" = some (.int (60) t))
    (m_gcd : mg "gcd" = some (.builtin "math.gcd")) (tx : TabsX h mg ["are_wholes", "divisors_of", "has_order", "orders_there", "orders_gone", "scaled_row"] cs0) :
    ∃ fd : FuncData, (∀ (s : Shared) (u : Value), BindsTo s fd ⟨[u], []⟩ [("_law_script", u)]) ∧ ∀ base : Heap, (∀ p ∈ cs0, GxR.TabB base mg p.1 p.2) → FnG P w K mg base 84 fa fd ["_law_script"] (SpP K (cs0.map (·.2)) 1 f_law) := by
  obtain ⟨p0, cs1, rfl, t0, tx⟩ := tx.uncons
  obtain ⟨p1, cs2, rfl, t1, tx⟩ := tx.uncons
  obtain ⟨p2, cs3, rfl, t2, tx⟩ := tx.uncons
  obtain ⟨p3, cs4, rfl, t3, tx⟩ := tx.uncons
  obtain ⟨p4, cs5, rfl, t4, tx⟩ := tx.uncons
  obtain ⟨p5, cs6, rfl, t5, tx⟩ := tx.uncons
  cases tx
  obtain ⟨fd, h1, h2⟩ := law_g (T := tabT tb__law_well kt0 gl0) (tb := (List.map (·.2) [p0, p1, p2, p3, p4, p5])) (k := 83) (P := P) (w := w) (sp := f_law) g_law sc_law ba_law hfa ch_law
  refine ⟨fd, h1, fun base hTB => ?_⟩
  have g__law_rounds : GotT K mg base (List.map (·.2) [p0, p1, p2, p3, p4, p5]) false "_law_rounds" s__law_rounds := g__law_rounds.t0
  have g__law_draw : GotT K mg base (List.map (·.2) [p0, p1, p2, p3, p4, p5]) false "_law_draw" s__law_draw := g__law_draw.t0
  have g__law_pick : GotT K mg base (List.map (·.2) [p0, p1, p2, p3, p4, p5]) false "_law_pick" s__law_pick := g__law_pick.t0
  have g__law_slots : GotT K mg base (List.map (·.2) [p0, p1, p2, p3, p4, p5]) false "_law_slots" s__law_slots := g__law_slots.t0
  have g__law_parts : GotT K mg base (List.map (·.2) [p0, p1, p2, p3, p4, p5]) false "_law_parts" s__law_parts := g__law_parts.t0
  have g__law_number : GotT K mg base (List.map (·.2) [p0, p1, p2, p3, p4, p5]) false "_law_number" s__law_number := g__law_number.t0
  have g__law_row : GotT K mg base (List.map (·.2) [p0, p1, p2, p3, p4, p5]) false "_law_row" s__law_row := g__law_row.t0
  have g__law_killed : GotT K mg base (List.map (·.2) [p0, p1, p2, p3, p4, p5]) false "_law_killed" s__law_killed := g__law_killed.t0
  have g_is_whole : GotT K mg base (List.map (·.2) [p0, p1, p2, p3, p4, p5]) false "is_whole" s_is_whole := g_is_whole.t0
  have g_are_wholes : GotT K mg base (List.map (·.2) [p0, p1, p2, p3, p4, p5]) true "are_wholes" s_are_wholes := Got.tx KX g_are_wholes t0 (hTB p0 (by simp)) (by simp)
  have g_is_row : GotT K mg base (List.map (·.2) [p0, p1, p2, p3, p4, p5]) false "is_row" s_is_row := g_is_row.t0
  have g_check_row : GotT K mg base (List.map (·.2) [p0, p1, p2, p3, p4, p5]) false "check_row" s_check_row := g_check_row.t0
  have g_divisors_of : GotT K mg base (List.map (·.2) [p0, p1, p2, p3, p4, p5]) true "divisors_of" s_divisors_of := Got.tx KX g_divisors_of t1 (hTB p1 (by simp)) (by simp)
  have g_divided : GotT K mg base (List.map (·.2) [p0, p1, p2, p3, p4, p5]) false "divided" s_divided := g_divided.t0
  have g_remainder_by : GotT K mg base (List.map (·.2) [p0, p1, p2, p3, p4, p5]) false "remainder_by" s_remainder_by := g_remainder_by.t0
  have g_primes_of : GotT K mg base (List.map (·.2) [p0, p1, p2, p3, p4, p5]) false "primes_of" s_primes_of := g_primes_of.t0
  have g_stretched : GotT K mg base (List.map (·.2) [p0, p1, p2, p3, p4, p5]) false "stretched" s_stretched := g_stretched.t0
  have g_polynomial_of : GotT K mg base (List.map (·.2) [p0, p1, p2, p3, p4, p5]) false "polynomial_of" s_polynomial_of := g_polynomial_of.t0
  have g_has_order : GotT K mg base (List.map (·.2) [p0, p1, p2, p3, p4, p5]) true "has_order" s_has_order := Got.tx KX g_has_order t2 (hTB p2 (by simp)) (by simp)
  have g_orders_there : GotT K mg base (List.map (·.2) [p0, p1, p2, p3, p4, p5]) true "orders_there" s_orders_there := Got.tx KX g_orders_there t3 (hTB p3 (by simp)) (by simp)
  have g_orders_gone : GotT K mg base (List.map (·.2) [p0, p1, p2, p3, p4, p5]) true "orders_gone" s_orders_gone := Got.tx KX g_orders_gone t4 (hTB p4 (by simp)) (by simp)
  have g_check_number : GotT K mg base (List.map (·.2) [p0, p1, p2, p3, p4, p5]) false "check_number" s_check_number := g_check_number.t0
  have g_turned_row : GotT K mg base (List.map (·.2) [p0, p1, p2, p3, p4, p5]) false "turned_row" s_turned_row := g_turned_row.t0
  have g_mirrored_row : GotT K mg base (List.map (·.2) [p0, p1, p2, p3, p4, p5]) false "mirrored_row" s_mirrored_row := g_mirrored_row.t0
  have g_scaled_row : GotT K mg base (List.map (·.2) [p0, p1, p2, p3, p4, p5]) true "scaled_row" s_scaled_row := Got.tx KX g_scaled_row t5 (hTB p5 (by simp)) (by simp)
  have g_is_within : GotT K mg base (List.map (·.2) [p0, p1, p2, p3, p4, p5]) false "is_within" s_is_within := g_is_within.t0
  have g_check_slots : GotT K mg base (List.map (·.2) [p0, p1, p2, p3, p4, p5]) false "check_slots" s_check_slots := g_check_slots.t0
  have g_order_of : GotT K mg base (List.map (·.2) [p0, p1, p2, p3, p4, p5]) false "order_of" s_order_of := g_order_of.t0
  have g_is_there : GotT K mg base (List.map (·.2) [p0, p1, p2, p3, p4, p5]) false "is_there" s_is_there := g_is_there.t0
  have g__law_led : GotT K mg base (List.map (·.2) [p0, p1, p2, p3, p4, p5]) false "_law_led" s__law_led := g__law_led.t0
  have g__law_primes : GotT K mg base (List.map (·.2) [p0, p1, p2, p3, p4, p5]) false "_law_primes" s__law_primes := g__law_primes.t0
  have g__law_is_nothing : GotT K mg base (List.map (·.2) [p0, p1, p2, p3, p4, p5]) false "_law_is_nothing" s__law_is_nothing := g__law_is_nothing.t0
  have g__law_right : GotT K mg base (List.map (·.2) [p0, p1, p2, p3, p4, p5]) false "_law_right" s__law_right := g__law_right.t0
  have g__law_well : GotT K mg base (List.map (·.2) [p0, p1, p2, p3, p4, p5]) false "_law_well" s__law_well := g__law_well.t0
  have e0 : Env1 (tabT [] kt0 gl0) P w K mg base (List.map (·.2) [p0, p1, p2, p3, p4, p5]) 0 := env0 (fun x d h => by
    have h := lookup_mem h
    simp only [gl0, List.mem_cons, List.not_mem_nil, or_false, Prod.mk.injEq] at h
    rcases h with ⟨rfl, rfl⟩ | ⟨rfl, rfl⟩
    · obtain ⟨t, ht⟩ := c_LEAST_SLOTS
      exact ⟨.int (2), _, ht, ⟨t, rfl⟩, fun F => .int (2)⟩
    · obtain ⟨t, ht⟩ := c_MOST_SLOTS
      exact ⟨.int (60), _, ht, ⟨t, rfl⟩, fun F => .int (60)⟩) (fun x h => by
    simp only [bnames, List.mem_cons, List.not_mem_nil, or_false] at h
    rcases h with rfl | rfl | rfl | rfl | rfl | rfl | rfl | rfl | rfl | rfl | rfl | rfl | rfl | rfl | rfl | rfl | rfl | rfl | rfl | rfl | rfl
    · exact z_len
    · exact z_abs
    · exact z_int
    · exact z_max
    · exact z_min
    · exact z_divmod
    · exact z_tuple
    · exact z_list
    · exact z_sum
    · exact z_repr
    · exact z_all
    · exact z_any
    · exact z_sorted
    · exact z_range
    · exact z_enumerate
    · exact z_zip
    · exact z_isinstance
    · exact z_bool
    · exact z_str
    · exact z_dict
    · exact z_float)
  have e_gcd := e0.ext (k := 1) (can_gcd m_gcd) (fun l h => by rw [show List.lookup ("gcd" : Str) kt0 = none by decide +kernel] at h; cases h) (by decide)
  have e__law_rounds : Env1 (tabT tb__law_rounds kt0 gl0) P w K mg base (List.map (·.2) [p0, p1, p2, p3, p4, p5]) 2 := e_gcd.ext (s := fs__law_rounds) (can_gp g__law_rounds sc__law_rounds ba__law_rounds e_gcd ch__law_rounds (fun ds r h _ => ⟨100000, h⟩)) (fun l h => by rw [show List.lookup ("_law_rounds" : Str) kt0 = none by decide +kernel] at h; cases h) (by decide)
  have e__law_draw : Env1 (tabT tb__law_draw kt0 gl0) P w K mg base (List.map (·.2) [p0, p1, p2, p3, p4, p5]) 3 := e__law_rounds.ext (s := fs__law_draw) (can_gw g__law_draw sc__law_draw ba__law_draw e__law_rounds ch__law_draw (fun ds0 ds r h _ => ⟨100000, h⟩)) (fun l h => by rw [show List.lookup ("_law_draw" : Str) kt0 = none by decide +kernel] at h; cases h) (by decide)
  have e__law_pick : Env1 (tabT tb__law_pick kt0 gl0) P w K mg base (List.map (·.2) [p0, p1, p2, p3, p4, p5]) 4 := e__law_draw.ext (s := fs__law_pick) (can_gw g__law_pick sc__law_pick ba__law_pick e__law_draw ch__law_pick (fun ds0 ds r h _ => ⟨100000, h⟩)) (fun l h => by rw [show List.lookup ("_law_pick" : Str) kt0 = none by decide +kernel] at h; cases h) (by decide)
  have e__law_slots : Env1 (tabT tb__law_slots kt0 gl0) P w K mg base (List.map (·.2) [p0, p1, p2, p3, p4, p5]) 5 := e__law_pick.ext (s := fs__law_slots) (can_gw g__law_slots sc__law_slots ba__law_slots e__law_pick ch__law_slots (fun ds0 ds r h _ => ⟨100000, h⟩)) (fun l h => by rw [show List.lookup ("_law_slots" : Str) kt0 = none by decide +kernel] at h; cases h) (by decide)
  have e__law_parts : Env1 (tabT tb__law_parts kt0 gl0) P w K mg base (List.map (·.2) [p0, p1, p2, p3, p4, p5]) 6 := e__law_slots.ext (s := fs__law_parts) (can_gp g__law_parts sc__law_parts ba__law_parts e__law_slots ch__law_parts (fun ds r h _ => ⟨100000, h⟩)) (fun l h => by rw [show List.lookup ("_law_parts" : Str) kt0 = none by decide +kernel] at h; cases h) (by decide)
  have e__law_number : Env1 (tabT tb__law_number kt0 gl0) P w K mg base (List.map (·.2) [p0, p1, p2, p3, p4, p5]) 7 := e__law_parts.ext (s := fs__law_number) (can_gw g__law_number sc__law_number ba__law_number e__law_parts ch__law_number (fun ds0 ds r h _ => ⟨100000, h⟩)) (fun l h => by rw [show List.lookup ("_law_number" : Str) kt0 = none by decide +kernel] at h; cases h) (by decide)
  have e__law_row : Env1 (tabT tb__law_row kt0 gl0) P w K mg base (List.map (·.2) [p0, p1, p2, p3, p4, p5]) 8 := e__law_number.ext (s := fs__law_row) (can_gw g__law_row sc__law_row ba__law_row e__law_number ch__law_row (fun ds0 ds r h _ => ⟨100000, h⟩)) (fun l h => by rw [show List.lookup ("_law_row" : Str) kt0 = none by decide +kernel] at h; cases h) (by decide)
  have e__law_killed : Env1 (tabT tb__law_killed kt0 gl0) P w K mg base (List.map (·.2) [p0, p1, p2, p3, p4, p5]) 9 := e__law_row.ext (s := fs__law_killed) (can_gw g__law_killed sc__law_killed ba__law_killed e__law_row ch__law_killed (fun ds0 ds r h _ => ⟨100000, h⟩)) (fun l h => by rw [show List.lookup ("_law_killed" : Str) kt0 = none by decide +kernel] at h; cases h) (by decide)
  have e_is_whole : Env1 (tabT tb_is_whole kt0 gl0) P w K mg base (List.map (·.2) [p0, p1, p2, p3, p4, p5]) 10 := e__law_killed.ext (s := fs_is_whole) (can_gp g_is_whole sc_is_whole ba_is_whole e__law_killed ch_is_whole (fun ds r h _ => ⟨100000, h⟩)) (fun l h => by rw [show List.lookup ("is_whole" : Str) kt0 = none by decide +kernel] at h; cases h) (by decide)
  have e_are_wholes : Env1 (tabT tb_are_wholes kt0 gl0) P w K mg base (List.map (·.2) [p0, p1, p2, p3, p4, p5]) 19 := e_is_whole.ext (s := fs_are_wholes) (can_gp g_are_wholes sc_are_wholes ba_are_wholes e_is_whole ch_are_wholes (fun ds r h _ => ⟨100000, h⟩)) (fun l h => by rw [show List.lookup ("are_wholes" : Str) kt0 = none by decide +kernel] at h; cases h) (by decide)
  have e_is_row : Env1 (tabT tb_is_row kt0 gl0) P w K mg base (List.map (·.2) [p0, p1, p2, p3, p4, p5]) 20 := e_are_wholes.ext (s := fs_is_row) (can_gp g_is_row sc_is_row ba_is_row e_are_wholes ch_is_row (fun ds r h _ => ⟨100000, h⟩)) (fun l h => by rw [show List.lookup ("is_row" : Str) kt0 = none by decide +kernel] at h; cases h) (by decide)
  have e_check_row : Env1 (tabT tb_check_row kt0 gl0) P w K mg base (List.map (·.2) [p0, p1, p2, p3, p4, p5]) 21 := e_is_row.ext (s := fs_check_row) (can_gp g_check_row sc_check_row ba_check_row e_is_row ch_check_row (fun ds r h _ => ⟨100000, h⟩)) (fun l h => by rw [show List.lookup ("check_row" : Str) kt0 = none by decide +kernel] at h; cases h) (by decide)
  have e_divisors_of : Env1 (tabT tb_divisors_of kt0 gl0) P w K mg base (List.map (·.2) [p0, p1, p2, p3, p4, p5]) 30 := e_check_row.ext (s := fs_divisors_of) (can_gp g_divisors_of sc_divisors_of ba_divisors_of e_check_row ch_divisors_of (fun ds r h _ => ⟨100000, h⟩)) (fun l h => by rw [show List.lookup ("divisors_of" : Str) kt0 = none by decide +kernel] at h; cases h) (by decide)
  have e_divided : Env1 (tabT tb_divided kt0 gl0) P w K mg base (List.map (·.2) [p0, p1, p2, p3, p4, p5]) 31 := e_divisors_of.ext (s := fs_divided) (can_gp g_divided sc_divided ba_divided e_divisors_of ch_divided (fun ds r h _ => ⟨100000, h⟩)) (fun l h => by rw [show List.lookup ("divided" : Str) kt0 = none by decide +kernel] at h; cases h) (by decide)
  have e_remainder_by : Env1 (tabT tb_remainder_by kt0 gl0) P w K mg base (List.map (·.2) [p0, p1, p2, p3, p4, p5]) 32 := e_divided.ext (s := fs_remainder_by) (can_gp g_remainder_by sc_remainder_by ba_remainder_by e_divided ch_remainder_by (fun ds r h _ => ⟨100000, h⟩)) (fun l h => by rw [show List.lookup ("remainder_by" : Str) kt0 = none by decide +kernel] at h; cases h) (by decide)
  have e_primes_of : Env1 (tabT tb_primes_of kt0 gl0) P w K mg base (List.map (·.2) [p0, p1, p2, p3, p4, p5]) 33 := e_remainder_by.ext (s := fs_primes_of) (can_gp g_primes_of sc_primes_of ba_primes_of e_remainder_by ch_primes_of (fun ds r h _ => ⟨100000, h⟩)) (fun l h => by rw [show List.lookup ("primes_of" : Str) kt0 = none by decide +kernel] at h; cases h) (by decide)
  have e_stretched : Env1 (tabT tb_stretched kt0 gl0) P w K mg base (List.map (·.2) [p0, p1, p2, p3, p4, p5]) 34 := e_primes_of.ext (s := fs_stretched) (can_gp g_stretched sc_stretched ba_stretched e_primes_of ch_stretched (fun ds r h _ => ⟨100000, h⟩)) (fun l h => by rw [show List.lookup ("stretched" : Str) kt0 = none by decide +kernel] at h; cases h) (by decide)
  have e_polynomial_of : Env1 (tabT tb_polynomial_of kt0 gl0) P w K mg base (List.map (·.2) [p0, p1, p2, p3, p4, p5]) 35 := e_stretched.ext (s := fs_polynomial_of) (can_gp g_polynomial_of sc_polynomial_of ba_polynomial_of e_stretched ch_polynomial_of (fun ds r h _ => ⟨100000, h⟩)) (fun l h => by rw [show List.lookup ("polynomial_of" : Str) kt0 = none by decide +kernel] at h; cases h) (by decide)
  have e_has_order : Env1 (tabT tb_has_order kt0 gl0) P w K mg base (List.map (·.2) [p0, p1, p2, p3, p4, p5]) 44 := e_polynomial_of.ext (s := fs_has_order) (can_gp g_has_order sc_has_order ba_has_order e_polynomial_of ch_has_order (fun ds r h _ => ⟨100000, h⟩)) (fun l h => by rw [show List.lookup ("has_order" : Str) kt0 = none by decide +kernel] at h; cases h) (by decide)
  have e_orders_there : Env1 (tabT tb_orders_there kt0 gl0) P w K mg base (List.map (·.2) [p0, p1, p2, p3, p4, p5]) 53 := e_has_order.ext (s := fs_orders_there) (can_gp g_orders_there sc_orders_there ba_orders_there e_has_order ch_orders_there (fun ds r h _ => ⟨100000, h⟩)) (fun l h n ks pm hm => by
    rw [show List.lookup ("orders_there" : Str) kt0 = (some [((0, ["row"]), [0])] : Option (List ((Nat × List Str) × List Nat))) by decide +kernel] at h
    cases h
    simp only [List.mem_cons, List.not_mem_nil, or_false, Prod.mk.injEq] at hm
    rcases hm with ⟨⟨rfl, rfl⟩, rfl⟩
    · exact cank_gp g_orders_there sc_orders_there ka_orders_there_0 e_has_order ch_orders_there (fun ds r h _ => ⟨100000, h⟩)) (by decide)
  have e_orders_gone : Env1 (tabT tb_orders_gone kt0 gl0) P w K mg base (List.map (·.2) [p0, p1, p2, p3, p4, p5]) 62 := e_orders_there.ext (s := fs_orders_gone) (can_gp g_orders_gone sc_orders_gone ba_orders_gone e_orders_there ch_orders_gone (fun ds r h _ => ⟨100000, h⟩)) (fun l h n ks pm hm => by
    rw [show List.lookup ("orders_gone" : Str) kt0 = (some [((0, ["row"]), [0])] : Option (List ((Nat × List Str) × List Nat))) by decide +kernel] at h
    cases h
    simp only [List.mem_cons, List.not_mem_nil, or_false, Prod.mk.injEq] at hm
    rcases hm with ⟨⟨rfl, rfl⟩, rfl⟩
    · exact cank_gp g_orders_gone sc_orders_gone ka_orders_gone_0 e_orders_there ch_orders_gone (fun ds r h _ => ⟨100000, h⟩)) (by decide)
  have e_check_number : Env1 (tabT tb_check_number kt0 gl0) P w K mg base (List.map (·.2) [p0, p1, p2, p3, p4, p5]) 63 := e_orders_gone.ext (s := fs_check_number) (can_gp g_check_number sc_check_number ba_check_number e_orders_gone ch_check_number (fun ds r h _ => ⟨100000, h⟩)) (fun l h => by rw [show List.lookup ("check_number" : Str) kt0 = none by decide +kernel] at h; cases h) (by decide)
  have e_turned_row : Env1 (tabT tb_turned_row kt0 gl0) P w K mg base (List.map (·.2) [p0, p1, p2, p3, p4, p5]) 64 := e_check_number.ext (s := fs_turned_row) (can_gp g_turned_row sc_turned_row ba_turned_row e_check_number ch_turned_row (fun ds r h _ => ⟨100000, h⟩)) (fun l h => by rw [show List.lookup ("turned_row" : Str) kt0 = none by decide +kernel] at h; cases h) (by decide)
  have e_mirrored_row : Env1 (tabT tb_mirrored_row kt0 gl0) P w K mg base (List.map (·.2) [p0, p1, p2, p3, p4, p5]) 65 := e_turned_row.ext (s := fs_mirrored_row) (can_gp g_mirrored_row sc_mirrored_row ba_mirrored_row e_turned_row ch_mirrored_row (fun ds r h _ => ⟨100000, h⟩)) (fun l h => by rw [show List.lookup ("mirrored_row" : Str) kt0 = none by decide +kernel] at h; cases h) (by decide)
  have e_scaled_row : Env1 (tabT tb_scaled_row kt0 gl0) P w K mg base (List.map (·.2) [p0, p1, p2, p3, p4, p5]) 74 := e_mirrored_row.ext (s := fs_scaled_row) (can_gp g_scaled_row sc_scaled_row ba_scaled_row e_mirrored_row ch_scaled_row (fun ds r h _ => ⟨100000, h⟩)) (fun l h => by rw [show List.lookup ("scaled_row" : Str) kt0 = none by decide +kernel] at h; cases h) (by decide)
  have e_is_within : Env1 (tabT tb_is_within kt0 gl0) P w K mg base (List.map (·.2) [p0, p1, p2, p3, p4, p5]) 75 := e_scaled_row.ext (s := fs_is_within) (can_gp g_is_within sc_is_within ba_is_within e_scaled_row ch_is_within (fun ds r h _ => ⟨100000, h⟩)) (fun l h => by rw [show List.lookup ("is_within" : Str) kt0 = none by decide +kernel] at h; cases h) (by decide)
  have e_check_slots : Env1 (tabT tb_check_slots kt0 gl0) P w K mg base (List.map (·.2) [p0, p1, p2, p3, p4, p5]) 76 := e_is_within.ext (s := fs_check_slots) (can_gp g_check_slots sc_check_slots ba_check_slots e_is_within ch_check_slots (fun ds r h _ => ⟨100000, h⟩)) (fun l h => by rw [show List.lookup ("check_slots" : Str) kt0 = none by decide +kernel] at h; cases h) (by decide)
  have e_order_of : Env1 (tabT tb_order_of kt0 gl0) P w K mg base (List.map (·.2) [p0, p1, p2, p3, p4, p5]) 77 := e_check_slots.ext (s := fs_order_of) (can_gp g_order_of sc_order_of ba_order_of e_check_slots ch_order_of (fun ds r h _ => ⟨100000, h⟩)) (fun l h => by rw [show List.lookup ("order_of" : Str) kt0 = none by decide +kernel] at h; cases h) (by decide)
  have e_is_there : Env1 (tabT tb_is_there kt0 gl0) P w K mg base (List.map (·.2) [p0, p1, p2, p3, p4, p5]) 78 := e_order_of.ext (s := fs_is_there) (can_gp g_is_there sc_is_there ba_is_there e_order_of ch_is_there (fun ds r h _ => ⟨100000, h⟩)) (fun l h => by rw [show List.lookup ("is_there" : Str) kt0 = none by decide +kernel] at h; cases h) (by decide)
  have e__law_led : Env1 (tabT tb__law_led kt0 gl0) P w K mg base (List.map (·.2) [p0, p1, p2, p3, p4, p5]) 79 := e_is_there.ext (s := fs__law_led) (can_gp g__law_led sc__law_led ba__law_led e_is_there ch__law_led (fun ds r h _ => ⟨100000, h⟩)) (fun l h => by rw [show List.lookup ("_law_led" : Str) kt0 = none by decide +kernel] at h; cases h) (by decide)
  have e__law_primes : Env1 (tabT tb__law_primes kt0 gl0) P w K mg base (List.map (·.2) [p0, p1, p2, p3, p4, p5]) 80 := e__law_led.ext (s := fs__law_primes) (can_gp g__law_primes sc__law_primes ba__law_primes e__law_led ch__law_primes (fun ds r h _ => ⟨100000, h⟩)) (fun l h => by rw [show List.lookup ("_law_primes" : Str) kt0 = none by decide +kernel] at h; cases h) (by decide)
  have e__law_is_nothing : Env1 (tabT tb__law_is_nothing kt0 gl0) P w K mg base (List.map (·.2) [p0, p1, p2, p3, p4, p5]) 81 := e__law_primes.ext (s := fs__law_is_nothing) (can_gp g__law_is_nothing sc__law_is_nothing ba__law_is_nothing e__law_primes ch__law_is_nothing (fun ds r h _ => ⟨100000, h⟩)) (fun l h => by rw [show List.lookup ("_law_is_nothing" : Str) kt0 = none by decide +kernel] at h; cases h) (by decide)
  have e__law_right : Env1 (tabT tb__law_right kt0 gl0) P w K mg base (List.map (·.2) [p0, p1, p2, p3, p4, p5]) 82 := e__law_is_nothing.ext (s := fs__law_right) (can_gw g__law_right sc__law_right ba__law_right e__law_is_nothing ch__law_right (fun ds0 ds r h _ => ⟨100000, h⟩)) (fun l h => by rw [show List.lookup ("_law_right" : Str) kt0 = none by decide +kernel] at h; cases h) (by decide)
  have e__law_well : Env1 (tabT tb__law_well kt0 gl0) P w K mg base (List.map (·.2) [p0, p1, p2, p3, p4, p5]) 83 := e__law_right.ext (s := fs__law_well) (can_gm g__law_well sc__law_well ba__law_well e__law_right ch__law_well (fun ds r h _ => ⟨100000, h⟩)) (fun l h => by rw [show List.lookup ("_law_well" : Str) kt0 = none by decide +kernel] at h; cases h) (by decide)
  exact h2 base e__law_well (fun ds r h _ => ⟨100000, h⟩)
end
end Ev

set_option maxHeartbeats 1000000
namespace Ev
open PySem L2
/-! ### filtered numbers, and one of them -/
def filI (p : Int → Bool) : D → Option D
  | .int i => if p i then some (.int i) else none
  | _ => none
theorem filI_map (p : Int → Bool) : ∀ l : List Int, (l.map PyData.int).filterMap (filI p) = (l.filter p).map .int
  | [] => rfl
  | i :: l => by
    have := filI_map p l
    simp only [List.map_cons, List.filterMap_cons, List.filter_cons, filI]
    cases h : p i <;> simp [this]
theorem lcF {T : Tb} {ρ ρ1 : En} {it : IT} {c : IE} {i : Nat} {nm : Str} {lo : Int} {n : Nat} (p : Int → Bool) (hit : evIt T ρ it = some (rngD lo n, ρ1)) (hu : ρ1[i]? = some .u)
    (ht : ∀ x : Int, lo ≤ x → x < lo + n → evT T (ρ1.set i (.v (.int x))) c = some (p x, ρ1.set i (.v (.int x)))) (hn : n ≤ 1000) :
    evE T ρ (.lc (.var i) (.nm i) [(nm, i)] it (.so c)) = some (.new ((((List.range n).map fun t => lo + (t : Nat)).filter p).map .int), ρ1) := by
  have hi : i < ρ1.length := (List.getElem?_eq_some_iff.mp hu).1
  have e := lc1 (T := T) (ρ := ρ) (ρ1 := ρ1) (it := it) (c := .so c) (e := .var i) (i := i) (nm := nm) (xs := ((List.range n).map fun t => lo + (t : Nat)).map .int) (filI p) (by rw [hit, rngD, List.map_map]; rfl) hu (fun x hx => by
    obtain ⟨y, hy, rfl⟩ := List.mem_map.mp hx
    obtain ⟨t, ht', rfl⟩ := List.mem_map.mp hy
    have htn := List.mem_range.mp ht'
    have := ht (lo + (t : Nat)) (by omega) (by omega)
    simp only [evIf, this, Option.bind_some, filI]
    cases p (lo + (t : Nat)) with
    | false => rfl
    | true =>
      simp only [if_true, evE]
      rw [List.getElem?_set_self hi]
      simp only [Option.bind_some, keepOp]
      rw [List.getElem?_set_self hi]
      rfl) (by
    rw [filI_map, List.length_map]
    refine lenOk_le (Nat.le_trans (List.length_filter_le _ _) ?_)
    simp; omega)
  rw [filI_map] at e
  exact e
theorem mem_fil {n : Nat} {lo x : Int} {p : Int → Bool} : x ∈ (((List.range n).map fun t => lo + (t : Nat)).filter p) ↔ (lo ≤ x ∧ x < lo + n) ∧ p x = true := by
  simp only [List.mem_filter, List.mem_map, List.mem_range]
  constructor
  · rintro ⟨⟨t, ht, rfl⟩, h⟩
    exact ⟨⟨by omega, by omega⟩, h⟩
  · rintro ⟨⟨h1, h2⟩, h⟩
    exact ⟨⟨(x - lo).toNat, by omega, by omega⟩, h⟩
theorem fil_len {n : Nat} {lo : Int} {p : Int → Bool} (hn : n ≤ 1000) : (((List.range n).map fun t => lo + (t : Nat)).filter p).length < 1073741824 :=
  Nat.lt_of_le_of_lt (List.length_filter_le _ _) (by simp; omega)
theorem app_ok {n : Nat} {T : Tb} {ρ ρ1 ρ2 : En} {i : Nat} {e : IE} {o : Op} {d : D} {mt mt0 : Bool} {ds ds0 : List D} (h0 : ρ[i]? = some (.o mt0 ds0)) (h1 : evE T ρ e = some (o, ρ1)) (h2 : keepOp ρ1 o = some (d, ρ2)) (h3 : ρ2[i]? = some (.o mt ds)) (hl : ds.length ≤ 1000) : evS n T ρ (.app i e) = some (.nx (ρ2.set i (.o mt (ds ++ [d])))) := by
  have : decide (ds.length < sizeLine) = true := by
    rw [decide_eq_true_eq, show sizeLine = 16777216 by decide]
    omega
  simp only [evS, h0, h1, Option.bind_some, h2, h3, this, if_true]
theorem ifs_t {n : Nat} {T : Tb} {ρ ρ1 : En} {c : IE} {a b : ISs} {r : Option Oc} (h : evT T ρ c = some (true, ρ1)) (h2 : evSs n T ρ1 a = r) : evS n T ρ (.ifs c a b) = r := by simp only [evS, h, h2]
theorem ifs_f {n : Nat} {T : Tb} {ρ ρ1 : En} {c : IE} {a b : ISs} {r : Option Oc} (h : evT T ρ c = some (false, ρ1)) (h2 : evSs n T ρ1 b = r) : evS n T ρ (.ifs c a b) = r := by simp only [evS, h, h2]
theorem asgs_ok {n : Nat} {T : Tb} {ρ ρ1 ρ2 ρ3 : En} {is : List Nat} {es : IEs} {ops os : List Op} (h1 : evEs T ρ es = some (ops, ρ1)) (h2 : settle ρ1 ops = some (os, ρ2)) (h3 : asgN ρ2 is os = some ρ3) : evS n T ρ (.asgs is es) = some (.nx ρ3) := by
  simp only [evS, h1, h2, h3, Option.bind_some, Option.map_some]
theorem ee_cons {T : Tb} {ρ ρ1 ρ2 : En} {e : IE} {es : IEs} {o : Op} {os : List Op} (h1 : evE T ρ e = some (o, ρ1)) (h2 : evEs T ρ1 es = some (os, ρ2)) : evEs T ρ (.cons e es) = some (o :: os, ρ2) := by
  simp only [evEs, h1, h2, Option.bind_some, Option.map_some]
theorem lcO_v {T : Tb} {ρ : En} {e : IE} {i j : Nat} {nm : Str} {α : Type} {l : List α} (enc out : α → D) (h0 : ρ[i]? = some (.o false (l.map enc))) (hu : ρ[j]? = some .u ∨ ∃ d, ρ[j]? = some (.v d)) (he : ∀ a ∈ l, evE T (ρ.set j (.v (enc a))) e = some (.val (out a), ρ.set j (.v (enc a)))) (hl : l.length ≤ 1000) :
    evE T ρ (.lcO e j nm i) = some (.new (l.map out), ρ) := by
  have hj : j < ρ.length := by
    rcases hu with h | ⟨d, h⟩ <;> exact (List.getElem?_eq_some_iff.mp h).1
  have key : ∀ f : D → En → Option (Option D × En), (∀ a ∈ l, ∀ ρ1, wipeE ρ1 [j] = wipeE ρ [j] → f (enc a) ρ1 = some (some (out a), ρ.set j (.v (enc a)))) →
      ((evComp f (l.map enc) [] ρ).bind fun r => if lenOk r.1.length then some (Op.new r.1, backE ρ r.2 [j]) else none) = some (.new (l.map out), ρ) := fun f hf => by
    obtain ⟨ρ', e1, h1⟩ := comp_ty (f := f) (P := fun ρ1 => wipeE ρ1 [j] = wipeE ρ [j]) enc (fun a => some (out a)) (l := l) (acc := []) (ρ := ρ) (fun a ha ρ1 h1 => ⟨ρ.set j (.v (enc a)), hf a ha ρ1 h1, by simp only [wipeE, List.set_set]⟩) rfl
    rw [fm_some] at e1
    rw [e1]
    simp only [Option.bind_some, List.nil_append, lenOk_le (show (l.map out).length ≤ 16777216 by rw [List.length_map]; omega), if_true]
    rw [back_ok (fun x hx => by
      have : x = j := by simpa using hx
      rw [this]; exact hu) h1]
  simp only [evE, h0]
  refine key _ fun a ha ρ1 h1 => ?_
  have hs : setE (wipeE ρ [j]) j (.v (enc a)) = some (ρ.set j (.v (enc a))) := by
    simp only [wipeE, setE, List.length_set, decide_eq_true hj, if_true, List.set_set]
  rw [h1]
  simp only [hs, Option.bind_some, he a ha]
theorem bd_set (ρ : En) (i : Nat) (hi : i < ρ.length) (d : D) : bindT ρ (.nm i) d = some (ρ.set i (.v d)) := by simp only [bindT, setE, decide_eq_true hi, if_true]
theorem it_r1e {T : Tb} {ρ ρ1 : En} {e : IE} {o : Op} {j : Int} (h : evE T ρ e = some (o, ρ1)) (hv : viewOp ρ1 o = some (.int j)) (ho : rngOk j = true) : evIt T ρ (.r1 e) = some (rngD 0 j.toNat, ρ1) := by
  simp only [evIt, h, Option.bind_some, hv, ho, if_true]
theorem bi_div {i j : Int} (h : divOk j = true) : binD .FloorDiv (.int i) (.int j) = some (.val (.int (i / j))) := by simp only [binD, binI, h, if_true, Option.map_some]
theorem calPn {n : Nat} {T : Tb} {ρ : En} {f : Str} {es : IEs} {ops : List Op} {g : List D → Option D} {ds ds' : List D} {r : D} (hs : T.fs f = some (.p n g)) (he : evEs T ρ es = some (ops, ρ)) (hn : ops.length = n) (hv : viewL ρ ops = some ds) (hk : keepL ρ ops = some (ds', ρ)) (hg : g ds = some r) : evE T ρ (.cal f es) = some (.val r, ρ) := by
  subst hn
  refine cal_ok he hs ?_
  simp only [callF, callP, hv, hg, hk, Option.bind_some, Option.map_some, beq_self_eq_true, if_true]
  split <;> rfl
theorem calPt {n : Nat} {T : Tb} {ρ : En} {f : Str} {es : IEs} {ops : List Op} {g : List D → Option D} {ds : List D} {b : Bool} (hs : T.fs f = some (.p n g)) (he : evEs T ρ es = some (ops, ρ)) (hn : ops.length = n) (hv : viewL ρ ops = some ds) (hg : g ds = some (.bool b)) : evT T ρ (.cal f es) = some (b, ρ) := by
  subst hn
  have h : callF (.p ops.length g) ops ρ = some (.val (.bool b), ρ) := by
    simp only [callF, callP, hv, hg, Option.bind_some, beq_self_eq_true, if_true, flat]
  simp only [evT, he, hs, h, Option.bind_some, Option.map_some, viewOp, trD]
theorem it_r2e {T : Tb} {ρ ρ1 ρ2 : En} {a b : IE} {x y : Op} {i j : Int} (h1 : evE T ρ a = some (x, ρ1)) (h2 : evE T ρ1 b = some (y, ρ2)) (h3 : viewOp ρ2 x = some (.int i)) (h4 : viewOp ρ2 y = some (.int j)) (r1 : rngOk i = true) (r2 : rngOk j = true) : evIt T ρ (.r2 a b) = some (rngD i (j - i).toNat, ρ2) := by
  simp only [evIt, h1, h2, Option.bind_some, h3, h4, r1, r2, Bool.and_self, if_true]
theorem calW2 {n : Nat} {T : Tb} {f : List D → List D → Option (D × List D)} {l0 l l' : List D} {ρ : En} {x : Str} {es : IEs} {r : List Op} {ds : List D} {d : D} (hs : T.fs x = some (.w n f)) (he : evEs T (.o true l0 :: ρ) es = some (r, .o true l :: ρ)) (hn : r.length + 1 = n) (hk : keepL (.o true l :: ρ) r = some (ds, .o true l :: ρ)) (h : f l ds = some (d, l')) :
    evE T (.o true l0 :: ρ) (.cal x (.cons (.var 0) es)) = some (.val d, .o true l' :: ρ) :=
  cal_ok (ops := .slot 0 :: r) (ρ1 := .o true l :: ρ) (by simp only [evEs, evE, List.getElem?_cons_zero, Option.bind_some, he, Option.map_some]) hs (callW_v hn hk h)
theorem ix_list {ds : List D} {i : Int} {j : Nat} {d : D} (h : ixN ds.length i = some j) (h2 : ds[j]? = some d) : idxD (.list ds) (.int i) = some d := by simp only [idxD, atI, h, Option.bind_some, h2]
theorem ix_tup {ds : List D} {i : Int} {j : Nat} {d : D} (h : ixN ds.length i = some j) (h2 : ds[j]? = some d) : idxD (.tuple ds) (.int i) = some d := by simp only [idxD, atI, h, Option.bind_some, h2]
theorem cut_lastD (l : List D) : cutD l none (some (-1)) = l.take (l.length - 1) := by
  have e1 : HT.sIx l.length 0 none = 0 := rfl
  have e2 : HT.sIx l.length l.length (some (-1)) = l.length - 1 := by
    show (if (-1 : Int) < 0 then ((-1 : Int) + (l.length : Nat)).toNat else min (-1 : Int).toNat l.length) = l.length - 1
    rw [if_pos (by decide)]; omega
  unfold cutD
  rw [e1, e2]
  simp
theorem dv_ok {m : Nat} (h1 : 1 ≤ m) (h2 : m ≤ 8000) : divOk (m : Int) = true := by
  unfold divOk
  rw [decide_eq_true_eq]
  refine ⟨by omega, ?_⟩
  rw [Int.natAbs_natCast]
  exact Nat.lt_of_le_of_lt (Nat.log2_le_self m) (by omega)
theorem runP_nx {n N : Nat} {T : Tb} {b : ISs} {ds : List D} {r : En} (h : evSs n T (entP N ds) b = some (.nx r)) : runP n T N b ds = some .none := by
  simp [runP, h]
theorem exp_ok {n : Nat} {T : Tb} {ρ ρ1 : En} {e : IE} {o : Op} (h : evE T ρ e = some (o, ρ1)) : evS n T ρ (.exp e) = some (.nx ρ1) := by simp only [evS, h, Option.map_some]
theorem k_int_int : kitB "int" "int" = some true := by decide +kernel
theorem k_int_bool : kitB "int" "bool" = some false := by decide +kernel
theorem k_tup_tup : kitB "tuple" "tuple" = some true := by decide +kernel
theorem cut_takeD {n : Nat} (l : List D) : cutD l none (some (n : Int)) = l.take n := by
  have e1 : HT.sIx l.length 0 none = 0 := rfl
  have e2 : HT.sIx l.length l.length (some (n : Int)) = min n l.length := by
    show (if (n : Int) < 0 then ((n : Int) + (l.length : Nat)).toNat else min (n : Int).toNat l.length) = _
    rw [if_neg (by omega), Int.toNat_natCast]
  unfold cutD
  rw [e1, e2]
  simp only [List.drop_zero, Nat.sub_zero]
  by_cases h : n ≤ l.length
  · rw [Nat.min_eq_left h]
  · rw [Nat.min_eq_right (by omega), List.take_length, List.take_of_length_le (by omega)]
theorem cut_dropD {n : Nat} (l : List D) (h : n ≤ l.length) : cutD l (some (n : Int)) none = l.drop n := by
  have e1 : HT.sIx l.length 0 (some (n : Int)) = n := by
    show (if (n : Int) < 0 then ((n : Int) + (l.length : Nat)).toNat else min (n : Int).toNat l.length) = n
    rw [if_neg (by omega)]; omega
  have e2 : HT.sIx l.length l.length none = l.length := rfl
  unfold cutD
  rw [e1, e2]
  exact List.take_of_length_le (by simp)
/-! ### small compositions -/
theorem var_v {T : Tb} {ρ : En} {i : Nat} {d : D} (h : ρ[i]? = some (.v d)) : evE T ρ (.var i) = some (.slot i, ρ) := by simp only [evE, h]
theorem var_o {T : Tb} {ρ : En} {i : Nat} {b : Bool} {ds : List D} (h : ρ[i]? = some (.o b ds)) : evE T ρ (.var i) = some (.slot i, ρ) := by simp only [evE, h]
theorem vw_v {ρ : En} {i : Nat} {d : D} (h : ρ[i]? = some (.v d)) : viewOp ρ (.slot i) = some d := by simp only [viewOp, h]
theorem vw_o {ρ : En} {i : Nat} {b : Bool} {ds : List D} (h : ρ[i]? = some (.o b ds)) : viewOp ρ (.slot i) = some (.list ds) := by simp only [viewOp, h]
theorem cst_i {T : Tb} {ρ : En} {k : Int} : evE T ρ (.cst (.int k)) = some (.val (.int k), ρ) := rfl
theorem ite_tr {T : Tb} {ρ ρ1 : En} {c a b : IE} {r : Option (Op × En)} (h : evT T ρ c = some (true, ρ1)) (h2 : evE T ρ1 a = r) : evE T ρ (.ite c a b) = r := by simp only [evE, h, h2]
theorem ite_fl {T : Tb} {ρ ρ1 : En} {c a b : IE} {r : Option (Op × En)} (h : evT T ρ c = some (false, ρ1)) (h2 : evE T ρ1 b = r) : evE T ρ (.ite c a b) = r := by simp only [evE, h, h2]
theorem bi_add (i j : Int) : binD .Add (.int i) (.int j) = some (.val (.int (i + j))) := rfl
theorem bi_sub (i j : Int) : binD .Sub (.int i) (.int j) = some (.val (.int (i - j))) := rfl
theorem bi_mul {i j : Int} (h : mulOk i j = true) : binD .Mult (.int i) (.int j) = some (.val (.int (i * j))) := by simp only [binD, binI, h, if_true, Option.map_some]
theorem bi_mod {i j : Int} (h : 0 < j) : binD .Mod (.int i) (.int j) = some (.val (.int (i % j))) := by simp only [binD, binI, decide_eq_true h, if_true, Option.map_some]
theorem idx_ok {T : Tb} {ρ ρ1 ρ2 : En} {a b : IE} {x y : Op} {d e r : D} (h1 : evE T ρ a = some (x, ρ1)) (h2 : evE T ρ1 b = some (y, ρ2)) (h3 : viewOp ρ2 x = some d) (h4 : viewOp ρ2 y = some e) (h5 : idxD d e = some r) : evE T ρ (.idx a b) = some (.val r, ρ2) := by
  simp only [evE, h1, h2, h3, h4, h5, Option.bind_some, Option.map_some]
theorem ix_li {l : List Int} {i : Int} {j : Nat} (h : ixN l.length i = some j) (hj : j < l.length) : idxD (.list (l.map .int)) (.int i) = some (.int (l.getD j 0)) := by
  refine ix_list (j := j) (by rw [List.length_map]; exact h) ?_
  rw [List.getElem?_map, List.getElem?_eq_getElem hj, List.getD_eq_getElem?_getD, List.getElem?_eq_getElem hj]; rfl
theorem ix_ti {l : List Int} {i : Int} {j : Nat} (h : ixN l.length i = some j) (hj : j < l.length) : idxD (.tuple (l.map .int)) (.int i) = some (.int (l.getD j 0)) := by
  refine ix_tup (j := j) (by rw [List.length_map]; exact h) ?_
  rw [List.getElem?_map, List.getElem?_eq_getElem hj, List.getD_eq_getElem?_getD, List.getElem?_eq_getElem hj]; rfl
/-- a place counted from the end too -/
theorem ixN_back {n k s : Nat} (hk : k < n) (hs : s ≤ n) : ixN n ((k : Int) - (s : Int)) = some ((k + n - s) % n) := by
  unfold ixN
  by_cases h : s ≤ k
  · rw [if_pos (by omega), if_pos (by omega)]
    congr 1
    rw [show k + n - s = (k - s) + n by omega, Nat.add_mod_right, Nat.mod_eq_of_lt (by omega)]
    omega
  · rw [if_neg (by omega), if_pos (by omega), Nat.mod_eq_of_lt (by omega)]
    congr 1
    omega
theorem evFor_lt {f : D → En → Option Oc} {Q : Nat → En → Prop} : ∀ {xs : List D} {n : Nat} {ρ : En}, (∀ x ∈ xs, ∀ k, n ≤ k → k < n + xs.length → ∀ ρ, Q k ρ → ∃ ρ', f x ρ = some (.nx ρ') ∧ Q (k + 1) ρ') → Q n ρ → ∃ ρ', evFor f xs ρ = some (.nx ρ') ∧ Q (n + xs.length) ρ'
  | [], n, ρ, _, h => ⟨ρ, rfl, h⟩
  | x :: xs, n, ρ, hf, h => by
    obtain ⟨ρ1, e1, h1⟩ := hf x List.mem_cons_self n (Nat.le_refl _) (by rw [List.length_cons]; omega) ρ h
    obtain ⟨ρ2, e2, h2⟩ := evFor_lt (xs := xs) (fun y hy k h1 h2 => hf y (List.mem_cons_of_mem _ hy) k (by omega) (by rw [List.length_cons]; omega)) h1
    exact ⟨ρ2, by simp only [evFor, e1, e2], by rw [List.length_cons, Nat.add_comm xs.length 1, ← Nat.add_assoc]; exact h2⟩
theorem forK {α S : Type} {f : D → En → Option Oc} {R : Nat → S → En → Prop} {step : S → α → S} (enc : α → D) : ∀ {l : List α} {n : Nat} {s : S} {ρ : En}, (∀ a ∈ l, ∀ k, n ≤ k → k < n + l.length → ∀ s ρ, R k s ρ → ∃ ρ', f (enc a) ρ = some (.nx ρ') ∧ R (k + 1) (step s a) ρ') → R n s ρ → ∃ ρ', evFor f (l.map enc) ρ = some (.nx ρ') ∧ R (n + l.length) (l.foldl step s) ρ'
  | [], n, s, ρ, _, h => ⟨ρ, rfl, h⟩
  | a :: l, n, s, ρ, hf, h => by
    obtain ⟨ρ1, e1, h1⟩ := hf a List.mem_cons_self n (Nat.le_refl _) (by rw [List.length_cons]; omega) s ρ h
    obtain ⟨ρ2, e2, h2⟩ := forK enc (l := l) (n := n + 1) (fun y hy k h1 h2 => hf y (List.mem_cons_of_mem _ hy) k (by omega) (by rw [List.length_cons]; omega)) h1
    exact ⟨ρ2, by simp only [List.map_cons, evFor, e1, e2], by rw [List.length_cons, Nat.add_comm l.length 1, ← Nat.add_assoc]; exact h2⟩
theorem for_step {N : Nat} {T : Tb} {ρ : En} {i : Nat} {x : D} {b : ISs} {r : Option Oc} (hi : i < ρ.length) (h : evSs N T (ρ.set i (.v x)) b = r) : ((bindT ρ (.nm i) x).bind fun ρ2 => evSs N T ρ2 b) = r := by
  rw [bd_set ρ i hi]
  exact h
theorem rng_ok {i : Int} (h1 : -1000000 ≤ i) (h2 : i ≤ 1000000) : rngOk i = true := by unfold rngOk; rw [decide_eq_true_eq]; omega
theorem len_ok {n : Nat} (h : n ≤ 1000000) : lenOk n = true := lenOk_le (by omega)
theorem gnFt {T : Tb} {ρ ρ1 : En} {it : IT} {c : IE} {i : Nat} {nm : Str} {l : List Int} (p : Int → Bool) (hit : evIt T ρ it = some (l.map .int, ρ1)) (hu : ρ1[i]? = some .u)
    (ht : ∀ x ∈ l, evT T (ρ1.set i (.v (.int x))) c = some (p x, ρ1.set i (.v (.int x)))) (hn : l.length ≤ 1000) :
    evE T ρ (.gn "tuple" (.var i) (.nm i) [(nm, i)] it (.so c)) = some (.val (.tuple ((l.filter p).map .int)), ρ1) := by
  have hi : i < ρ1.length := (List.getElem?_eq_some_iff.mp hu).1
  have e := gn1 (T := T) (ρ := ρ) (ρ1 := ρ1) (it := it) (c := .so c) (e := .var i) (i := i) (nm := nm) (f := "tuple") (d := .tuple ((l.filter p).map .int)) (filI p) hit hu (fun x hx => by
    obtain ⟨y, hy, rfl⟩ := List.mem_map.mp hx
    simp only [evIf, ht y hy, Option.bind_some, filI]
    cases p y with
    | false => rfl
    | true =>
      simp only [if_true, evE]
      rw [List.getElem?_set_self hi]
      simp only [Option.bind_some, keepOp]
      rw [List.getElem?_set_self hi]
      rfl) (fun x _ d _ => rfl) (by
    rw [filI_map]
    show (if lenOk ((l.filter p).map PyData.int).length then some (PyData.tuple ((l.filter p).map .int)) else none) = _
    rw [if_pos (len_ok (by rw [List.length_map]; have := List.length_filter_le p l; omega))])
  exact e
theorem lcG {T : Tb} {ρ ρ1 : En} {it : IT} {c : IE} {i : Nat} {nm : Str} {l : List Int} (p : Int → Bool) (hit : evIt T ρ it = some (l.map .int, ρ1)) (hu : ρ1[i]? = some .u)
    (ht : ∀ x ∈ l, evT T (ρ1.set i (.v (.int x))) c = some (p x, ρ1.set i (.v (.int x)))) (hn : l.length ≤ 1000) :
    evE T ρ (.lc (.var i) (.nm i) [(nm, i)] it (.so c)) = some (.new ((l.filter p).map .int), ρ1) := by
  have hi : i < ρ1.length := (List.getElem?_eq_some_iff.mp hu).1
  have e := lc1 (T := T) (ρ := ρ) (ρ1 := ρ1) (it := it) (c := .so c) (e := .var i) (i := i) (nm := nm) (filI p) hit hu (fun x hx => by
    obtain ⟨y, hy, rfl⟩ := List.mem_map.mp hx
    simp only [evIf, ht y hy, Option.bind_some, filI]
    cases p y with
    | false => rfl
    | true =>
      simp only [if_true, evE]
      rw [List.getElem?_set_self hi]
      simp only [Option.bind_some, keepOp]
      rw [List.getElem?_set_self hi]
      rfl) (by
    rw [filI_map, List.length_map]
    exact len_ok (by have := List.length_filter_le p l; omega))
  rw [filI_map] at e
  exact e
/-- any(..), stopping early -/
theorem any_ty {α : Type} {f : D → En → Option (Option D × En)} {P : En → Prop} (enc : α → D) (p : α → Bool) : ∀ {l : List α} {acc : List D} {ρ : En}, (∀ a ∈ l, ∀ ρ, P ρ → ∃ ρ', f (enc a) ρ = some (some (.bool (p a)), ρ') ∧ P ρ') → P ρ → ∃ (bs : List Bool) (ρ' : En), evGen (gnSt "any") f (l.map enc) acc ρ = some (acc ++ bs.map PyData.bool, ρ') ∧ bs.any id = l.any p ∧ P ρ'
  | [], acc, ρ, _, h => ⟨[], ρ, by simp [evGen], rfl, h⟩
  | a :: l, acc, ρ, hf, h => by
    obtain ⟨ρ1, e1, h1⟩ := hf a List.mem_cons_self ρ h
    cases hp : p a with
    | true => exact ⟨[true], ρ1, by simp [evGen, e1, hp, gnSt], by simp [hp], h1⟩
    | false =>
      obtain ⟨bs, ρ2, e2, h2, h3⟩ := any_ty enc p (l := l) (acc := acc ++ [.bool false]) (fun y hy => hf y (List.mem_cons_of_mem _ hy)) h1
      exact ⟨false :: bs, ρ2, by simp only [List.map_cons, evGen, e1, hp, gnSt, Bool.false_eq_true, if_false, e2, List.append_assoc, List.singleton_append], by simp [h2, hp], h3⟩
theorem gnAny {α : Type} {T : Tb} {ρ ρ1 : En} {it : IT} {e : IE} {t : Tg} {own : List (Str × Nat)} (enc : α → D) (p : α → Bool) {l : List α} (hit : evIt T ρ it = some (l.map enc, ρ1))
    (hb : ∀ a ∈ l, ∃ ρ2 o, bindT (wipeE ρ1 (own.map (·.2))) t (enc a) = some ρ2 ∧ evE T ρ2 e = some (o, ρ2) ∧ keepOp ρ2 o = some (.bool (p a), ρ2) ∧ wipeE ρ2 (own.map (·.2)) = wipeE ρ1 (own.map (·.2)))
    (hv : ∀ i ∈ own.map (·.2), ρ1[i]? = some .u ∨ ∃ d, ρ1[i]? = some (.v d)) : evE T ρ (.gn "any" e t own it .no) = some (.val (.bool (l.any p)), ρ1) := by
  obtain ⟨bs, ρ', e1, h0, h1⟩ := any_ty (f := fun x ρ1 => (bindT (wipeE ρ1 (own.map (·.2))) t x).bind fun ρ2 => (evIf T ρ2 .no).bind fun q => if q.1 then (evE T q.2 e).bind fun r => (keepOp r.2 r.1).map fun k => (some k.1, k.2) else some (none, q.2))
    (P := fun ρ => wipeE ρ (own.map (·.2)) = wipeE ρ1 (own.map (·.2))) enc p (l := l) (acc := []) (ρ := ρ1) (fun a ha ρ hρ => by
      obtain ⟨ρ2, o, h1, h2, h3, h4⟩ := hb a ha
      exact ⟨ρ2, by rw [hρ]; simp only [h1, Option.bind_some, evIf, if_true, h2, h3, Option.map_some], h4⟩) rfl
  simp only [evE, hit, Option.bind_some]
  rw [e1]
  simp only [Option.bind_some, List.nil_append, gnD, boolsD_map, Option.map_some, h0]
  rw [back_ok hv h1]
theorem neg_ok {T : Tb} {ρ ρ1 : En} {a : IE} {x : Op} {i : Int} (h : evE T ρ a = some (x, ρ1)) (hv : viewOp ρ1 x = some (.int i)) : evE T ρ (.neg a) = some (.val (.int (-i)), ρ1) := by
  simp only [evE, h, Option.bind_some, hv]
theorem so_ok {T : Tb} {ρ ρ1 : En} {a : IE} {x : Op} {i : Int} (h : evE T ρ a = some (x, ρ1)) (hv : viewOp ρ1 x = some (.int i)) : evC T ρ (.so a) = some (some i, ρ1) := by
  simp only [evC, h, Option.bind_some, hv]
theorem slc_ok {T : Tb} {ρ : En} {a : IE} {lo hi : IC} {o r : Op} {x y : Option Int} {d : D} (h : evE T ρ a = some (o, ρ)) (h1 : evC T ρ lo = some (x, ρ)) (h2 : evC T ρ hi = some (y, ρ)) (hv : viewOp ρ o = some d) (hs : slcD d x y = some r) : evE T ρ (.slc a lo hi) = some (r, ρ) := by
  simp only [evE, h, h1, h2, hv, hs, Option.bind_some, Option.map_some]
theorem slb_ok {T : Tb} {ρ : En} {a : IE} {lo hi : IC} {o r : Op} {x y : Option Int} {d : D} (h : evE T ρ a = some (o, ρ)) (h1 : evC T ρ lo = some (x, ρ)) (h2 : evC T ρ hi = some (y, ρ)) (hv : viewOp ρ o = some d) (hs : slbD d x y = some r) : evE T ρ (.slb a lo hi) = some (r, ρ) := by
  simp only [evE, h, h1, h2, hv, hs, Option.bind_some, Option.map_some]
theorem not_ok {T : Tb} {ρ ρ1 : En} {a : IE} {b : Bool} (h : evT T ρ a = some (b, ρ1)) : evT T ρ (.not a) = some (!b, ρ1) := by
  simp only [evT, h, Option.map_some]
theorem add_tup {xs ys : List D} (h : xs.length + ys.length ≤ 1000) : binD .Add (.tuple xs) (.tuple ys) = some (.val (.tuple (xs ++ ys))) := by
  simp only [binD, len_ok (show xs.length + ys.length ≤ 1000000 by omega), if_true]
theorem add_lst {xs ys : List D} (h : xs.length + ys.length ≤ 1000000) : binD .Add (.list xs) (.list ys) = some (.new (xs ++ ys)) := by
  simp only [binD, len_ok h, if_true]
theorem it_en {T : Tb} {ρ ρ1 ρ2 : En} {a : IE} {o : Op} {ds : List D} (h : evE T ρ a = some (o, ρ1)) (hk : keepOp ρ1 o = some (.list ds, ρ2)) : evIt T ρ (.en a) = some (enumD ds, ρ2) := by
  simp only [evIt, h, Option.bind_some, hk]
theorem tupN {T : Tb} {ρ ρ1 ρ2 : En} {es : IEs} {ops : List Op} {ds : List D} (h : evEs T ρ es = some (ops, ρ1)) (hk : keepL ρ1 ops = some (ds, ρ2)) (hl : ds.length ≤ 1000) : evE T ρ (.tup es) = some (.val (.tuple ds), ρ2) := by
  simp only [evE, h, hk, Option.bind_some, len_ok (show ds.length ≤ 1000000 by omega), if_true]
theorem augS_ok {n : Nat} {T : Tb} {ρ : En} {i : Nat} {ix e : IE} {op : Operator} {o o2 : Op} {mt : Bool} {l : List Int} {k b z : Int} {j : Nat} (h0 : ρ[i]? = some (.o mt (l.map .int))) (h1 : evE T ρ ix = some (o, ρ)) (h2 : viewOp ρ o = some (.int k)) (h3 : ixN l.length k = some j) (hj : j < l.length)
    (h4 : evE T ρ e = some (o2, ρ)) (h5 : viewOp ρ o2 = some (.int b)) (h6 : augI op (l.getD j 0) b = some z) : evS n T ρ (.augS i ix op e) = some (.nx (ρ.set i (.o mt ((l.set j z).map .int)))) := by
  have g : (l.map PyData.int)[j]? = some (.int (l.getD j 0)) := by
    rw [List.getElem?_map, List.getElem?_eq_getElem hj, List.getD_eq_getElem?_getD, List.getElem?_eq_getElem hj]; rfl
  have e1 : intE ρ o = some k := by simp only [intE, h2]
  have e2 : intE ρ o2 = some b := by simp only [intE, h5]
  simp only [evS, h0, h1, Option.bind_some, e1, List.length_map, h3, g, h4, e2, h6, Option.map_some, List.map_set]
theorem sub_ok {n : Nat} {T : Tb} {ρ : En} {i : Nat} {ix e : IE} {o o2 : Op} {mt : Bool} {l : List Int} {k z : Int} {j : Nat} (h1 : evE T ρ e = some (o, ρ)) (hk : keepOp ρ o = some (.int z, ρ)) (h0 : ρ[i]? = some (.o mt (l.map .int))) (h2 : evE T ρ ix = some (o2, ρ)) (h3 : viewOp ρ o2 = some (.int k)) (h4 : ixN l.length k = some j) :
    evS n T ρ (.asg (.sub i ix) e) = some (.nx (ρ.set i (.o mt ((l.set j z).map .int)))) := by
  simp only [evS, h1, Option.bind_some, asgT, hk, h0, h2, h3, List.length_map, h4, Option.map_some, List.map_set]
theorem for_step2 {N : Nat} {T : Tb} {ρ : En} {i j : Nat} {x y : D} {b : ISs} {r : Option Oc} (hi : i < ρ.length) (hj : j < ρ.length) (h : evSs N T ((ρ.set i (.v x)).set j (.v y)) b = r) : ((bindT ρ (.tup (.cons (.nm i) (.cons (.nm j) .nil))) (.tuple [x, y])).bind fun ρ2 => evSs N T ρ2 b) = r := by
  have : bindT ρ (.tup (.cons (.nm i) (.cons (.nm j) .nil))) (.tuple [x, y]) = some ((ρ.set i (.v x)).set j (.v y)) := by
    simp only [bindT, bindTs, setE, decide_eq_true hi, if_true, Option.bind_some, List.length_set, decide_eq_true hj]
  rw [this]
  exact h
theorem rep_int {k : Int} (h1 : -1000 ≤ k) (h2 : k ≤ 1000) : binD .Mult (.list [.int 0]) (.int k) = some (.new ((List.replicate k.toNat (0 : Int)).map .int)) := by
  have e : (List.replicate k.toNat [PyData.int 0]).flatten = (List.replicate k.toNat (0 : Int)).map .int := by
    rw [List.map_replicate]
    induction k.toNat with
    | zero => rfl
    | succ n ih => rw [List.replicate_succ, List.flatten_cons, ih, List.replicate_succ]; rfl
  have hl : lenOk ([PyData.int 0].length * k.toNat) = true := len_ok (by simp; omega)
  have hd : decide (-(2 ^ 63) ≤ k ∧ k < 2 ^ 63) = true := decide_eq_true (by omega)
  simp only [binD, hl, hd, Bool.and_self, if_true, e]
theorem eqv_ints : ∀ (A B : List Int), PyData.eqvAll (A.map .int) (B.map .int) = decide (A = B)
  | [], [] => by simp [PyData.eqvAll]
  | [], b :: B => by simp [PyData.eqvAll]
  | a :: A, [] => by simp [PyData.eqvAll]
  | a :: A, b :: B => by
    simp only [List.map_cons, PyData.eqvAll, PyData.eqv, eqv_ints A B, List.cons.injEq, Bool.decide_and]
    rfl
theorem canl_ints : ∀ A : List Int, PyData.canLayAll0 (A.map .int) = true
  | [] => rfl
  | a :: A => by simp [PyData.canLayAll0, PyData.canLay0, canl_ints A]
theorem dep_ints : ∀ A : List Int, PyData.depthAll (A.map .int) = 0
  | [] => rfl
  | a :: A => by simp [PyData.depthAll, PyData.depth, dep_ints A]
theorem shaped_lst (A : List Int) : SeqAt.shaped (.list (A.map .int)) = true := by
  have h1 : (PyData.list (A.map .int)).canLay0 = true := by
    show PyData.canLayAll0 _ = true
    exact canl_ints A
  have h2 : (PyData.list (A.map .int)).depth = 1 := by
    show PyData.depthAll _ + 1 = 1
    rw [dep_ints]
  simp [SeqAt.shaped, h1, h2]
theorem eq_lst (A B : List Int) : cmpD .Eq (.list (A.map .int)) (.list (B.map .int)) = some (decide (A = B)) := by
  unfold cmpD
  simp only [shaped_lst, Bool.and_self, if_true]
  rw [show PyData.eqv (.list (A.map .int)) (.list (B.map .int)) = PyData.eqvAll (A.map .int) (B.map .int) from rfl, eqv_ints]
theorem any_ints (i : Int) : ∀ A : List Int, ((A.map PyData.int).any fun z => PyData.eqv z (.int i)) = decide (i ∈ A)
  | [] => by simp
  | a :: A => by
    rw [List.map_cons, List.any_cons, any_ints i A]
    have : PyData.eqv (.int a) (.int i) = decide (a = i) := by
      have := eqv_ints [a] [i]
      simpa [PyData.eqvAll] using this
    rw [this]
    by_cases h : a = i
    · subst h; simp
    · have : ¬ i = a := fun h' => h h'.symm
      simp [h, this]
theorem in_lst (i : Int) (A : List Int) : cmpD .In (.int i) (.list (A.map .int)) = some (decide (i ∈ A)) := by
  simp only [cmpD, inOk, shaped_int, shaped_lst, Bool.and_self, if_true, any_ints]
theorem notin_lst (i : Int) (A : List Int) : cmpD .NotIn (.int i) (.list (A.map .int)) = some (!decide (i ∈ A)) := by
  simp only [cmpD, inOk, shaped_int, shaped_lst, Bool.and_self, if_true, any_ints]
theorem inI_ints (i : Int) : ∀ A : List Int, inI i (A.map .int) = some (decide (i ∈ A))
  | [] => rfl
  | a :: A => by
    rw [List.map_cons]
    simp only [inI, inI_ints i A, Option.map_some]
    by_cases h : a = i
    · subst h; simp
    · have : ¬ i = a := fun h' => h h'.symm
      simp [h, this]
theorem in_tup (i : Int) (A : List Int) : cmpD .In (.int i) (.tuple (A.map .int)) = some (decide (i ∈ A)) := by
  simp only [cmpD, inI_ints]
theorem notin_tup (i : Int) (A : List Int) : cmpD .NotIn (.int i) (.tuple (A.map .int)) = some (!decide (i ∈ A)) := by
  simp only [cmpD, inI_ints, Option.map_some]
/-- row[:0:-1] -/
theorem revL_0 {α : Type} (a : α) (l : List α) : revL (a :: l) none (some 0) = l.reverse := by
  have e : revIx (a :: l).length none (some 0) = (List.range l.length).map fun k => l.length - k := by
    unfold revIx sliceBounds sliceRange
    simp only [Option.getD_some]
    have h2 : ¬ ((-1 : Int) > 0) := by decide
    simp only [h2, if_false]
    have c0 : max (-1 : Int) (min (if (0 : Int) < 0 then 0 + ((a :: l).length : Int) else 0) (((a :: l).length : Int) - 1)) = 0 := by
      rw [if_neg (by decide), List.length_cons]; omega
    rw [c0]
    have c : (if ((a :: l).length : Int) - 1 > 0 then (((a :: l).length : Int) - 1 - 0 - -1 - 1) / (- -1) else 0).toNat = l.length := by
      have e1 : (-(-1) : Int) = 1 := by decide
      rw [e1, Int.ediv_one, List.length_cons]
      split <;> omega
    rw [c]
    refine List.map_congr_left fun k hk => ?_
    have := List.mem_range.mp hk
    rw [List.length_cons]
    omega
  unfold revL
  rw [e]
  have : ∀ k ∈ (List.range l.length).map (fun k => l.length - k), (a :: l)[k]? = some ((a :: l).getD k a) := fun k hk => by
    obtain ⟨j, hj, rfl⟩ := List.mem_map.mp hk
    have := List.mem_range.mp hj
    rw [List.getD_eq_getElem?_getD, List.getElem?_eq_getElem (by rw [List.length_cons]; omega)]; rfl
  have h2 : ∀ ks : List Nat, (∀ k ∈ ks, (a :: l)[k]? = some ((a :: l).getD k a)) → ks.filterMap (fun x => (a :: l)[x]?) = ks.map fun k => (a :: l).getD k a := by
    intro ks
    induction ks with
    | nil => intro _; rfl
    | cons k ks ih =>
      intro h
      rw [List.filterMap_cons, h k List.mem_cons_self, ih fun k hk => h k (List.mem_cons_of_mem _ hk)]; rfl
  rw [h2 _ this, List.map_map]
  refine List.ext_getElem (by simp) fun i h3 h4 => ?_
  have hi : i < l.length := by simpa using h4
  simp only [List.getElem_map, List.getElem_range, Function.comp, List.getElem_reverse]
  rw [List.getD_eq_getElem?_getD, List.getElem?_eq_getElem (by rw [List.length_cons]; omega), Option.getD_some]
  obtain ⟨j, hj⟩ : ∃ j, l.length - i = j + 1 := ⟨l.length - i - 1, by omega⟩
  simp only [hj, List.getElem_cons_succ]
  congr 1
  omega
end Ev

namespace Od

/-! ### lists of whole numbers, acting on sequences -/
def act : List Int → (Int → Int) → Int → Int
  | [], _, _ => 0
  | a :: f, u, i => a * u i + act f u (i + 1)
def add : List Int → List Int → List Int
  | [], g => g
  | f, [] => f
  | a :: f, b :: g => (a + b) :: add f g
def smul (c : Int) (f : List Int) : List Int := f.map (c * ·)
def mul : List Int → List Int → List Int
  | [], _ => []
  | a :: f, g => if a = 0 then 0 :: mul f g else add (smul a g) (0 :: mul f g)
def Rc (g : List Int) (u : Int → Int) : Prop := ∀ i, act g u i = 0
def Per (n : Nat) (u : Int → Int) : Prop := ∀ i, u (i + n) = u i

theorem act_congr {f : List Int} {u v : Int → Int} (h : ∀ i, u i = v i) (i : Int) : act f u i = act f v i := by
  induction f generalizing i with
  | nil => rfl
  | cons a f ih => simp only [act, ih, h]
theorem act_add (f g : List Int) (u : Int → Int) (i : Int) : act (add f g) u i = act f u i + act g u i := by
  induction f generalizing g i with
  | nil => simp [add, act]
  | cons a f ih =>
    cases g with
    | nil => simp [add, act]
    | cons b g => simp only [add, act, ih, Int.add_mul]; omega
theorem act_smul (c : Int) (f : List Int) (u : Int → Int) (i : Int) : act (smul c f) u i = c * act f u i := by
  induction f generalizing i with
  | nil => simp [smul, act]
  | cons a f ih =>
    have ih := ih (i + 1)
    simp only [smul] at ih
    simp only [smul, List.map_cons, act, ih, Int.mul_add, Int.mul_assoc]
theorem act_append (f g : List Int) (u : Int → Int) (i : Int) : act (f ++ g) u i = act f u i + act g u (i + f.length) := by
  induction f generalizing i with
  | nil => simp [act]
  | cons a f ih =>
    simp only [List.cons_append, act, ih, List.length_cons]
    rw [show i + 1 + (f.length : Int) = i + ((f.length + 1 : Nat) : Int) by omega]
    omega
theorem act_uadd (f : List Int) (u v : Int → Int) (i : Int) : act f (fun j => u j + v j) i = act f u i + act f v i := by
  induction f generalizing i with
  | nil => simp [act]
  | cons a f ih => simp only [act, ih, Int.mul_add]; omega
theorem act_usmul (f : List Int) (c : Int) (u : Int → Int) (i : Int) : act f (fun j => c * u j) i = c * act f u i := by
  induction f generalizing i with
  | nil => simp [act]
  | cons a f ih => simp only [act, ih, Int.mul_add]; rw [Int.mul_left_comm]
theorem act_u0 (f : List Int) (i : Int) : act f (fun _ => 0) i = 0 := by
  induction f generalizing i with
  | nil => rfl
  | cons a f ih => simp only [act, ih]; omega
theorem act_shift (f : List Int) (u : Int → Int) (s i : Int) : act f (fun j => u (j + s)) i = act f u (i + s) := by
  induction f generalizing i with
  | nil => rfl
  | cons a f ih => simp only [act, ih]; rw [show i + 1 + s = i + s + 1 by omega]
theorem act_mul (f g : List Int) (u : Int → Int) (i : Int) : act (mul f g) u i = act f (act g u) i := by
  induction f generalizing i with
  | nil => rfl
  | cons a f ih =>
    unfold mul
    split
    · rename_i h
      subst h
      simp only [act, ih]; omega
    · simp only [act_add, act_smul, act, ih]; omega
theorem act_comm (f g : List Int) (u : Int → Int) (i : Int) : act f (act g u) i = act g (act f u) i := by
  induction f generalizing i with
  | nil => simp only [act]; exact (act_u0 g i).symm
  | cons a f ih =>
    simp only [act, ih]
    rw [act_uadd g (fun k => a * u k) (fun k => act f u (k + 1)), act_usmul, act_shift]
theorem act_per {f : List Int} {u : Int → Int} {n : Nat} (h : Per n u) : Per n (act f u) := fun i => by
  rw [← act_shift]
  exact act_congr h i
theorem Per.emod {n : Nat} {u : Int → Int} (h : Per n u) (hn : 0 < n) (i : Int) : u (i % n) = u i := by
  have k1 : ∀ (k : Nat) (i : Int), u (i + n * k) = u i := by
    intro k
    induction k with
    | zero => intro i; simp
    | succ k ih =>
      intro i
      rw [show i + (n : Int) * ((k + 1 : Nat) : Int) = (i + n) + n * k by rw [Int.natCast_add, Int.mul_add]; simp; omega]
      rw [ih, h]
  have e := Int.emod_add_mul_ediv i n
  rcases Int.eq_nat_or_neg (i / n) with ⟨k, hk | hk⟩
  · rw [hk] at e
    have := k1 k (i % n)
    rw [← this, e]
  · rw [hk] at e
    have := k1 k i
    rw [← this]
    congr 1
    rw [Int.mul_neg] at e
    omega
theorem Per.mod {n : Nat} {u : Int → Int} (h : Per n u) (hn : 0 < n) {i j : Int} (e : i % n = j % n) : u i = u j := by
  rw [← h.emod hn i, e, h.emod hn]
theorem Per.dvd {n m : Nat} {u : Int → Int} (h : Per n u) (hd : n ∣ m) : Per m u := by
  obtain ⟨k, rfl⟩ := hd
  intro i
  induction k generalizing i with
  | zero => simp
  | succ k ih =>
    rw [Nat.mul_succ, Int.natCast_add, ← Int.add_assoc, h, ih]

/-! ### what a division by a kernel's check says -/
def chk (q g f : List Int) : Bool := (add (mul q g) (smul (-1) f)).all (· == 0)
theorem act_zero {f : List Int} (h : f.all (· == 0) = true) (u : Int → Int) (i : Int) : act f u i = 0 := by
  induction f generalizing i with
  | nil => rfl
  | cons a f ih =>
    rw [List.all_cons, Bool.and_eq_true, beq_iff_eq] at h
    simp only [act, ih h.2, h.1]; omega
theorem chk_act {q g f : List Int} (h : chk q g f = true) (u : Int → Int) (i : Int) : act f u i = act q (act g u) i := by
  have := act_zero h u i
  rw [act_add, act_smul, act_mul] at this
  omega
theorem chk_rc {q g f : List Int} (h : chk q g f = true) {u : Int → Int} (r : Rc g u) : Rc f u := fun i => by
  rw [chk_act h, act_congr r, act_u0]

/-! ### sequences that a list kills, from any beginning -/
def dot : List Int → List Int → Int
  | a :: f, b :: g => a * b + dot f g
  | _, _ => 0
def nxt (g s : List Int) : List Int := s.tail ++ [-(dot g s)]
def sts (g s : List Int) : Nat → List Int
  | 0 => s
  | k + 1 => nxt g (sts g s k)
theorem sts_len {g s : List Int} (hs : 0 < s.length) (k : Nat) : (sts g s k).length = s.length := by
  induction k with
  | zero => rfl
  | succ k ih => simp only [sts, nxt, List.length_append, List.length_tail, ih, List.length_singleton]; omega
def sq (g s : List Int) (k : Nat) : Int := (sts g s k).headD 0
theorem sts_at {g s : List Int} (hs : 0 < s.length) (k j : Nat) (hj : j < s.length) : (sts g s k).getD j 0 = sq g s (k + j) := by
  induction j generalizing k with
  | zero =>
    unfold sq
    cases h : sts g s k with
    | nil => have := sts_len (g := g) hs k; rw [h] at this; simp at this; omega
    | cons a l => simp [h]
  | succ j ih =>
    have h := ih (k + 1) (by omega)
    rw [show k + (j + 1) = k + 1 + j by omega, ← h]
    simp only [sts, nxt]
    cases e : sts g s k with
    | nil => have := sts_len (g := g) hs k; rw [e] at this; simp at this; omega
    | cons a l =>
      have hl := sts_len (g := g) hs k
      rw [e] at hl
      simp only [List.length_cons] at hl
      simp only [List.getD_cons_succ, List.tail_cons]
      rw [List.getD_eq_getElem?_getD, List.getD_eq_getElem?_getD, List.getElem?_append_left (by omega)]
theorem act_dot {v : Int → Int} {f s : List Int} {i : Int} (hl : f.length = s.length) (h : ∀ j : Nat, j < s.length → s.getD j 0 = v (i + j)) : act f v i = dot f s := by
  induction f generalizing s i with
  | nil => rfl
  | cons a f ih =>
    cases s with
    | nil => cases hl
    | cons b s =>
      simp only [List.length_cons, Nat.add_right_cancel_iff] at hl
      simp only [act, dot]
      rw [ih hl fun j hj => ?_]
      · have := h 0 (by simp)
        simp at this
        rw [this]
      · have := h (j + 1) (by simp; omega)
        rw [List.getD_cons_succ] at this
        rw [this]
        congr 1
        omega
/-- a sequence over the natural numbers, led on below 0 by its period -/
theorem exists_rc {g : List Int} {n : Nat} (hn : 0 < n) (hper : ∀ u : Nat → Int, (∀ i : Nat, act (g ++ [1]) (fun j => u j.toNat) i = 0) → ∀ i, u (i + n) = u i) (hg : 0 < g.length) (s : List Int) (hs : s.length = g.length) :
    ∃ u, Rc (g ++ [1]) u ∧ Per n u ∧ ∀ j : Nat, j < s.length → u j = s.getD j 0 := by
  have hs0 : 0 < s.length := by omega
  have r0 : ∀ i : Nat, act (g ++ [1]) (fun j => sq g s j.toNat) i = 0 := by
    intro i
    rw [act_append, act_dot (s := sts g s i) (by rw [sts_len hs0, hs])]
    · simp only [act]
      have e : ((i : Int) + (g.length : Int)).toNat = i + 1 + (g.length - 1) := by omega
      rw [e, ← sts_at hs0 (i + 1) (g.length - 1) (by omega)]
      simp only [sts, nxt]
      have hl : (sts g s i).tail.length = g.length - 1 := by rw [List.length_tail, sts_len hs0, hs]
      rw [List.getD_eq_getElem?_getD, List.getElem?_append_right (by omega), hl]
      simp
      omega
    · intro j hj
      rw [sts_len hs0] at hj
      rw [sts_at hs0 _ _ hj]
      show sq g s (i + j) = sq g s ((i : Int) + (j : Int)).toNat
      congr 1
  have hp := hper (sq g s) r0
  have hpm : ∀ k i : Nat, sq g s (i + n * k) = sq g s i := by
    intro k
    induction k with
    | zero => intro i; rfl
    | succ k ih => intro i; rw [Nat.mul_succ, ← Nat.add_assoc, hp, ih]
  have hpn : ∀ i : Nat, sq g s (i % n) = sq g s i := by
    intro i
    have := hpm (i / n) (i % n)
    rw [← this, Nat.mod_add_div]
  have key : ∀ (i : Int) (j : Nat), sq g s ((i + j) % n).toNat = sq g s ((i % n).toNat + j) := by
    intro i j
    rw [← hpn ((i % n).toNat + j)]
    congr 1
    have h0 : 0 ≤ i % (n : Int) := Int.emod_nonneg _ (by omega)
    have h1 : 0 ≤ (i + j) % (n : Int) := Int.emod_nonneg _ (by omega)
    apply Int.ofNat.inj
    show (((i + j) % (n : Int)).toNat : Int) = (((i % (n : Int)).toNat + j) % n : Nat)
    rw [Int.toNat_of_nonneg h1, Int.natCast_emod, Int.natCast_add, Int.toNat_of_nonneg h0, Int.emod_add_emod]
  refine ⟨fun i => sq g s (i % n).toNat, fun i => ?_, fun i => ?_, fun j hj => ?_⟩
  · have : act (g ++ [1]) (fun i => sq g s (i % n).toNat) i = act (g ++ [1]) (fun j => sq g s j.toNat) ((i % n).toNat : Nat) := by
      have h := key i
      generalize (i % (n : Int)).toNat = m at h ⊢
      have : ∀ (f : List Int) (k : Nat), act f (fun i => sq g s (i % n).toNat) (i + k) = act f (fun j => sq g s j.toNat) ((m + k : Nat) : Int) := by
        intro f
        induction f with
        | nil => intro k; rfl
        | cons a f ih =>
          intro k
          simp only [act]
          have := ih (k + 1)
          rw [show i + k + 1 = i + ((k + 1 : Nat) : Int) by omega, this, h k]
          rw [show ((m + k : Nat) : Int).toNat = m + k by omega]
          congr 1
      have := this (g ++ [1]) 0
      simpa using this
    rw [this, r0]
  · show sq g s ((i + n) % n).toNat = _
    rw [Int.add_emod_right]
  · show sq g s ((j : Int) % n).toNat = _
    have := key 0 j
    simp only [Int.zero_add, Int.zero_emod] at this
    rw [this]
    simp only [Int.toNat_zero, Nat.zero_add]
    have := sts_at (g := g) hs0 0 j hj
    rw [Nat.zero_add] at this
    rw [← this]
    rfl
theorem dot_self {r : List Int} (h : dot r r = 0) : r.all (· == 0) = true := by
  have pos : ∀ l : List Int, 0 ≤ dot l l := by
    intro l
    induction l with
    | nil => exact Int.le_refl _
    | cons a l ih =>
      simp only [dot]
      have : 0 ≤ a * a := by
        rcases Int.le_total 0 a with z | z
        · exact Int.mul_nonneg z z
        · exact Int.mul_nonneg_of_nonpos_of_nonpos z z
      omega
  induction r with
  | nil => rfl
  | cons a l ih =>
    simp only [dot] at h
    have h1 := pos l
    have h2 : 0 ≤ a * a := by
      rcases Int.le_total 0 a with z | z
      · exact Int.mul_nonneg z z
      · exact Int.mul_nonneg_of_nonpos_of_nonpos z z
    have h3 : a * a = 0 := by omega
    have h4 : a = 0 := by
      rcases Int.mul_eq_zero.mp h3 with z | z <;> exact z
    rw [List.all_cons, ih (by omega), h4]
    rfl
end Od

namespace Od

/-! ### 1 - x^s, and what the kernel checks of an order -/
def om (s : Nat) : List Int := 1 :: (List.replicate (s - 1) 0 ++ [-1])
def xm (n : Nat) : List Int := -1 :: (List.replicate (n - 1) 0 ++ [1])
theorem act_rep0 (k : Nat) (u : Int → Int) (i : Int) : act (List.replicate k 0) u i = 0 := by
  induction k generalizing i with
  | zero => rfl
  | succ k ih => rw [List.replicate_succ]; simp only [act, ih]; omega
theorem act_om {s : Nat} (hs : 0 < s) (u : Int → Int) (i : Int) : act (om s) u i = u i - u (i + s) := by
  simp only [om, act, act_append, act_rep0, List.length_replicate]
  rw [show i + 1 + ((s - 1 : Nat) : Int) = i + s by omega]
  omega
theorem act_xm {s : Nat} (hs : 0 < s) (u : Int → Int) (i : Int) : act (xm s) u i = u (i + s) - u i := by
  simp only [xm, act, act_append, act_rep0, List.length_replicate]
  rw [show i + 1 + ((s - 1 : Nat) : Int) = i + s by omega]
  omega
theorem rc_xm {n : Nat} (hn : 0 < n) (u : Int → Int) : Rc (xm n) u ↔ Per n u := by
  constructor
  · intro h i
    have := h i
    rw [act_xm hn] at this
    omega
  · intro h i
    rw [act_xm hn, h i]; omega
def dl (n : Nat) (ps : List Nat) : List Int := ps.foldr (fun p d => mul (om (n / p)) d) [1]
def vp (s p : Nat) : List Int := (List.range p).foldr (fun (t : Nat) l => add (smul ((p : Int) - 1 - t) (List.replicate (t * s) 0 ++ [1])) l) []
def vl (n : Nat) (ps : List Nat) : List Int := ps.foldr (fun p d => mul (vp (n / p) p) d) [1]
def subs : List Int → List Int → Int → List Int
  | x :: f, y :: g, a => (x - a * y) :: subs f g a
  | f, _, _ => f
def quoD : Nat → List Int → List Int → List Int
  | k + 1, a :: f, g => a :: quoD k (subs f g.tail a) g
  | _, _, _ => []
def quo (f g : List Int) : List Int := (quoD (f.length - g.length + 1) f.reverse g.reverse).reverse
def ckq (g f : List Int) : Bool := chk (quo f g) g f
/-- what is checked of an order, its prime parts and its polynomial -/
def okO (n : Nat) (ps : List Nat) (g : List Int) : Bool :=
  decide (0 < n) && ps.all (fun p => decide (0 < p) && decide (0 < n / p) && decide (n / p * p = n)) && decide (2 ≤ g.length) && decide (g.getLast? = some 1) && ckq g (xm n) &&
    ckq g (add (mul (dl n ps) (vl n ps)) [-((ps.foldr (fun (p : Nat) (c : Int) => (p : Int) * c) 1))]) && decide (ps.foldr (fun (p : Nat) (c : Int) => (p : Int) * c) 1 ≠ 0) && ckq (xm n) (mul g (dl n ps)) && (g.reverse == g || g.reverse == smul (-1) g)
structure OkO (n : Nat) (ps : List Nat) (g : List Int) : Prop where
  n0 : 0 < n
  ps0 : ∀ p ∈ ps, 0 < n / p
  psn : ∀ p ∈ ps, n / p * p = n
  low : ∃ l, g = l ++ [1] ∧ 0 < l.length
  per : ∃ q, ∀ (u : Int → Int) (i : Int), act (xm n) u i = act q (act g u) i
  inv : ∃ c : Int, c ≠ 0 ∧ ∀ u, Rc g u → ∀ i, act (dl n ps) (act (vl n ps) u) i = c * u i
  ann : ∀ w, Per n w → Rc g (act (dl n ps) w)
  pal : g.reverse = g ∨ g.reverse = smul (-1) g
theorem okO_by {n : Nat} {ps : List Nat} {g : List Int} (h : okO n ps g = true) : OkO n ps g := by
  unfold okO at h
  simp only [Bool.and_eq_true, decide_eq_true_eq, List.all_eq_true, Bool.or_eq_true, beq_iff_eq] at h
  obtain ⟨⟨⟨⟨⟨⟨⟨⟨h1, h2⟩, h3⟩, h4⟩, h5⟩, h6⟩, h7⟩, h8⟩, h9⟩ := h
  refine ⟨h1, fun p hp => (h2 p hp).1.2, fun p hp => (h2 p hp).2, ?_, ⟨_, chk_act h5⟩, ⟨_, h7, fun u hu i => ?_⟩, fun w hw i => ?_, h9⟩
  · rw [List.getLast?_eq_some_iff] at h4
    obtain ⟨l, rfl⟩ := h4
    exact ⟨l, rfl, by simp at h3; omega⟩
  · have := chk_rc h6 hu i
    rw [act_add, act_mul] at this
    simp only [act] at this
    rw [Int.neg_mul] at this
    omega
  · rw [← act_mul]
    exact chk_rc h8 ((rc_xm h1 w).mpr hw) i
variable {n : Nat} {ps : List Nat} {g : List Int}
theorem OkO.Per (ok : OkO n ps g) {u : Int → Int} (h : Rc g u) : Per n u := by
  refine (rc_xm ok.n0 u).mp fun i => ?_
  obtain ⟨q, e⟩ := ok.per
  rw [e u i, act_congr h, act_u0]
theorem act_nat0 {q : List Int} {v : Int → Int} {i : Int} (h : ∀ j : Nat, v (i + j) = 0) : act q v i = 0 := by
  induction q generalizing i with
  | nil => rfl
  | cons a q ih =>
    simp only [act]
    rw [ih fun j => ?_]
    · have := h 0
      simp at this
      rw [this]; simp
    · have := h (j + 1)
      rw [← this]; congr 1; omega
/-- all remainders of what has the remainder r -/
def Rem (g f r : List Int) : Prop := r.length + 1 = g.length ∧ ∀ u, Rc g u → ∀ i, act r u i = act f u i
/-- the polynomial divides the row's -/
def Zr (g f : List Int) : Prop := ∀ u, Rc g u → ∀ i, act f u i = 0
theorem dot_at {w : Int → Int} {R : List Int} (h : ∀ j : Nat, j < R.length → w j = R.getD j 0) : act R w 0 = dot R R :=
  act_dot rfl fun j hj => by rw [Int.zero_add]; exact (h j hj).symm
theorem OkO.rem_zero (ok : OkO n ps g) {f r : List Int} (h : Rem g f r) : r.all (· == 0) = true ↔ Zr g f := by
  constructor
  · intro z u hu i
    rw [← h.2 u hu i, act_zero z]
  · intro z
    obtain ⟨l, rfl, hl⟩ := ok.low
    have hlen : r.length = l.length := by have := h.1; simp at this; omega
    have hp : ∀ u : Nat → Int, (∀ i : Nat, act (l ++ [1]) (fun j => u j.toNat) i = 0) → ∀ i, u (i + n) = u i := by
      intro u hu i
      obtain ⟨q, e⟩ := ok.per
      have := e (fun j => u j.toNat) i
      rw [act_nat0 (v := act (l ++ [1]) (fun j => u j.toNat)) (fun j => by have := hu (i + j); rwa [Int.natCast_add] at this), act_xm ok.n0] at this
      have e1 : ((i : Int) + (n : Int)).toNat = i + n := by omega
      have e2 : (i : Int).toNat = i := by omega
      simp only [e1, e2] at this
      omega
    obtain ⟨u, hu, _, hi⟩ := exists_rc (g := l) (n := n) ok.n0 hp hl r hlen
    refine dot_self ?_
    rw [← dot_at (w := u) hi, h.2 u hu, z u hu]
/-- a row as a sequence that comes round -/
def seqO (n : Nat) (R : List Int) (j : Int) : Int := R.getD (j % n).toNat 0
theorem seqO_per {n : Nat} (R : List Int) : Od.Per n (seqO n R) := fun i => by
  unfold seqO; rw [Int.add_emod_right]
theorem seqO_at {n : Nat} (R : List Int) {j : Nat} (h : j < n) : seqO n R j = R.getD j 0 := by
  unfold seqO
  rw [Int.emod_eq_of_lt (by omega) (by omega)]
  rfl
theorem OkO.crit (ok : OkO n ps g) {f R : List Int} (hR : R.length = n) (ha : ∀ w, Od.Per n w → ∀ i, act R w i = act (dl n ps) (act f w) i) : R.all (· == 0) = true ↔ Zr g f := by
  constructor
  · intro z u hu i
    obtain ⟨c, c0, hc⟩ := ok.inv
    have hp := ok.Per hu
    have h1 := ha (act (vl n ps) u) (act_per hp) i
    rw [act_zero z] at h1
    have h2 : act (dl n ps) (act f (act (vl n ps) u)) i = act f (fun j => c * u j) i := by
      rw [act_comm]
      exact act_congr (fun j => hc u hu j) i
    rw [h2, act_usmul] at h1
    rcases Int.mul_eq_zero.mp h1.symm with k | k
    · exact absurd k c0
    · exact k
  · intro z
    refine dot_self ?_
    rw [← dot_at (w := seqO n R) fun j hj => seqO_at R (by omega), ha _ (seqO_per R), act_comm]
    exact z _ (ok.ann _ (seqO_per R)) 0
def str (f : List Int) (p : Nat) : List Int :=
  match f with
  | [] => []
  | [a] => [a]
  | a :: f => a :: (List.replicate (p - 1) 0 ++ str f p)
def prs : Nat → Nat → Nat → List Nat
  | 0, _, _ => []
  | k + 1, n, p => if n ≤ 1 then [] else if n % p = 0 then p :: prs k (n / p) p else prs k n (p + 1)
def cyT (n : Nat) : List Int := ((prs (n + 10) n 2).foldl (fun (x : List Int × Nat) p => (if x.2 % p = 0 then str x.1 p else quo (str x.1 p) x.1, x.2 * p)) ([-1, 1], 1)).1
def prm (n : Nat) : List Nat := ((prs (n + 10) n 2).foldl (fun l p => if l.contains p then l else l ++ [p]) [])
end Od

namespace Od
theorem act_set {l : List Int} {k : Nat} (h : k < l.length) (c x : Int) (hx : x = l.getD k 0 + c) (w : Int → Int) (i : Int) : act (l.set k x) w i = act l w i + c * w (i + k) := by
  subst hx
  induction l generalizing k i with
  | nil => cases h
  | cons a l ih =>
    cases k with
    | zero => simp only [List.set_cons_zero, act, List.getD_cons_zero, Int.add_mul]; simp; omega
    | succ k =>
      simp only [List.length_cons, Nat.add_lt_add_iff_right] at h
      simp only [List.set_cons_succ, act, List.getD_cons_succ, ih h]
      rw [show i + 1 + (k : Int) = i + ((k + 1 : Nat) : Int) by omega]
      omega
theorem act_take_succ {l : List Int} {k : Nat} (h : k < l.length) (w : Int → Int) (i : Int) : act (l.take (k + 1)) w i = act (l.take k) w i + l.getD k 0 * w (i + k) := by
  rw [List.take_succ, List.getElem?_eq_getElem h]
  simp only [Option.toList, act_append, act, List.length_take, Nat.min_eq_left (Nat.le_of_lt h), List.getD_eq_getElem?_getD, List.getElem?_eq_getElem h, Option.getD_some]
  omega
/-! ### a division's turns -/
def psum (u : Int → Int) (j : Int) : List (Nat × Int) → Int
  | [] => 0
  | p :: ps => p.2 * u (j + p.1) + psum u j ps
def enl (low : List Int) : List (Nat × Int) := (List.range low.length).zipWith Prod.mk low
theorem psum_enl (u : Int → Int) (j : Int) (low : List Int) : psum u j (enl low) = act low u j := by
  have : ∀ (low : List Int) (s : Nat), psum u j ((List.range' s low.length).zipWith Prod.mk low) = act low u (j + s) := by
    intro low
    induction low with
    | nil => intro s; rfl
    | cons a l ih =>
      intro s
      simp only [List.length_cons, List.range'_succ, List.zipWith_cons_cons, psum, act, ih]
      rw [show j + (s : Int) + 1 = j + ((s + 1 : Nat) : Int) by omega]
  have h := this low 0
  rw [← List.range_eq_range'] at h
  show psum u j ((List.range low.length).zipWith Prod.mk low) = _
  rw [h]; simp
theorem psum_filter (u : Int → Int) (j : Int) (ps : List (Nat × Int)) : psum u j (ps.filter fun p => p.2 != 0) = psum u j ps := by
  induction ps with
  | nil => rfl
  | cons p ps ih =>
    by_cases h : p.2 = 0
    · rw [List.filter_cons_of_neg (by simp [h]), ih]; simp [psum, h]
    · rw [List.filter_cons_of_pos (by simp [h])]; simp only [psum, ih]
def parts (low : List Int) : List (Nat × Int) := (enl low).filter fun p => p.2 != 0
theorem parts_lt {low : List Int} {p : Nat × Int} (h : p ∈ parts low) : p.1 < low.length ∧ p.2 ∈ low := by
  have h := (List.mem_filter.mp h).1
  have h : p ∈ (List.range low.length).zip low := h
  have := List.of_mem_zip h
  exact ⟨List.mem_range.mp this.1, this.2⟩
def sub1 (k : Nat) (s : Int) (r : List Int) (ps : List (Nat × Int)) : List Int := ps.foldl (fun r p => r.set (k + p.1) (r.getD (k + p.1) 0 - s * p.2)) r
theorem sub1_len (k : Nat) (s : Int) (r : List Int) (ps : List (Nat × Int)) : (sub1 k s r ps).length = r.length := by
  unfold sub1
  induction ps generalizing r with
  | nil => rfl
  | cons p ps ih => rw [List.foldl_cons, ih, List.length_set]
theorem sub1_act (k : Nat) (s : Int) (r : List Int) (ps : List (Nat × Int)) {T : Nat} (hT : T ≤ r.length) (hp : ∀ p ∈ ps, k + p.1 < T) (u : Int → Int) (i : Int) :
    act ((sub1 k s r ps).take T) u i = act (r.take T) u i - s * psum u (i + k) ps := by
  unfold sub1
  induction ps generalizing r with
  | nil => simp [psum]
  | cons p ps ih =>
    have h0 := hp p List.mem_cons_self
    rw [List.foldl_cons, ih _ (by rw [List.length_set]; exact hT) fun q hq => hp q (List.mem_cons_of_mem _ hq)]
    rw [List.take_set, act_set (c := -(s * p.2)) (by rw [List.length_take]; omega)]
    · simp only [psum, Int.mul_add, Int.neg_mul, Int.mul_assoc]
      rw [show i + ((k + p.1 : Nat) : Int) = i + (k : Int) + (p.1 : Int) by omega]
      omega
    · have : (r.take T).getD (k + p.1) 0 = r.getD (k + p.1) 0 := by
        rw [List.getD_eq_getElem?_getD, List.getD_eq_getElem?_getD, List.getElem?_take_of_lt h0]
      rw [this]; omega
def divS (d : Nat) (ps : List (Nat × Int)) (q : List Int × List Int) (top : Nat) : List Int × List Int :=
  if q.2.getD top 0 = 0 then q else (q.1.set (top - d) (q.2.getD top 0), sub1 (top - d) (q.2.getD top 0) q.2 ps)
def tops (n d : Nat) : List Nat := (List.range (n - d)).map fun i => n - 1 - i
def divP (f low : List Int) : List Int × List Int := (tops f.length low.length).foldl (divS low.length (parts low)) (List.replicate (f.length - low.length) 0, f)
structure DivI (f low : List Int) (t : Nat) (q : List Int × List Int) : Prop where
  l1 : q.1.length = f.length - low.length
  l2 : q.2.length = f.length
  z : ∀ j, j + t < f.length - low.length → q.1.getD j 0 = 0
  a : ∀ u i, act f u i = act (q.2.take (f.length - t)) u i + act q.1 (act (low ++ [1]) u) i
theorem DivI.step {f low : List Int} {t : Nat} {q : List Int × List Int} (h : DivI f low t q) (ht : t < f.length - low.length) : DivI f low (t + 1) (divS low.length (parts low) q (f.length - 1 - t)) := by
  have e0 : f.length - t = f.length - 1 - t + 1 := by omega
  have hk := act_take_succ (l := q.2) (k := f.length - 1 - t) (by rw [h.l2]; omega)
  have e1 : f.length - (t + 1) = f.length - 1 - t := by omega
  unfold divS
  split
  · rename_i hz
    refine ⟨h.l1, h.l2, fun j hj => h.z j (by omega), fun u i => ?_⟩
    rw [h.a u i, e0, hk, hz, e1]; simp
  · refine ⟨by rw [List.length_set]; exact h.l1, by rw [sub1_len]; exact h.l2, fun j hj => ?_, fun u i => ?_⟩
    · show (q.1.set _ _).getD j 0 = 0
      rw [List.getD_eq_getElem?_getD, List.getElem?_set_ne (by omega), ← List.getD_eq_getElem?_getD]
      exact h.z j (by omega)
    · rw [h.a u i, e0, hk, e1]
      rw [sub1_act _ _ _ _ (by rw [h.l2]; omega) (fun p hp => by have := (parts_lt hp).1; omega)]
      unfold parts
      rw [psum_filter, psum_enl]
      rw [act_set (c := q.2.getD (f.length - 1 - t) 0) (by rw [h.l1]; omega) _ (by rw [h.z _ (by omega)]; omega)]
      have : act (low ++ [1]) u (i + ((f.length - 1 - t - low.length : Nat) : Int)) = act low u (i + ((f.length - 1 - t - low.length : Nat) : Int)) + u (i + ((f.length - 1 - t : Nat) : Int)) := by
        rw [act_append]
        simp only [act]
        rw [show i + ((f.length - 1 - t - low.length : Nat) : Int) + (low.length : Int) = i + ((f.length - 1 - t : Nat) : Int) by omega]
        omega
      rw [this, Int.mul_add]
      omega
theorem divP_inv (f low : List Int) : DivI f low (f.length - low.length) (divP f low) := by
  have h0 : DivI f low 0 (List.replicate (f.length - low.length) 0, f) := by
    refine ⟨by simp, rfl, fun j hj => ?_, fun u i => ?_⟩
    · rw [List.getD_eq_getElem?_getD, List.getElem?_replicate]; split <;> rfl
    · rw [act_rep0, Nat.sub_zero, List.take_length]; simp
  have : ∀ t, t ≤ f.length - low.length → DivI f low t (((List.range t).map fun i => f.length - 1 - i).foldl (divS low.length (parts low)) (List.replicate (f.length - low.length) 0, f)) := by
    intro t
    induction t with
    | zero => intro _; exact h0
    | succ t ih =>
      intro ht
      rw [List.range_succ, List.map_append, List.foldl_append]
      exact (ih (by omega)).step (by omega)
  exact this _ (Nat.le_refl _)
def remP (f low : List Int) : List Int := (divP f low).2.take low.length ++ List.replicate (low.length - f.length) 0
theorem remP_rem (f low : List Int) : Rem (low ++ [1]) f (remP f low) := by
  have h := divP_inv f low
  refine ⟨?_, fun u hu i => ?_⟩
  · unfold remP
    rw [List.length_append, List.length_take, h.l2, List.length_replicate, List.length_append]
    simp; omega
  · have := h.a u i
    rw [act_congr (f := (divP f low).1) (v := fun _ => 0) hu, act_u0] at this
    unfold remP
    rw [act_append, act_rep0, this]
    by_cases hl : low.length ≤ f.length
    · rw [show f.length - (f.length - low.length) = low.length by omega]
    · rw [List.take_of_length_le (by rw [h.l2]; omega), List.take_of_length_le (by rw [h.l2]; omega)]
/-! ### rows turned, mirrored, folded -/
theorem act_rot {f : List Int} {w : Int → Int} (hw : Od.Per f.length w) {a : Nat} (ha : a ≤ f.length) (i : Int) : act (f.drop a ++ f.take a) w i = act f w (i - a) := by
  have h : act f w (i - a) = act (f.take a) w (i - a) + act (f.drop a) w i := by
    have := act_append (f.take a) (f.drop a) w (i - a)
    rw [List.take_append_drop, List.length_take, Nat.min_eq_left ha] at this
    rw [this]; congr 2; omega
  rw [act_append, h, List.length_drop]
  have : act (f.take a) w (i + ((f.length - a : Nat) : Int)) = act (f.take a) w (i - a) := by
    rw [show i + ((f.length - a : Nat) : Int) = (i - a) + (f.length : Int) by omega]
    exact act_per hw _
  rw [this]; omega
theorem act_reverse (l : List Int) (w : Int → Int) (i k : Int) : act l.reverse w i = act l (fun j => w (i + l.length - 1 + k - j)) k := by
  induction l generalizing k with
  | nil => rfl
  | cons a l ih =>
    rw [List.reverse_cons, act_append, ih (k + 1)]
    simp only [act, List.length_reverse, List.length_cons]
    have e : (fun j => w (i + (l.length : Int) - 1 + (k + 1) - j)) = fun j => w (i + ((l.length + 1 : Nat) : Int) - 1 + k - j) := by
      funext j; congr 1; omega
    rw [e, show i + ((l.length + 1 : Nat) : Int) - 1 + k - k = i + (l.length : Int) by omega]
    omega
theorem act_mir (a : Int) (l : List Int) {w : Int → Int} (hw : Per (l.length + 1) w) (i : Int) : act (a :: l.reverse) w i = act (a :: l) (fun j => w (2 * i - j)) i := by
  simp only [act]
  rw [act_reverse l w (i + 1) (i + 1), show 2 * i - i = i by omega]
  congr 1
  refine act_congr (fun j => ?_) _
  have := hw (2 * i - j)
  rw [← this]; congr 1; omega
variable {n : Nat} {ps : List Nat} {g : List Int}
theorem OkO.zr_mir (ok : OkO n ps g) {a : Int} {l : List Int} (hn : n ∣ l.length + 1) : Zr g (a :: l.reverse) ↔ Zr g (a :: l) := by
  have rc : ∀ u, Rc g u → ∀ c : Int, Rc g (fun j => u (c - j)) := by
    intro u hu c k
    have h := act_reverse g u (c - k - g.length + 1) k
    have e : (fun j => u (c - k - (g.length : Int) + 1 + (g.length : Int) - 1 + k - j)) = fun j => u (c - j) := by funext j; congr 1; omega
    rw [e] at h
    rw [← h]
    rcases ok.pal with p | p
    · rw [p]; exact hu _
    · rw [p, act_smul, hu]; rfl
  constructor
  · intro h u hu i
    have := h (fun j => u (2 * i - j)) (rc u hu _) i
    have hp : Od.Per (l.length + 1) (fun j => u (2 * i - j)) := (ok.Per (rc u hu (2 * i))).dvd hn
    rw [act_mir a l hp] at this
    rw [← this]
    refine act_congr (fun j => ?_) _
    show u j = u (2 * i - (2 * i - j))
    congr 1; omega
  · intro h u hu i
    rw [act_mir a l ((ok.Per hu).dvd hn)]
    exact h _ (rc u hu _) i
theorem OkO.zr_rot (ok : OkO n ps g) {f : List Int} (hn : n ∣ f.length) {a : Nat} (ha : a ≤ f.length) : Zr g (f.drop a ++ f.take a) ↔ Zr g f := by
  constructor
  · intro h u hu i
    have := h u hu (i + a)
    rw [act_rot ((ok.Per hu).dvd hn) ha] at this
    rw [← this]; congr 1; omega
  · intro h u hu i
    rw [act_rot ((ok.Per hu).dvd hn) ha]
    exact h u hu _
theorem act_map_mul (f : List Int) (c : Int) (w : Int → Int) (i : Int) : act (f.map (· * c)) w i = c * act f w i := by
  have : f.map (· * c) = smul c f := by
    unfold smul; congr 1; funext x; exact Int.mul_comm _ _
  rw [this, act_smul]
theorem zr_scale {f : List Int} {c : Int} (hc : c ≠ 0) : Zr g (f.map (· * c)) ↔ Zr g f := by
  constructor
  · intro h u hu i
    have := h u hu i
    rw [act_map_mul] at this
    rcases Int.mul_eq_zero.mp this with z | z
    · exact absurd z hc
    · exact z
  · intro h u hu i
    rw [act_map_mul, h u hu]; simp
/-- [r[k] - r[k - s] for k in range(n)] -/
def cyd (n s : Nat) (r : List Int) : List Int := (List.range n).map fun k => r.getD k 0 - r.getD ((k + n - s) % n) 0
theorem act_zip_sub {f h : List Int} (hl : f.length = h.length) (w : Int → Int) (i : Int) : act (f.zipWith (· - ·) h) w i = act f w i - act h w i := by
  induction f generalizing h i with
  | nil => cases h with
    | nil => simp [act]
    | cons b h => cases hl
  | cons a f ih => cases h with
    | nil => cases hl
    | cons b h =>
      simp only [List.length_cons, Nat.add_right_cancel_iff] at hl
      simp only [List.zipWith_cons_cons, act, ih hl, Int.sub_mul]; omega
theorem cyd_zip {n s : Nat} {r : List Int} (hr : r.length = n) (hs : s ≤ n) (h0 : 0 < s) : cyd n s r = r.zipWith (· - ·) (r.drop (n - s) ++ r.take (n - s)) := by
  refine List.ext_getElem (by simp [cyd, hr]) fun k h1 h2 => ?_
  have hk : k < n := by simpa [cyd] using h1
  simp only [cyd, List.getElem_map, List.getElem_range, List.getElem_zipWith]
  rw [List.getD_eq_getElem?_getD, List.getElem?_eq_getElem (by omega), Option.getD_some]
  congr 1
  rw [List.getElem_append]
  split
  · rename_i h3
    rw [List.length_drop] at h3
    rw [Nat.mod_eq_of_lt (by omega), List.getD_eq_getElem?_getD, List.getElem?_eq_getElem (by omega), Option.getD_some, List.getElem_drop]
    congr 1; omega
  · rename_i h3
    rw [List.length_drop] at h3
    have : (k + n - s) % n = k - s := by
      rw [show k + n - s = (k - s) + n by omega, Nat.add_mod_right, Nat.mod_eq_of_lt (by omega)]
    rw [this, List.getD_eq_getElem?_getD, List.getElem?_eq_getElem (by omega), Option.getD_some, List.getElem_take]
    congr 1
    rw [List.length_drop]; omega
theorem act_cyd {n s : Nat} {r : List Int} (hr : r.length = n) (hs : s ≤ n) (h0 : 0 < s) {w : Int → Int} (hw : Per n w) (i : Int) : act (cyd n s r) w i = act r w i - act r w (i + s) := by
  rw [cyd_zip hr hs h0, act_zip_sub (by simp; omega), act_rot (by rw [hr]; exact hw) (by omega)]
  have : act r w (i - ((n - s : Nat) : Int)) = act r w (i + s) := by
    rw [← act_per hw (i - ((n - s : Nat) : Int))]
    congr 1; omega
  rw [this]
theorem cyd_len (n s : Nat) (r : List Int) : (cyd n s r).length = n := by simp [cyd]
def cyds (n : Nat) (r : List Int) (ps : List Nat) : List Int := ps.foldl (fun r p => cyd n (n / p) r) r
theorem act_cyds {n : Nat} {ps : List Nat} (h0 : ∀ p ∈ ps, 0 < n / p) {r : List Int} (hr : r.length = n) {w : Int → Int} (hw : Per n w) (i : Int) : (cyds n r ps).length = n ∧ act (cyds n r ps) w i = act (dl n ps) (act r w) i := by
  unfold cyds dl
  induction ps generalizing r i with
  | nil => exact ⟨hr, by simp [act]⟩
  | cons p ps ih =>
    obtain ⟨h1, h2⟩ := ih (fun q hq => h0 q (List.mem_cons_of_mem _ hq)) (r := cyd n (n / p) r) (cyd_len _ _ _) i
    refine ⟨h1, ?_⟩
    rw [List.foldl_cons, h2, List.foldr_cons, act_mul]
    have hp := h0 p List.mem_cons_self
    rw [act_comm (om (n / p))]
    refine act_congr (fun j => ?_) i
    rw [act_cyd hr (Nat.div_le_self _ _) hp hw, act_om hp]
/-- numbers folded onto n places -/
def ledS (n : Nat) (f : List Int) (r : List Int) (k : Nat) : List Int := r.set (k % n) (r.getD (k % n) 0 + f.getD k 0)
def led (n : Nat) (f : List Int) : List Int := (List.range f.length).foldl (ledS n f) (List.replicate n 0)
theorem led_ok {n : Nat} (hn : 0 < n) (f : List Int) {w : Int → Int} (hw : Per n w) (i : Int) : (led n f).length = n ∧ act (led n f) w i = act f w i := by
  have : ∀ t, t ≤ f.length → ((List.range t).foldl (ledS n f) (List.replicate n 0)).length = n ∧ act ((List.range t).foldl (ledS n f) (List.replicate n 0)) w i = act (f.take t) w i := by
    intro t
    induction t with
    | zero => intro _; exact ⟨by simp, by rw [List.range_zero, List.foldl_nil, act_rep0, List.take_zero]; rfl⟩
    | succ t ih =>
      intro ht
      obtain ⟨h1, h2⟩ := ih (by omega)
      rw [List.range_succ, List.foldl_append, List.foldl_cons, List.foldl_nil]
      unfold ledS at h1 h2 ⊢
      refine ⟨by rw [List.length_set]; exact h1, ?_⟩
      rw [act_set (by rw [h1]; exact Nat.mod_lt _ hn) _ _ rfl, h2, act_take_succ (by omega)]
      congr 2
      exact hw.mod hn (by rw [Int.natCast_emod, Int.add_emod_emod])
  have h := this f.length (Nat.le_refl _)
  rw [List.take_length] at h
  exact h
/-- what the law's own sums say -/
def nothing (n : Nat) (ps : List Nat) (f : List Int) : List Int := cyds n (led n f) ps
theorem OkO.nothing (ok : OkO n ps g) (f : List Int) : (Od.nothing n ps f).all (· == 0) = true ↔ Zr g f := by
  have h0 : Od.Per n (fun _ => (0 : Int)) := fun _ => rfl
  refine ok.crit (act_cyds ok.ps0 (led_ok ok.n0 f h0 0).1 h0 0).1 fun w hw i => ?_
  unfold Od.nothing
  rw [(act_cyds ok.ps0 (led_ok ok.n0 f hw 0).1 hw i).2]
  exact act_congr (fun j => (led_ok ok.n0 f hw j).2) i
theorem OkO.rem (ok : OkO n ps g) {low : List Int} (hg : g = low ++ [1]) (f : List Int) : (remP f low).all (· == 0) = true ↔ Zr g f := ok.rem_zero (by rw [hg]; exact remP_rem f low)
theorem zr_one {f : List Int} (h : f.sum = 0) : Zr [-1, 1] f := by
  intro u hu i
  have h1 : ∀ i, u (i + 1) = u i := fun i => by
    have := hu i
    simp only [act] at this
    omega
  have : ∀ (f : List Int) (i : Int), act f u i = f.sum * u i := by
    intro f
    induction f with
    | nil => intro i; simp [act]
    | cons a f ih => intro i; simp only [act, ih, h1, List.sum_cons, Int.add_mul]
  rw [this, h]; simp
end Od

set_option maxHeartbeats 1000000
namespace Ev
open PySem L2
/-! ### draws -/
theorem v_draw1 (r m c k : Int) (hr : 0 < r) (hk : 0 < k) (hk2 : k < 1073741824) : f__law_draw [.int r, .int m, .int c] [.int k] = some (.int (r % k), [.int (r / k), .int m, .int c]) := by
  simp [f__law_draw, runW, i__law_draw, entW, evSs, evS, evE, evEs, evT, viewOp, viewL, idxD, atI, ixN, ofC, cmpD, cmpI, hr, biD, hk, hk2, asgT, asgTs, keepOp, stOp, setE, lenOk]
theorem v_draw2 (m c k : Int) (hk : 0 < k) : f__law_draw [.int 0, .int m, .int c] [.int k] = some (.int ((m * (m % 8009 + 31013) + 60101 * (c + 1) + 23) % 2147483587 / 59 % k), [.int 0, .int ((m * (m % 8009 + 31013) + 60101 * (c + 1) + 23) % 2147483587), .int (c + 1)]) := by
  have h1 : mulOk m (m % 8009 + 31013) = true := mulOk_r (by omega) (by omega)
  have h2 : mulOk 60101 (c + 1) = true := mulOk_l (by decide) (by decide)
  have h3 : divOk 59 = true := by decide
  simp [f__law_draw, runW, i__law_draw, entW, evSs, evS, evE, evEs, evT, viewOp, viewL, idxD, atI, ixN, ofC, cmpD, cmpI, biD, hk, asgT, asgTs, keepOp, stOp, setE, lenOk, binD, binI, h1, h2, h3]
/-- the well's state -/
def Well (l : List D) : Prop := ∃ r m c : Int, l = [.int r, .int m, .int c] ∧ 0 ≤ r ∧ 0 ≤ m
/-- a draw -/
theorem v_draw {l : List D} (w : Well l) {k : Int} (hk : 0 < k) (hk2 : k < 1073741824) : ∃ v l', f__law_draw l [.int k] = some (.int v, l') ∧ Well l' ∧ 0 ≤ v ∧ v < k := by
  obtain ⟨r, m, c, rfl, hr, hm⟩ := w
  by_cases h0 : 0 < r
  · exact ⟨_, _, v_draw1 r m c k h0 hk hk2, ⟨_, _, _, rfl, Int.ediv_nonneg hr (by omega), hm⟩, Int.emod_nonneg _ (by omega), Int.emod_lt_of_pos _ hk⟩
  · have : r = 0 := by omega
    subst this
    exact ⟨_, _, v_draw2 m c k hk, ⟨_, _, _, rfl, Int.le_refl _, Int.emod_nonneg _ (by decide)⟩, Int.emod_nonneg _ (by omega), Int.emod_lt_of_pos _ hk⟩
theorem t_drawP : (tabT tb__law_draw kt0 gl0).fs "_law_draw" = some fs__law_draw := rfl
theorem v_pickT {l : List D} (w : Well l) {xs : List D} (h0 : 0 < xs.length) (h1 : xs.length < 1073741824) : ∃ d l', f__law_pick l [.tuple xs] = some (d, l') ∧ Well l' ∧ d ∈ xs := by
  obtain ⟨v, l', e, w', v0, v1⟩ := v_draw w (k := (xs.length : Int)) (by omega) (by omega)
  have hv : v.toNat < xs.length := by omega
  have hi : ixN xs.length v = some v.toNat := ixN_nn v0 v1
  have hd : xs[v.toNat]? = some xs[v.toNat] := List.getElem?_eq_getElem hv
  refine ⟨xs[v.toNat], l', ?_, w', List.getElem_mem _⟩
  simp [f__law_pick, runW, i__law_pick, entW, evSs, evS, evE, evEs, evT, viewOp, viewL, idxD, atI, biD, t_drawP, fs__law_draw, callF, callW, keepL, keepOp, e, hi, hd]
theorem v_pickL {l : List D} (w : Well l) {xs : List D} (h0 : 0 < xs.length) (h1 : xs.length < 1073741824) : ∃ d l', f__law_pick l [.list xs] = some (d, l') ∧ Well l' ∧ d ∈ xs := by
  obtain ⟨v, l', e, w', v0, v1⟩ := v_draw w (k := (xs.length : Int)) (by omega) (by omega)
  have hv : v.toNat < xs.length := by omega
  have hi : ixN xs.length v = some v.toNat := ixN_nn v0 v1
  have hd : xs[v.toNat]? = some xs[v.toNat] := List.getElem?_eq_getElem hv
  refine ⟨xs[v.toNat], l', ?_, w', List.getElem_mem _⟩
  simp [f__law_pick, runW, i__law_pick, entW, evSs, evS, evE, evEs, evT, viewOp, viewL, idxD, atI, biD, t_drawP, fs__law_draw, callF, callW, keepL, keepOp, e, hi, hd]
theorem v_rounds (ns : List Int) : ∃ n : Int, f__law_rounds [.list (ns.map .int)] = some (.int n) ∧ 2 ≤ n ∧ n ≤ 3 := by
  refine ⟨_, by simp [f__law_rounds, runP, i__law_rounds, entP, evSs, evS, evE, evEs, viewL, viewOp, biD, ofC, keepOp]; rfl, ?_, ?_⟩
  · split <;> (first | omega | (split <;> omega))
  · split <;> (first | omega | (split <;> omega))
def wellB : ISs := (.cons (.asg (.nm 2) (.bin .Mod (.bi "int" (.cons (.bin .Add (.bin .Add (.bin .Mult (.var 2) (.cst (.int 52021))) (.bin .Mod (.bi "int" (.cons (.var 3) .nil)) (.cst (.int 2147483587)))) (.cst (.int 101))) .nil)) (.cst (.int 2147483587)))) .nil)
def wellF : IS := (.fors (.nm 3) (.ex (.slc (.var 0) .no (.so (.cst (.int 63))))) wellB)
theorem well_turn (T : Tb) (n : Nat) (sc : D) (sp m x : Int) : evSs n T [.v sc, .v (.int sp), .v (.int m), .v (.int x), .u, .u] wellB = some (.nx [.v sc, .v (.int sp), .v (.int ((m * 52021 + x % 2147483587 + 101) % 2147483587)), .v (.int x), .u, .u]) := by
  have h1 : mulOk m 52021 = true := mulOk_r (by decide) (by decide)
  simp [wellB, evSs, evS, evE, evEs, viewL, viewOp, biD, ofC, binD, binI, h1, asgT, stOp, setE]
theorem well_loop (T : Tb) (n : Nat) (ns : List Int) (sp m : Int) (hm : 0 ≤ m) : ∃ (m' : Int) (c : Sl), evS n T [.v (.list (ns.map .int)), .v (.int sp), .v (.int m), .u, .u, .u] wellF = some (.nx [.v (.list (ns.map .int)), .v (.int sp), .v (.int m'), c, .u, .u]) ∧ 0 ≤ m' := by
  obtain ⟨ρ', e, m', c, rfl, h⟩ := evFor_inv (f := fun x ρ1 => (bindT ρ1 (.nm 3) x).bind fun ρ2 => evSs n T ρ2 wellB) (Q := fun ρ => ∃ (m' : Int) (c : Sl), ρ = [.v (.list (ns.map .int)), .v (.int sp), .v (.int m'), c, .u, .u] ∧ 0 ≤ m') (xs := cutD (ns.map .int) none (some 63)) (ρ := [.v (.list (ns.map .int)), .v (.int sp), .v (.int m), .u, .u, .u]) (fun x hx ρ ⟨m1, c1, hρ, h1⟩ => by
    subst hρ
    have hx' : x ∈ ns.map PyData.int := List.mem_of_mem_drop (List.mem_of_mem_take hx)
    obtain ⟨i, _, rfl⟩ := List.mem_map.mp hx'
    refine ⟨_, (show _ = some (Oc.nx [.v (.list (ns.map .int)), .v (.int sp), .v (.int ((m1 * 52021 + i % 2147483587 + 101) % 2147483587)), .v (.int i), .u, .u]) from ?_), (m1 * 52021 + i % 2147483587 + 101) % 2147483587, .v (.int i), rfl, Int.emod_nonneg _ (by decide)⟩
    exact well_turn T n _ sp m1 i) ⟨m, .u, rfl, hm⟩
  refine ⟨m', c, ?_, h⟩
  rw [← e]
  simp [wellF, evS, evIt, evE, evC, viewOp, ofC, slcD, keepOp]
theorem v_well (ns : List Int) (sp : Nat) (hs : sp < 10) : ∃ l, f__law_well [.list (ns.map .int), .int sp] = some l ∧ Well l := by
  obtain ⟨m, c, e, hm⟩ := well_loop (tabT tb__law_right kt0 gl0) 100000 ns sp (70001 + 3001 * sp) (by omega)
  have h0 : mulOk 3001 (sp : Int) = true := mulOk_l (by decide) (by decide)
  have h1 : mulOk m 30323 = true := mulOk_r (by decide) (by decide)
  have h2 : ∀ o : Int, mulOk (o % 2147483587) 9001 = true := fun o => mulOk_r (by decide) (by decide)
  have h3 : powOk 10 18 = true := by decide
  have h4 : lenOk 3 = true := by decide +kernel
  unfold wellF wellB at e
  by_cases hl : (sp : Int) < (ns.length : Int)
  · have hi : ∃ o : Int, ns[sp]? = some o := ⟨ns[sp]'(by omega), List.getElem?_eq_getElem _⟩
    obtain ⟨o, ho⟩ := hi
    by_cases h5 : o < 0
    · exact ⟨[.int (-o), .int ((m * 30323 + o % 2147483587 * 9001 + 5) % 2147483587), .int 0], by simp [f__law_well, runM, i__law_well, entP, evSs, evS, evE, evEs, evT, viewL, viewOp, biD, ofC, binD, binI, asgT, stOp, setE, h0, ↓e, cmpD, cmpI, hl, idxD, atI, ixN, keepL, keepOp, h1, h2, h3, h4, ho, h5], _, _, _, rfl, by omega, Int.emod_nonneg _ (by decide)⟩
    · by_cases h6 : 1000000000000000000 ≤ o
      · exact ⟨[.int o, .int ((m * 30323 + o % 2147483587 * 9001 + 5) % 2147483587), .int 0], by simp [f__law_well, runM, i__law_well, entP, evSs, evS, evE, evEs, evT, viewL, viewOp, biD, ofC, binD, binI, asgT, stOp, setE, h0, ↓e, cmpD, cmpI, hl, idxD, atI, ixN, keepL, keepOp, h1, h2, h3, h4, ho, h5, h6], _, _, _, rfl, by omega, Int.emod_nonneg _ (by decide)⟩
      · exact ⟨[.int 0, .int ((m * 30323 + o % 2147483587 * 9001 + 5) % 2147483587), .int 0], by simp [f__law_well, runM, i__law_well, entP, evSs, evS, evE, evEs, evT, viewL, viewOp, biD, ofC, binD, binI, asgT, stOp, setE, h0, ↓e, cmpD, cmpI, hl, idxD, atI, ixN, keepL, keepOp, h1, h2, h3, h4, ho, h5, h6], _, _, _, rfl, by omega, Int.emod_nonneg _ (by decide)⟩
  · have h5 : ¬ m < 0 := by omega
    by_cases h6 : 1000000000000000000 ≤ m
    · exact ⟨[.int m, .int ((m * 30323 + m % 2147483587 * 9001 + 5) % 2147483587), .int 0], by simp [f__law_well, runM, i__law_well, entP, evSs, evS, evE, evEs, evT, viewL, viewOp, biD, ofC, binD, binI, asgT, stOp, setE, h0, ↓e, cmpD, cmpI, hl, idxD, atI, ixN, keepL, keepOp, h1, h2, h3, h4, h5, h6], _, _, _, rfl, by omega, Int.emod_nonneg _ (by decide)⟩
    · exact ⟨[.int 0, .int ((m * 30323 + m % 2147483587 * 9001 + 5) % 2147483587), .int 0], by simp [f__law_well, runM, i__law_well, entP, evSs, evS, evE, evEs, evT, viewL, viewOp, biD, ofC, binD, binI, asgT, stOp, setE, h0, ↓e, cmpD, cmpI, hl, idxD, atI, ixN, keepL, keepOp, h1, h2, h3, h4, h5, h6], _, _, _, rfl, by omega, Int.emod_nonneg _ (by decide)⟩
/-- the law, from its right -/
theorem math_of (hr : ∀ l, Well l → ∃ l', f__law_right l [] = some (.bool true, l')) (ns : List Int) : f_law [.list (ns.map .int)] = some (.bool true) := by
  obtain ⟨n, e, n1, n2⟩ := v_rounds ns
  obtain ⟨l0, a0, w0⟩ := v_well ns 0 (by decide)
  obtain ⟨l1, a1, w1⟩ := v_well ns 1 (by decide)
  obtain ⟨l2, a2, w2⟩ := v_well ns 2 (by decide)
  obtain ⟨m0, b0⟩ := hr l0 w0
  obtain ⟨m1, b1⟩ := hr l1 w1
  obtain ⟨m2, b2⟩ := hr l2 w2
  have t1 : (tabT tb__law_well kt0 gl0).fs "_law_rounds" = some fs__law_rounds := rfl
  have t2 : (tabT tb__law_well kt0 gl0).fs "_law_well" = some fs__law_well := rfl
  have t3 : (tabT tb__law_well kt0 gl0).fs "_law_right" = some fs__law_right := rfl
  have h : n = 2 ∨ n = 3 := by omega
  have r2 : rngOk 2 = true := by decide
  have r3 : rngOk 3 = true := by decide
  have q2 : rngD 0 2 = [.int 0, .int 1] := rfl
  have q3 : rngD 0 3 = [.int 0, .int 1, .int 2] := rfl
  have a0 : f__law_well [.list (ns.map .int), .int 0] = some l0 := a0
  have a1 : f__law_well [.list (ns.map .int), .int 1] = some l1 := a1
  have a2 : f__law_well [.list (ns.map .int), .int 2] = some l2 := a2
  rcases h with rfl | rfl
  · simp [f_law, runP, i_law, entP, evSs, evS, evE, evEs, evT, evIt, viewL, viewOp, t1, t2, t3, fs__law_rounds, fs__law_well, fs__law_right, callF, callP, callM, callW, keepL, keepOp, flat, e, r2, q2, evFor, bindT, setE, a0, a1, b0, b1, trD, ofC]
  · simp [f_law, runP, i_law, entP, evSs, evS, evE, evEs, evT, evIt, viewL, viewOp, t1, t2, t3, fs__law_rounds, fs__law_well, fs__law_right, callF, callP, callM, callW, keepL, keepOp, flat, e, r3, q3, evFor, bindT, setE, a0, a1, a2, b0, b1, b2, trD, ofC]
end Ev

set_option maxHeartbeats 1000000
namespace Ev
open PySem L2
/-! ### slots, numbers, divisors -/
theorem t_drawS : (tabT tb__law_pick kt0 gl0).fs "_law_draw" = some fs__law_draw := rfl
theorem t_pickS : (tabT tb__law_pick kt0 gl0).fs "_law_pick" = some fs__law_pick := rfl
theorem v_slots {l : List D} (w : Well l) : ∃ (v : Nat) (l' : List D), f__law_slots l [] = some (.int v, l') ∧ Well l' ∧ 2 ≤ v ∧ v ≤ 60 := by
  obtain ⟨v, l1, e1, w1, v0, v1⟩ := v_draw w (k := 9) (by decide) (by decide)
  by_cases h0 : v = 0
  · subst h0
    obtain ⟨u, l2, e2, w2, u0, u1⟩ := v_draw w1 (k := 59) (by decide) (by decide)
    refine ⟨(2 + u).toNat, l2, ?_, w2, by omega, by omega⟩
    rw [Int.toNat_of_nonneg (by omega)]
    simp [f__law_slots, runW, i__law_slots, entW, evSs, evS, evE, evEs, evT, viewOp, viewL, t_drawS, fs__law_draw, callF, callW, keepL, keepOp, e1, e2, ofC, cmp_eq, binD, binI]
  · obtain ⟨d, l2, e2, w2, hd⟩ := v_pickT w1 (xs := [.int 2, .int 3, .int 4, .int 5, .int 6, .int 6, .int 7, .int 8, .int 9, .int 10, .int 12, .int 12, .int 14, .int 15, .int 16, .int 18, .int 20, .int 24]) (by decide) (by decide)
    have hv : ∃ u : Nat, d = .int u ∧ 2 ≤ u ∧ u ≤ 60 := by
      simp only [List.mem_cons, List.not_mem_nil, or_false] at hd
      rcases hd with h | h | h | h | h | h | h | h | h | h | h | h | h | h | h | h | h | h
      · exact ⟨2, h, by decide, by decide⟩
      · exact ⟨3, h, by decide, by decide⟩
      · exact ⟨4, h, by decide, by decide⟩
      · exact ⟨5, h, by decide, by decide⟩
      · exact ⟨6, h, by decide, by decide⟩
      · exact ⟨6, h, by decide, by decide⟩
      · exact ⟨7, h, by decide, by decide⟩
      · exact ⟨8, h, by decide, by decide⟩
      · exact ⟨9, h, by decide, by decide⟩
      · exact ⟨10, h, by decide, by decide⟩
      · exact ⟨12, h, by decide, by decide⟩
      · exact ⟨12, h, by decide, by decide⟩
      · exact ⟨14, h, by decide, by decide⟩
      · exact ⟨15, h, by decide, by decide⟩
      · exact ⟨16, h, by decide, by decide⟩
      · exact ⟨18, h, by decide, by decide⟩
      · exact ⟨20, h, by decide, by decide⟩
      · exact ⟨24, h, by decide, by decide⟩
    obtain ⟨u, rfl, u0, u1⟩ := hv
    refine ⟨u, l2, ?_, w2, u0, u1⟩
    have hl : lenOk 18 = true := by decide +kernel
    simp [f__law_slots, runW, i__law_slots, entW, evSs, evS, evE, evEs, evT, viewOp, viewL, t_drawS, t_pickS, fs__law_draw, fs__law_pick, callF, callW, keepL, keepOp, e1, e2, ofC, cmp_eq, h0, hl]
theorem t_drawN : (tabT tb__law_parts kt0 gl0).fs "_law_draw" = some fs__law_draw := rfl
theorem t_pickN : (tabT tb__law_parts kt0 gl0).fs "_law_pick" = some fs__law_pick := rfl
theorem v_number {l : List D} (w : Well l) : ∃ (v : Int) (l' : List D), f__law_number l [] = some (.int v, l') ∧ Well l' ∧ Bd 41 v := by
  obtain ⟨d, l1, e1, w1, hd⟩ := v_pickT w (xs := [.int 1, .int 2, .int 2, .int 3, .int 5, .int 20, .int 400, .int 0]) (by decide) (by decide)
  have hv : ∃ u : Int, d = .int u ∧ 0 ≤ u ∧ u ≤ 400 := by
    simp only [List.mem_cons, List.not_mem_nil, or_false] at hd
    rcases hd with h | h | h | h | h | h | h | h <;> exact ⟨_, h, by decide, by decide⟩
  obtain ⟨z, rfl, z0, z1⟩ := hv
  have hl : lenOk 8 = true := by decide +kernel
  by_cases h0 : 0 < z
  · obtain ⟨u, l2, e2, w2, u0, u1⟩ := v_draw w1 (k := 2 * z + 1) (by omega) (by omega)
    have m1 : mulOk 2 z = true := mulOk_l (by decide) (by decide)
    refine ⟨u - z, l2, ?_, w2, ?_⟩
    · simp [f__law_number, runW, i__law_number, entW, evSs, evS, evE, evEs, evT, viewOp, viewL, t_drawN, t_pickN, fs__law_draw, fs__law_pick, callF, callW, keepL, keepOp, e1, e2, ofC, cmpD, cmpI, h0, hl, binD, binI, m1, asgT, stOp, setE]
    · unfold Bd
      have : (2 : Nat) ^ 41 = 2199023255552 := by decide
      rw [this]; omega
  · have : z = 0 := by omega
    subst this
    obtain ⟨a, l2, e2, w2, a0, a1⟩ := v_draw w1 (k := 999983) (by omega) (by omega)
    obtain ⟨b, l3, e3, w3, b0, b1⟩ := v_draw w2 (k := 999983) (by omega) (by omega)
    obtain ⟨c, l4, e4, w4, c0, c1⟩ := v_draw w3 (k := 2) (by omega) (by omega)
    have m1 : mulOk a 999983 = true := mulOk_r (by decide) (by decide)
    have m2 : mulOk 2 c = true := mulOk_l (by decide) (by decide)
    have m3 : mulOk (a * 999983 + b) (1 - 2 * c) = true := mulOk_r (by omega) (by omega)
    refine ⟨(a * 999983 + b) * (1 - 2 * c), l4, ?_, w4, ?_⟩
    · simp [f__law_number, runW, i__law_number, entW, evSs, evS, evE, evEs, evT, viewOp, viewL, t_drawN, t_pickN, fs__law_draw, fs__law_pick, callF, callW, keepL, keepOp, e1, e2, e3, e4, ofC, cmpD, cmpI, hl, binD, binI, m1, m2, m3, asgT, stOp, setE]
    · unfold Bd
      have : (2 : Nat) ^ 41 = 2199023255552 := by decide
      rw [this]
      have : c = 0 ∨ c = 1 := by omega
      rcases this with h | h <;> subst h <;> omega
def dvs (n : Nat) : List Int := ((List.range n).map fun (t : Nat) => (1 : Int) + (t : Int)).filter fun x => decide ((n : Int) % x = 0)
theorem mem_dvs {n : Nat} {x : Int} : x ∈ dvs n ↔ (1 ≤ x ∧ x < 1 + n) ∧ (n : Int) % x = 0 := by
  unfold dvs
  rw [mem_fil, decide_eq_true_eq]
theorem dvs_len (n : Nat) : (dvs n).length ≤ n := by
  unfold dvs
  exact Nat.le_trans (List.length_filter_le _ _) (by simp)
theorem v_parts {n : Nat} (h1 : 1 ≤ n) (h2 : n ≤ 1000) : f__law_parts [.int n] = some (.list ((dvs n).map .int)) := by
  have e1 := lcF (T := (tabT tb__law_slots kt0 gl0)) (ρ := [.v (.int n), .u]) (ρ1 := [.v (.int n), .u]) (it := .r2 (.cst (.int 1)) (.bin .Add (.var 0) (.cst (.int 1)))) (c := .cmp .Eq (.bin .Mod (.bi "int" (.cons (.var 0) .nil)) (.var 1)) (.cst (.int 0))) (i := 1) (nm := "_law_k") (lo := 1) (n := n) (fun x : Int => decide ((n : Int) % x = 0)) (by
      have := it_r2e (T := (tabT tb__law_slots kt0 gl0)) (ρ := [.v (.int n), .u]) (a := .cst (.int 1)) (b := .bin .Add (.var 0) (.cst (.int 1))) cst_i (bin_ok (x := .slot 0) (y := .val (.int 1)) rfl cst_i rfl rfl (bi_add _ _)) rfl rfl (rng_ok (by omega) (by omega)) (rng_ok (by omega) (by omega))
      rw [this, show ((n : Int) + 1 - 1).toNat = n by omega]) rfl (fun x h3 h4 => by
      refine cmpT_ok (x := .val (.int ((n : Int) % x))) (y := .val (.int 0)) (bin_ok (x := .val (.int n)) (y := .slot 1) (bi1 (x := .slot 0) rfl rfl rfl) rfl rfl rfl (bi_mod (by omega))) cst_i rfl rfl (cmp_eq _ _)) h2
  unfold f__law_parts i__law_parts
  exact runP_ok (ss_rt (ret_ok e1 rfl))
theorem dvs_cut {n : Nat} (h : 2 ≤ n) : cutD ((dvs n).map PyData.int) none (some (-1)) ≠ [] ∧ ∀ d ∈ cutD ((dvs n).map PyData.int) none (some (-1)), ∃ x : Nat, d = .int x ∧ 1 ≤ x ∧ x < n ∧ n % x = 0 := by
  obtain ⟨m, rfl⟩ : ∃ m, n = m + 1 := ⟨n - 1, by omega⟩
  have e : dvs (m + 1) = (((List.range m).map fun (t : Nat) => (1 : Int) + (t : Int)).filter fun x => decide (((m + 1 : Nat) : Int) % x = 0)) ++ [((m + 1 : Nat) : Int)] := by
    unfold dvs
    rw [List.range_succ, List.map_append, List.filter_append]
    congr 1
    have : (1 : Int) + (m : Nat) = ((m + 1 : Nat) : Int) := by omega
    simp only [List.map_cons, List.map_nil, this, List.filter_cons, Int.emod_self, decide_true, if_true, List.filter_nil]
  rw [cut_lastD, e]
  simp only [List.map_append, List.map_cons, List.map_nil, List.length_append, List.length_cons, List.length_nil, Nat.zero_add, Nat.add_sub_cancel, List.take_left']
  refine ⟨?_, fun d hd => ?_⟩
  · refine List.ne_nil_of_mem (List.mem_map.mpr ⟨1, ?_, rfl⟩)
    rw [mem_fil]
    exact ⟨⟨by omega, by omega⟩, by simp⟩
  · obtain ⟨x, hx, rfl⟩ := List.mem_map.mp hd
    rw [mem_fil, decide_eq_true_eq] at hx
    refine ⟨x.toNat, by rw [Int.toNat_of_nonneg (by omega)], by omega, by omega, ?_⟩
    have : ((((m + 1) % x.toNat : Nat)) : Int) = 0 := by
      rw [Int.natCast_emod, Int.toNat_of_nonneg (by omega)]; exact hx.2
    omega
/-! ### rows -/
def RowB (n b : Nat) (row : List Int) : Prop := row.length = n ∧ ∀ x ∈ row, Bd b x
theorem Bd.zero (b : Nat) : Bd b 0 := by unfold Bd; exact Nat.two_pow_pos b
theorem getD_bd {b : Nat} {row : List Int} (h : ∀ x ∈ row, Bd b x) (k : Nat) : Bd b (row.getD k 0) := by
  rw [List.getD_eq_getElem?_getD]
  cases e : row[k]? with
  | none => exact Bd.zero b
  | some x => exact h x (List.mem_of_getElem? e)
theorem it_rn {T : Tb} {ρ : En} {i k : Nat} (h : ρ[i]? = some (.v (.int k))) (hk : k ≤ 1000) : evIt T ρ (.r1 (.var i)) = some ((List.range k).map fun t : Nat => PyData.int (t : Int), ρ) := by
  rw [it_r1 h hk, I0, List.map_map]; rfl
def rr_1 : IS := .asg (.nm 2) (.cal "_law_pick" (.cons (.var 0) (.cons (.tup (.cons (.cst (.int 1)) (.cons (.cst (.int 1)) (.cons (.cst (.int 1)) (.cons (.cst (.int 2)) (.cons (.cst (.int 3)) (.cons (.cst (.int 30)) (.cons (.cst (.int 0)) .nil)))))))) .nil)))
def rr_2 : IS := .asg (.nm 3) (.lst .nil)
def rr_3b1 : IS := .app 3 (.ite (.cmp .Eq (.var 2) (.cst (.int 0))) (.cal "_law_number" (.cons (.var 0) .nil)) (.bin .Sub (.cal "_law_draw" (.cons (.var 0) (.cons (.bin .Add (.bin .Mult (.cst (.int 2)) (.var 2)) (.cst (.int 1))) .nil))) (.var 2)))
def rr_3b : ISs := (.cons rr_3b1 .nil)
def rr_3 : IS := .fors (.nm 4) (.r1 (.var 1)) rr_3b
def rr_4b1 : IS := .asg (.nm 6) (.ite (.cmp .Eq (.cal "_law_draw" (.cons (.var 0) (.cons (.cst (.int 2)) .nil))) (.cst (.int 0))) (.cal "_law_pick" (.cons (.var 0) (.cons (.slc (.cal "_law_parts" (.cons (.var 1) .nil)) .no (.so (.neg (.cst (.int 1))))) .nil))) (.bin .Add (.cst (.int 1)) (.cal "_law_draw" (.cons (.var 0) (.cons (.bin .Sub (.var 1) (.cst (.int 1))) .nil)))))
def rr_4b2 : IS := .asg (.nm 7) (.bin .Sub (.cst (.int 1)) (.bin .Mult (.cst (.int 2)) (.cal "_law_draw" (.cons (.var 0) (.cons (.cst (.int 2)) .nil)))))
def rr_4b3 : IS := .asg (.nm 3) (.lc (.bin .Add (.idx (.var 3) (.var 4)) (.bin .Mult (.var 7) (.idx (.var 3) (.bin .Sub (.var 4) (.var 6))))) (.nm 4) [("_law_k", 4)] (.r1 (.var 1)) .no)
def rr_4b : ISs := (.cons rr_4b1 (.cons rr_4b2 (.cons rr_4b3 .nil)))
def rr_4 : IS := .fors (.nm 5) (.r1 (.ite (.cmp .Gt (.var 1) (.cst (.int 1))) (.cal "_law_draw" (.cons (.var 0) (.cons (.cst (.int 3)) .nil))) (.cst (.int 0)))) rr_4b
def rr_5 : IS := .ret (.var 3)
def rr_ : ISs := (.cons rr_1 (.cons rr_2 (.cons rr_3 (.cons rr_4 (.cons rr_5 .nil)))))
theorem rr__is : i__law_row = rr_ := rfl

theorem slc_neg {T : Tb} {ρ : En} {a : IE} {o : Op} {xs : List D} (h : evE T ρ a = some (o, ρ)) (hv : viewOp ρ o = some (.list xs)) : evE T ρ (.slc a .no (.so (.neg (.cst (.int 1))))) = some (.new (cutD xs none (some (-1))), ρ) := by
  have hc : evC T ρ (.so (.neg (.cst (.int 1)))) = some (some (-1), ρ) := rfl
  have hn : evC T ρ .no = some (none, ρ) := rfl
  simp only [evE, h, hc, hn, hv, Option.bind_some, slcD, Option.map_some]
theorem pick_nat {l : List D} (w : Well l) {xs : List D} {P : Nat → Prop} (h0 : xs ≠ []) (h1 : xs.length ≤ 1000) (h : ∀ d ∈ xs, ∃ x : Nat, d = .int x ∧ P x) : ∃ (x : Nat) (l' : List D), f__law_pick l [.list xs] = some (.int x, l') ∧ Well l' ∧ P x := by
  obtain ⟨d, l', e, w', hd⟩ := v_pickL w (xs := xs) (List.length_pos_iff.mpr h0) (by omega)
  obtain ⟨x, rfl, hx⟩ := h d hd
  exact ⟨x, l', e, w', hx⟩
theorem cut_len {xs : List D} : (cutD xs none (some (-1))).length ≤ xs.length := by
  rw [cut_lastD, List.length_take]; omega
theorem parts_cut_len (n : Nat) (h : n ≤ 1000) : (cutD ((dvs n).map PyData.int) none (some (-1))).length ≤ 1000 := by
  refine Nat.le_trans cut_len ?_
  rw [List.length_map]
  exact Nat.le_trans (dvs_len n) h
theorem Bd.abs1 {b : Nat} {s x : Int} (hs : s = 1 ∨ s = -1) (h : Bd b x) : Bd b (s * x) := by
  rcases hs with rfl | rfl
  · rw [Int.one_mul]; exact h
  · rw [Int.neg_mul, Int.one_mul]; exact h.neg
theorem t_rD : (tabT tb__law_number kt0 gl0).fs "_law_draw" = some fs__law_draw := rfl
theorem t_rP : (tabT tb__law_number kt0 gl0).fs "_law_pick" = some fs__law_pick := rfl
theorem t_rN : (tabT tb__law_number kt0 gl0).fs "_law_number" = some fs__law_number := rfl
theorem t_rS : (tabT tb__law_number kt0 gl0).fs "_law_parts" = some fs__law_parts := rfl
theorem rr_b3 (N : Nat) {l : List D} (w : Well l) {n z : Int} {row : List Int} (c a b d : Sl) (z0 : 0 ≤ z) (z1 : z ≤ 30) (hr : row.length ≤ 1000) :
    ∃ (l' : List D) (v : Int), evSs N (tabT tb__law_number kt0 gl0) [.o true l, .v (.int n), .v (.int z), .o false (row.map .int), c, a, b, d] rr_3b = some (.nx [.o true l', .v (.int n), .v (.int z), .o false ((row ++ [v]).map .int), c, a, b, d]) ∧ Well l' ∧ Bd 41 v := by
  have key : ∀ {l' : List D} {v : Int}, evE (tabT tb__law_number kt0 gl0) [.o true l, .v (.int n), .v (.int z), .o false (row.map .int), c, a, b, d] (.ite (.cmp .Eq (.var 2) (.cst (.int 0))) (.cal "_law_number" (.cons (.var 0) .nil)) (.bin .Sub (.cal "_law_draw" (.cons (.var 0) (.cons (.bin .Add (.bin .Mult (.cst (.int 2)) (.var 2)) (.cst (.int 1))) .nil))) (.var 2))) = some (.val (.int v), [.o true l', .v (.int n), .v (.int z), .o false (row.map .int), c, a, b, d]) →
      evSs N (tabT tb__law_number kt0 gl0) [.o true l, .v (.int n), .v (.int z), .o false (row.map .int), c, a, b, d] rr_3b = some (.nx [.o true l', .v (.int n), .v (.int z), .o false ((row ++ [v]).map .int), c, a, b, d]) := fun {l' v} h => by
    unfold rr_3b rr_3b1
    refine ss_nx (app_ok (i := 3) rfl h rfl rfl (by rw [List.length_map]; exact hr)) ?_
    rw [List.map_append]; rfl
  by_cases hz : z = 0
  · subst hz
    obtain ⟨v, l1, e1, w1, hv⟩ := v_number w
    exact ⟨l1, v, key (ite_tr (cmpT_ok (x := .slot 2) (y := .val (.int 0)) rfl cst_i rfl rfl (by rw [cmp_eq]; rfl)) (calW t_rN rfl rfl rfl e1)), w1, hv⟩
  · obtain ⟨v, l1, e1, w1, v0, v1⟩ := v_draw w (k := 2 * z + 1) (by omega) (by omega)
    refine ⟨l1, v - z, key (ite_fl (cmpT_ok (x := .slot 2) (y := .val (.int 0)) rfl cst_i rfl rfl (by rw [cmp_eq, decide_eq_false hz])) (bin_ok (x := .val (.int v)) (y := .slot 2) (calW t_rD (r := [.val (.int (2 * z + 1))]) (ee_cons (bin_ok (x := .val (.int (2 * z))) (bin_ok (x := .val (.int 2)) (y := .slot 2) cst_i rfl rfl rfl (bi_mul (mulOk_l (by decide) (by decide)))) cst_i rfl rfl (bi_add _ _)) rfl) rfl rfl e1) rfl rfl rfl (bi_sub _ _))), w1, ?_⟩
    unfold Bd
    have : (2 : Nat) ^ 41 = 2199023255552 := by decide
    rw [this]; omega
theorem rr_e3 (N : Nat) {l : List D} (w : Well l) {n : Nat} (hn : n ≤ 60) {z : Int} (z0 : 0 ≤ z) (z1 : z ≤ 30) (h2 : 1 ≤ n) :
    ∃ (l' : List D) (row : List Int) (c : D), evS N (tabT tb__law_number kt0 gl0) [.o true l, .v (.int n), .v (.int z), .o false [], .u, .u, .u, .u] rr_3 = some (.nx [.o true l', .v (.int n), .v (.int z), .o false (row.map .int), .v c, .u, .u, .u]) ∧ Well l' ∧ RowB n 41 row := by
  have hlen : ((List.range n).map fun t : Nat => PyData.int (t : Int)).length = n := by simp
  obtain ⟨m, rfl⟩ : ∃ m, n = m + 1 := ⟨n - 1, by omega⟩
  obtain ⟨ρ', e2, l2, row, c, rfl, w2, r1, r2, r3⟩ := evFor_lt (f := fun x ρ1 => (bindT ρ1 (.nm 4) x).bind fun ρ2 => evSs N (tabT tb__law_number kt0 gl0) ρ2 rr_3b)
    (Q := fun t ρ => ∃ (l' : List D) (row : List Int) (c : Sl), ρ = [.o true l', .v (.int ((m + 1 : Nat) : Int)), .v (.int z), .o false (row.map .int), c, .u, .u, .u] ∧ Well l' ∧ row.length = t ∧ (∀ x ∈ row, Bd 41 x) ∧ (0 < t → ∃ d, c = .v d))
    (xs := (List.range (m + 1)).map fun t : Nat => PyData.int (t : Int)) (n := 0) (ρ := [.o true l, .v (.int ((m + 1 : Nat) : Int)), .v (.int z), .o false ([].map .int), .u, .u, .u, .u])
    (fun x hx t _ ht ρ ⟨l', row, c, hρ, w', r1, r2, _⟩ => by
      subst hρ
      rw [hlen] at ht
      obtain ⟨l3, v, e3, w3, hv⟩ := rr_b3 N w' (n := ((m + 1 : Nat) : Int)) (row := row) (.v x) .u .u .u z0 z1 (by omega)
      refine ⟨_, by rw [bd_set _ _ (by simp)]; exact e3, l3, row ++ [v], .v x, rfl, w3, by rw [List.length_append, r1]; rfl, fun y hy => ?_, fun _ => ⟨x, rfl⟩⟩
      rcases List.mem_append.mp hy with h | h
      · exact r2 y h
      · rw [List.mem_singleton.mp h]; exact hv) ⟨l, [], .u, rfl, w, rfl, by simp, fun h => absurd h (by decide)⟩
  rw [hlen, Nat.zero_add] at r1 r3
  obtain ⟨d, rfl⟩ := r3 (by omega)
  exact ⟨l2, row, d, for_ok (it_rn rfl (by omega)) e2, w2, r1, r2⟩
theorem rr_b1 (N : Nat) {l : List D} (w : Well l) {n : Nat} (h2 : 2 ≤ n) (hn : n ≤ 60) (z r c u a b : Sl) :
    ∃ (l' : List D) (x : Nat), evS N (tabT tb__law_number kt0 gl0) [.o true l, .v (.int n), z, r, c, u, a, b] rr_4b1 = some (.nx [.o true l', .v (.int n), z, r, c, u, .v (.int x), b]) ∧ Well l' ∧ 1 ≤ x ∧ x < n := by
  obtain ⟨v, l1, e1, w1, v0, v1⟩ := v_draw w (k := 2) (by decide) (by decide)
  have hc : evT (tabT tb__law_number kt0 gl0) [.o true l, .v (.int n), z, r, c, u, a, b] (.cmp .Eq (.cal "_law_draw" (.cons (.var 0) (.cons (.cst (.int 2)) .nil))) (.cst (.int 0))) = some (decide (v = 0), [.o true l1, .v (.int n), z, r, c, u, a, b]) :=
    cmpT_ok (x := .val (.int v)) (y := .val (.int 0)) (calW t_rD (r := [.val (.int 2)]) rfl rfl rfl e1) cst_i rfl rfl (cmp_eq _ _)
  by_cases h0 : v = 0
  · obtain ⟨q1, q2⟩ := dvs_cut h2
    obtain ⟨x, l2, e2, w2, x1, x2, _⟩ := pick_nat w1 q1 (parts_cut_len n (by omega)) q2
    rw [decide_eq_true h0] at hc
    exact ⟨l2, x, asg_ok (ite_tr hc (calW t_rP (ee_cons (slc_neg (calPn t_rS (ops := [.slot 1]) rfl rfl (ds := [.int n]) rfl rfl (v_parts (by omega) (by omega))) rfl) rfl) rfl rfl e2)) rfl, w2, x1, x2⟩
  · obtain ⟨x, l2, e2, w2, x1, x2⟩ := v_draw w1 (k := (n : Int) - 1) (by omega) (by omega)
    rw [decide_eq_false h0] at hc
    refine ⟨l2, (1 + x).toNat, asg_ok (ite_fl hc (bin_ok (x := .val (.int 1)) cst_i (calW t_rD (r := [.val (.int ((n : Int) - 1))]) (ee_cons (bin_ok (x := .slot 1) (y := .val (.int 1)) rfl cst_i rfl rfl (bi_sub _ _)) rfl) rfl rfl e2) rfl rfl (bi_add _ _))) ?_, w2, by omega, by omega⟩
    rw [Int.toNat_of_nonneg (by omega)]
    rfl
def rowT (n s : Nat) (c : Int) (row : List Int) : List Int := (List.range n).map fun k => row.getD k 0 + c * row.getD ((k + n - s) % n) 0
theorem rowT_b {n b s : Nat} {c : Int} {row : List Int} (h : RowB n b row) (hc : c = 1 ∨ c = -1) : RowB n (b + 1) (rowT n s c row) := by
  refine ⟨by simp [rowT], fun x hx => ?_⟩
  obtain ⟨k, _, rfl⟩ := List.mem_map.mp hx
  exact (getD_bd h.2 _).add (Bd.abs1 hc (getD_bd h.2 _))
theorem rr_b4 (N : Nat) {l : List D} (w : Well l) {n m : Nat} (h2 : 2 ≤ n) (hn : n ≤ 60) {row : List Int} (hr : RowB n m row) (z u a b : Sl) (c : D) :
    ∃ (l' : List D) (row' : List Int) (a' b' : Sl), evSs N (tabT tb__law_number kt0 gl0) [.o true l, .v (.int n), z, .o false (row.map .int), .v c, u, a, b] rr_4b = some (.nx [.o true l', .v (.int n), z, .o false (row'.map .int), .v c, u, a', b']) ∧ Well l' ∧ RowB n (m + 1) row' := by
  obtain ⟨l1, s, e1, w1, s1, s2⟩ := rr_b1 N w h2 hn z (.o false (row.map .int)) (.v c) u a b
  obtain ⟨v, l2, e2, w2, v0, v1⟩ := v_draw w1 (k := 2) (by decide) (by decide)
  have hsg : 1 - 2 * v = 1 ∨ 1 - 2 * v = -1 := by omega
  generalize hσ : 1 - 2 * v = σ at hsg
  have e3 : evS N (tabT tb__law_number kt0 gl0) [.o true l1, .v (.int n), z, .o false (row.map .int), .v c, u, .v (.int s), b] rr_4b2 = some (.nx [.o true l2, .v (.int n), z, .o false (row.map .int), .v c, u, .v (.int s), .v (.int σ)]) := by
    refine asg_ok (bin_ok (x := .val (.int 1)) (y := .val (.int (2 * v))) cst_i (bin_ok (x := .val (.int 2)) cst_i (calW t_rD (r := [.val (.int 2)]) rfl rfl rfl e2) rfl rfl (bi_mul (mulOk_l (by decide) (by decide)))) rfl rfl (bi_sub _ _)) ?_
    rw [hσ]; rfl
  have e4 : evS N (tabT tb__law_number kt0 gl0) [.o true l2, .v (.int n), z, .o false (row.map .int), .v c, u, .v (.int s), .v (.int σ)] rr_4b3 = some (.nx [.o true l2, .v (.int n), z, .o false ((rowT n s σ row).map .int), .v c, u, .v (.int s), .v (.int σ)]) := by
    have hl := lcM (T := (tabT tb__law_number kt0 gl0)) (own := [("_law_k", 4)]) (ρ := [.o true l2, .v (.int n), z, .o false (row.map .int), .v c, u, .v (.int s), .v (.int σ)]) (ρ1 := [.o true l2, .v (.int n), z, .o false (row.map .int), .v c, u, .v (.int s), .v (.int σ)]) (it := .r1 (.var 1)) (e := .bin .Add (.idx (.var 3) (.var 4)) (.bin .Mult (.var 7) (.idx (.var 3) (.bin .Sub (.var 4) (.var 6))))) (t := .nm 4) (fun t : Nat => PyData.int (t : Int)) (fun k => .int (row.getD k 0 + σ * row.getD ((k + n - s) % n) 0)) (l := List.range n) (it_rn rfl (by omega))
      (fun k hk => by
        have hk := List.mem_range.mp hk
        refine ⟨[.o true l2, .v (.int n), z, .o false (row.map .int), .v (.int k), u, .v (.int s), .v (.int σ)], .val (.int (row.getD k 0 + σ * row.getD ((k + n - s) % n) 0)), rfl, ?_, rfl, rfl⟩
        refine bin_ok (x := .val (.int (row.getD k 0))) (y := .val (.int (σ * row.getD ((k + n - s) % n) 0))) (idx_ok (x := .slot 3) (y := .slot 4) rfl rfl rfl rfl (ix_li (ixN_nn (by omega) (by rw [hr.1]; omega)) (by rw [hr.1]; omega)))
          (bin_ok (x := .slot 7) (y := .val (.int (row.getD ((k + n - s) % n) 0))) rfl (idx_ok (x := .slot 3) (y := .val (.int ((k : Int) - (s : Int)))) rfl (bin_ok (x := .slot 4) (y := .slot 6) rfl rfl rfl rfl (bi_sub _ _)) rfl rfl (ix_li (by rw [hr.1]; exact ixN_back hk (by omega)) (by rw [hr.1]; exact Nat.mod_lt _ (by omega)))) rfl rfl (bi_mul ?_)) rfl rfl (bi_add _ _)
        rcases hsg with h | h <;> (subst h; exact mulOk_l (by decide) (by decide))) (fun i hi => .inr (by
        have : i = 4 := by simpa using hi
        subst this; exact ⟨c, rfl⟩)) (len_ok (by simp; omega))
    refine asg_ok hl ?_
    rw [rowT, List.map_map]
    rfl
  exact ⟨l2, rowT n s σ row, .v (.int s), .v (.int σ), by
    unfold rr_4b
    exact ss_nx e1 (ss_nx e3 (ss_nx e4 rfl)), w2, rowT_b hr hsg⟩
theorem rr_e4 (N : Nat) {l : List D} (w : Well l) {n : Nat} (h2 : 2 ≤ n) (hn : n ≤ 60) {row : List Int} (hr : RowB n 41 row) (z : Sl) (c : D) :
    ∃ (l' : List D) (row' : List Int) (u a b : Sl), evS N (tabT tb__law_number kt0 gl0) [.o true l, .v (.int n), z, .o false (row.map .int), .v c, .u, .u, .u] rr_4 = some (.nx [.o true l', .v (.int n), z, .o false (row'.map .int), .v c, u, a, b]) ∧ Well l' ∧ RowB n 43 row' := by
  obtain ⟨v, l1, e1, w1, v0, v1⟩ := v_draw w (k := 3) (by decide) (by decide)
  have hlen : (rngD 0 v.toNat).length = v.toNat := by simp [rngD]
  obtain ⟨ρ', e2, l2, row2, u, a, b, rfl, w2, r2⟩ := evFor_lt (f := fun x ρ1 => (bindT ρ1 (.nm 5) x).bind fun ρ2 => evSs N (tabT tb__law_number kt0 gl0) ρ2 rr_4b)
    (Q := fun t ρ => ∃ (l' : List D) (row' : List Int) (u a b : Sl), ρ = [.o true l', .v (.int n), z, .o false (row'.map .int), .v c, u, a, b] ∧ Well l' ∧ RowB n (41 + t) row')
    (xs := rngD 0 v.toNat) (n := 0) (ρ := [.o true l1, .v (.int n), z, .o false (row.map .int), .v c, .u, .u, .u])
    (fun x hx t _ ht ρ ⟨l', row', u, a, b, hρ, w', r1⟩ => by
      subst hρ
      obtain ⟨l3, row3, a', b', e3, w3, r3⟩ := rr_b4 N w' h2 hn r1 z (.v x) a b c
      exact ⟨_, by rw [bd_set _ _ (by simp)]; exact e3, l3, row3, .v x, a', b', rfl, w3, r3⟩) ⟨l1, row, .u, .u, .u, rfl, w1, hr⟩
  rw [hlen, Nat.zero_add] at r2
  refine ⟨l2, row2, u, a, b, for_ok (it_r1e (o := .val (.int v)) (ite_tr (cmpT_ok (x := .slot 1) (y := .val (.int 1)) rfl cst_i rfl rfl ?_) (calW t_rD (r := [.val (.int 3)]) rfl rfl rfl e1)) rfl (rng_ok (by omega) (by omega))) e2, w2, r2.1, fun x hx => (r2.2 x hx).mono (by omega)⟩
  show some (decide ((1 : Int) < (n : Int))) = some true
  rw [decide_eq_true (by omega)]
theorem v_row {l : List D} (w : Well l) {n : Nat} (h2 : 2 ≤ n) (hn : n ≤ 60) : ∃ (row : List Int) (l' : List D), f__law_row l [.int n] = some (.list (row.map .int), l') ∧ Well l' ∧ RowB n 43 row := by
  obtain ⟨d, l1, e1, w1, hd⟩ := v_pickT w (xs := [.int 1, .int 1, .int 1, .int 2, .int 3, .int 30, .int 0]) (by decide) (by decide)
  have hv : ∃ u : Int, d = .int u ∧ 0 ≤ u ∧ u ≤ 30 := by
    simp only [List.mem_cons, List.not_mem_nil, or_false] at hd
    rcases hd with h | h | h | h | h | h | h <;> exact ⟨_, h, by decide, by decide⟩
  obtain ⟨z, rfl, z0, z1⟩ := hv
  obtain ⟨l3, row3, c, e3, w3, r3⟩ := rr_e3 100000 w1 hn z0 z1 (by omega)
  obtain ⟨l4, row4, u, a, b, e4, w4, r4⟩ := rr_e4 100000 w3 h2 hn r3 (.v (.int z)) c
  have hl : lenOk 7 = true := by decide +kernel
  have e1' : evS 100000 (tabT tb__law_number kt0 gl0) [.o true l, .v (.int n), .u, .u, .u, .u, .u, .u] rr_1 = some (.nx [.o true l1, .v (.int n), .v (.int z), .u, .u, .u, .u, .u]) := by
    refine asg_ok (calW t_rP (r := [.val (.tuple [.int 1, .int 1, .int 1, .int 2, .int 3, .int 30, .int 0])]) (ee_cons ?_ rfl) rfl rfl e1) rfl
    simp only [evE, evEs, ofC, Option.bind_some, Option.map_some, keepL, keepOp, List.length_cons, List.length_nil]
    rw [if_pos hl]
  refine ⟨row4, l4, ?_, w4, r4⟩
  unfold f__law_row
  rw [rr__is]
  unfold rr_
  exact runW_ok (ss_nx e1' (ss_nx (ρ1 := [.o true l1, .v (.int n), .v (.int z), .o false [], .u, .u, .u, .u]) rfl (ss_nx e3 (ss_nx e4 (ss_rt (ret_ok (o := .slot 3) rfl rfl))))))
end Ev

set_option maxHeartbeats 1000000
namespace Ev
open PySem L2
/-! ### rows of which harmonics are taken away -/
def kl_1 : IS := .asg (.nm 3) (.var 1)
def kl_2b1 : IS := .asg (.nm 5) (.cal "_law_pick" (.cons (.var 0) (.cons (.slc (.cal "_law_parts" (.cons (.var 2) .nil)) .no (.so (.neg (.cst (.int 1))))) .nil)))
def kl_2b2 : IS := .asg (.nm 6) (.cal "_law_pick" (.cons (.var 0) (.cons (.cal "_law_parts" (.cons (.var 5) .nil)) .nil)))
def kl_2b3t1 : IS := .asg (.nm 3) (.lc (.bin .Sub (.idx (.var 3) (.var 7)) (.idx (.var 3) (.bin .Sub (.var 7) (.var 5)))) (.nm 7) [("_law_k", 7)] (.r1 (.var 2)) .no)
def kl_2b3t : ISs := (.cons kl_2b3t1 .nil)
def kl_2b3f1 : IS := .asg (.nm 3) (.lc (.bi "sum" (.cons (.lc (.idx (.var 3) (.bin .Sub (.var 7) (.bin .Mult (.bin .FloorDiv (.var 5) (.var 6)) (.var 8)))) (.nm 8) [("_law_each", 8)] (.r1 (.var 6)) .no) .nil)) (.nm 7) [("_law_k", 7)] (.r1 (.var 2)) .no)
def kl_2b3f : ISs := (.cons kl_2b3f1 .nil)
def kl_2b3 : IS := .ifs (.cmp .Eq (.cal "_law_draw" (.cons (.var 0) (.cons (.cst (.int 2)) .nil))) (.cst (.int 0))) kl_2b3t kl_2b3f
def kl_2b : ISs := (.cons kl_2b1 (.cons kl_2b2 (.cons kl_2b3 .nil)))
def kl_2 : IS := .fors (.nm 4) (.r1 (.cal "_law_draw" (.cons (.var 0) (.cons (.cst (.int 4)) .nil)))) kl_2b
def kl_3 : IS := .ret (.var 3)
def kl_ : ISs := (.cons kl_1 (.cons kl_2 (.cons kl_3 .nil)))
theorem kl__is : i__law_killed = kl_ := rfl

theorem t_kD : (tabT tb__law_row kt0 gl0).fs "_law_draw" = some fs__law_draw := rfl
theorem t_kP : (tabT tb__law_row kt0 gl0).fs "_law_pick" = some fs__law_pick := rfl
theorem t_kS : (tabT tb__law_row kt0 gl0).fs "_law_parts" = some fs__law_parts := rfl
def LS (s : Sl) (row : List Int) : Prop := s = .v (.list (row.map .int)) ∨ s = .o false (row.map .int)
theorem LS.var {s : Sl} {row : List Int} (h : LS s row) {T : Tb} {ρ : En} {i : Nat} (hi : ρ[i]? = some s) : evE T ρ (.var i) = some (.slot i, ρ) ∧ viewOp ρ (.slot i) = some (.list (row.map .int)) := by
  rcases h with rfl | rfl
  · exact ⟨var_v hi, vw_v hi⟩
  · exact ⟨var_o hi, vw_o hi⟩
theorem sum_bd {b : Nat} : ∀ {l : List Int}, (∀ x ∈ l, Bd b x) → l.sum.natAbs ≤ l.length * 2 ^ b
  | [], _ => by simp
  | a :: l, h => by
    have h1 := sum_bd (l := l) fun x hx => h x (List.mem_cons_of_mem _ hx)
    have h2 : a.natAbs < 2 ^ b := h a List.mem_cons_self
    rw [List.sum_cons, List.length_cons, Nat.add_mul, Nat.one_mul]
    have := Int.natAbs_add_le a l.sum
    omega
theorem sum_bd6 {b : Nat} {l : List Int} (h : ∀ x ∈ l, Bd b x) (hl : l.length ≤ 60) : Bd (b + 6) l.sum := by
  have h1 := sum_bd h
  unfold Bd
  have h2 : l.length * 2 ^ b ≤ 60 * 2 ^ b := Nat.mul_le_mul_right _ hl
  have h3 : 0 < 2 ^ b := Nat.two_pow_pos b
  have : 2 ^ (b + 6) = 2 ^ b * 64 := by rw [Nat.pow_add]
  omega
theorem kl_x (N : Nat) {l : List D} (w : Well l) {n : Nat} (h2 : 2 ≤ n) (hn : n ≤ 60) (R s a b c : Sl) :
    ∃ (l' : List D) (p m : Nat), 1 ≤ p ∧ p < n ∧ 1 ≤ m ∧ m ≤ p ∧ Well l' ∧
    (∀ r, evSs N (tabT tb__law_row kt0 gl0) [.o true l', R, .v (.int n), s, a, .v (.int p), .v (.int m), .u, .u] (.cons kl_2b3 .nil) = r → evSs N (tabT tb__law_row kt0 gl0) [.o true l, R, .v (.int n), s, a, b, c, .u, .u] kl_2b = r) := by
  obtain ⟨q1, q2⟩ := dvs_cut h2
  obtain ⟨p, l1, e1, w1, p1, p2, _⟩ := pick_nat w q1 (parts_cut_len n (by omega)) q2
  obtain ⟨m, l2, e2, w2, m1, m2⟩ := pick_nat w1 (xs := (dvs p).map .int) (P := fun x => 1 ≤ x ∧ x ≤ p) (by
    refine List.ne_nil_of_mem (List.mem_map.mpr ⟨1, ?_, rfl⟩)
    rw [mem_dvs]
    exact ⟨⟨by omega, by omega⟩, by simp⟩) (by rw [List.length_map]; have := dvs_len p; omega) (fun d hd => by
    obtain ⟨x, hx, rfl⟩ := List.mem_map.mp hd
    rw [mem_dvs] at hx
    exact ⟨x.toNat, by rw [Int.toNat_of_nonneg (by omega)], by omega, by omega⟩)
  refine ⟨l2, p, m, p1, p2, m1, m2, w2, fun r hr => ?_⟩
  unfold kl_2b
  refine ss_nx (ρ1 := [.o true l1, R, .v (.int n), s, a, .v (.int p), c, .u, .u]) (asg_ok (calW t_kP (ee_cons (slc_neg (calPn t_kS (ops := [.slot 2]) rfl rfl (ds := [.int n]) rfl rfl (v_parts (by omega) (by omega))) rfl) rfl) rfl rfl e1) rfl) ?_
  exact ss_nx (ρ1 := [.o true l2, R, .v (.int n), s, a, .v (.int p), .v (.int m), .u, .u]) (asg_ok (calW t_kP (ee_cons (calPn t_kS (ops := [.slot 5]) rfl rfl (ds := [.int p]) rfl rfl (v_parts (by omega) (by omega))) rfl) rfl rfl e2) rfl) hr
def cydR (n s : Nat) (r : List Int) : List Int := (List.range n).map fun k => r.getD k 0 - r.getD ((k + n - s) % n) 0
def copT (n p m : Nat) (r : List Int) : List Int := (List.range n).map fun k => ((List.range m).map fun e => r.getD ((k + n - p / m * e) % n) 0).sum
theorem kl_d {T : Tb} {l : List D} {n p : Nat} (h2 : 2 ≤ n) (hn : n ≤ 60) (hp : p < n) {row : List Int} {b : Nat} (hr : RowB n b row) {s : Sl} (hs : LS s row) (R a m : Sl) :
    evE T [.o true l, R, .v (.int n), s, a, .v (.int p), m, .u, .u] (.lc (.bin .Sub (.idx (.var 3) (.var 7)) (.idx (.var 3) (.bin .Sub (.var 7) (.var 5)))) (.nm 7) [("_law_k", 7)] (.r1 (.var 2)) .no) = some (.new ((cydR n p row).map .int), [.o true l, R, .v (.int n), s, a, .v (.int p), m, .u, .u]) := by
  have hl := lcM (T := T) (own := [("_law_k", 7)]) (ρ := [.o true l, R, .v (.int n), s, a, .v (.int p), m, .u, .u]) (ρ1 := [.o true l, R, .v (.int n), s, a, .v (.int p), m, .u, .u]) (it := .r1 (.var 2)) (e := .bin .Sub (.idx (.var 3) (.var 7)) (.idx (.var 3) (.bin .Sub (.var 7) (.var 5)))) (t := .nm 7) (fun t : Nat => PyData.int (t : Int)) (fun k => .int (row.getD k 0 - row.getD ((k + n - p) % n) 0)) (l := List.range n) (it_rn rfl (by omega))
    (fun k hk => by
      have hk := List.mem_range.mp hk
      obtain ⟨v1, v2⟩ := hs.var (T := T) (ρ := [.o true l, R, .v (.int n), s, a, .v (.int p), m, .v (.int k), .u]) (i := 3) rfl
      refine ⟨[.o true l, R, .v (.int n), s, a, .v (.int p), m, .v (.int k), .u], .val (.int (row.getD k 0 - row.getD ((k + n - p) % n) 0)), rfl, ?_, rfl, rfl⟩
      exact bin_ok (x := .val (.int (row.getD k 0))) (y := .val (.int (row.getD ((k + n - p) % n) 0))) (idx_ok (x := .slot 3) (y := .slot 7) v1 rfl v2 rfl (ix_li (ixN_nn (by omega) (by rw [hr.1]; omega)) (by rw [hr.1]; omega)))
        (idx_ok (x := .slot 3) (y := .val (.int ((k : Int) - (p : Int)))) v1 (bin_ok (x := .slot 7) (y := .slot 5) rfl rfl rfl rfl (bi_sub _ _)) v2 rfl (ix_li (by rw [hr.1]; exact ixN_back hk (by omega)) (by rw [hr.1]; exact Nat.mod_lt _ (by omega)))) rfl rfl (bi_sub _ _)) (fun i hi => .inl (by
      have : i = 7 := by simpa using hi
      subst this; rfl)) (len_ok (by simp; omega))
  rw [hl, cydR, List.map_map]
  rfl
theorem cyd_b {n b s : Nat} {row : List Int} (h : RowB n b row) : RowB n (b + 1) (cydR n s row) := by
  refine ⟨by simp [cydR], fun x hx => ?_⟩
  obtain ⟨k, _, rfl⟩ := List.mem_map.mp hx
  exact (getD_bd h.2 _).sub (getD_bd h.2 _)
theorem cop_b {n b p m : Nat} {row : List Int} (h : RowB n b row) (hm : m ≤ 60) : RowB n (b + 6) (copT n p m row) := by
  refine ⟨by simp [copT], fun x hx => ?_⟩
  obtain ⟨k, _, rfl⟩ := List.mem_map.mp hx
  refine sum_bd6 (fun y hy => ?_) (by simp; exact hm)
  obtain ⟨e, _, rfl⟩ := List.mem_map.mp hy
  exact getD_bd h.2 _
theorem sum_v (ds : List Int) : biD "sum" [.list (ds.map .int)] = some (.val (.int ds.sum)) := by simp only [biD, intsD_map, Option.map_some]
theorem kl_c {T : Tb} {l : List D} {n p m : Nat} (h2 : 2 ≤ n) (hn : n ≤ 60) (hp : p < n) (hm : 1 ≤ m) (hmp : m ≤ p) {row : List Int} {b : Nat} (hr : RowB n b row) {s : Sl} (hs : LS s row) (R a : Sl) :
    evE T [.o true l, R, .v (.int n), s, a, .v (.int p), .v (.int m), .u, .u] (.lc (.bi "sum" (.cons (.lc (.idx (.var 3) (.bin .Sub (.var 7) (.bin .Mult (.bin .FloorDiv (.var 5) (.var 6)) (.var 8)))) (.nm 8) [("_law_each", 8)] (.r1 (.var 6)) .no) .nil)) (.nm 7) [("_law_k", 7)] (.r1 (.var 2)) .no) = some (.new ((copT n p m row).map .int), [.o true l, R, .v (.int n), s, a, .v (.int p), .v (.int m), .u, .u]) := by
  have inner : ∀ k, k < n → evE T [.o true l, R, .v (.int n), s, a, .v (.int p), .v (.int m), .v (.int k), .u] (.lc (.idx (.var 3) (.bin .Sub (.var 7) (.bin .Mult (.bin .FloorDiv (.var 5) (.var 6)) (.var 8)))) (.nm 8) [("_law_each", 8)] (.r1 (.var 6)) .no) = some (.new (((List.range m).map fun e => row.getD ((k + n - p / m * e) % n) 0).map .int), [.o true l, R, .v (.int n), s, a, .v (.int p), .v (.int m), .v (.int k), .u]) := by
    intro k hk
    have hl := lcM (T := T) (own := [("_law_each", 8)]) (ρ := [.o true l, R, .v (.int n), s, a, .v (.int p), .v (.int m), .v (.int k), .u]) (ρ1 := [.o true l, R, .v (.int n), s, a, .v (.int p), .v (.int m), .v (.int k), .u]) (it := .r1 (.var 6)) (e := .idx (.var 3) (.bin .Sub (.var 7) (.bin .Mult (.bin .FloorDiv (.var 5) (.var 6)) (.var 8)))) (t := .nm 8) (fun t : Nat => PyData.int (t : Int)) (fun e => .int (row.getD ((k + n - p / m * e) % n) 0)) (l := List.range m) (it_rn rfl (by omega))
      (fun e he => by
        have he := List.mem_range.mp he
        obtain ⟨v1, v2⟩ := hs.var (T := T) (ρ := [.o true l, R, .v (.int n), s, a, .v (.int p), .v (.int m), .v (.int k), .v (.int e)]) (i := 3) rfl
        refine ⟨[.o true l, R, .v (.int n), s, a, .v (.int p), .v (.int m), .v (.int k), .v (.int e)], .val (.int (row.getD ((k + n - p / m * e) % n) 0)), rfl, ?_, rfl, rfl⟩
        have hle : p / m * e ≤ n := by
          have h1 : p / m * e ≤ p / m * m := Nat.mul_le_mul_left _ (by omega)
          have h3 := Nat.div_mul_le_self p m
          omega
        have ce : (p : Int) / (m : Int) * (e : Int) = ((p / m * e : Nat) : Int) := by rw [Int.natCast_mul, Int.natCast_ediv]
        have hlt : p / m < 2 ^ 64 := by
          have := Nat.div_le_self p m
          have h64 : (2 : Nat) ^ 64 = 18446744073709551616 := by decide
          omega
        have hpm : (p : Int) / (m : Int) = ((p / m : Nat) : Int) := (Int.natCast_ediv p m).symm
        refine idx_ok (x := .slot 3) (y := .val (.int ((k : Int) - ((p / m * e : Nat) : Int)))) v1 (bin_ok (x := .slot 7) (y := .val (.int ((p / m * e : Nat) : Int))) rfl (bin_ok (x := .val (.int ((p : Int) / (m : Int)))) (y := .slot 8) (bin_ok (x := .slot 5) (y := .slot 6) rfl rfl rfl rfl (bi_div (dv_ok hm (by omega)))) rfl rfl rfl ?_) rfl rfl (bi_sub _ _)) v2 rfl (ix_li (by rw [hr.1]; exact ixN_back hk hle) (by rw [hr.1]; exact Nat.mod_lt _ (by omega)))
        rw [bi_mul (mulOk_r (by omega) (by omega)), ce]) (fun i hi => .inl (by
        have : i = 8 := by simpa using hi
        subst this; rfl)) (len_ok (by simp; omega))
    rw [hl, List.map_map]
    rfl
  have hl := lcM (T := T) (own := [("_law_k", 7)]) (ρ := [.o true l, R, .v (.int n), s, a, .v (.int p), .v (.int m), .u, .u]) (ρ1 := [.o true l, R, .v (.int n), s, a, .v (.int p), .v (.int m), .u, .u]) (it := .r1 (.var 2)) (e := .bi "sum" (.cons (.lc (.idx (.var 3) (.bin .Sub (.var 7) (.bin .Mult (.bin .FloorDiv (.var 5) (.var 6)) (.var 8)))) (.nm 8) [("_law_each", 8)] (.r1 (.var 6)) .no) .nil)) (t := .nm 7) (fun t : Nat => PyData.int (t : Int)) (fun k => .int (((List.range m).map fun e => row.getD ((k + n - p / m * e) % n) 0).sum)) (l := List.range n) (it_rn rfl (by omega))
    (fun k hk => ⟨[.o true l, R, .v (.int n), s, a, .v (.int p), .v (.int m), .v (.int k), .u], _, rfl, bi1 (inner k (List.mem_range.mp hk)) rfl (sum_v _), rfl, rfl⟩) (fun i hi => .inl (by
      have : i = 7 := by simpa using hi
      subst this; rfl)) (len_ok (by simp; omega))
  rw [hl, copT, List.map_map]
  rfl
theorem kl_t (N : Nat) {l : List D} (w : Well l) {n : Nat} (h2 : 2 ≤ n) (hn : n ≤ 60) {row : List Int} {b0 : Nat} (hr : RowB n b0 row) {s : Sl} (hs : LS s row) (R a b c : Sl) :
    ∃ (l' : List D) (row' : List Int) (s' b' c' : Sl), evSs N (tabT tb__law_row kt0 gl0) [.o true l, R, .v (.int n), s, a, b, c, .u, .u] kl_2b = some (.nx [.o true l', R, .v (.int n), s', a, b', c', .u, .u]) ∧ Well l' ∧ LS s' row' ∧ RowB n (b0 + 6) row' := by
  obtain ⟨l1, p, m, p1, p2, m1, m2, w1, h⟩ := kl_x N w h2 hn R s a b c
  obtain ⟨v, l2, e2, w2, v0, v1⟩ := v_draw w1 (k := 2) (by decide) (by decide)
  have hc : evT (tabT tb__law_row kt0 gl0) [.o true l1, R, .v (.int n), s, a, .v (.int p), .v (.int m), .u, .u] (.cmp .Eq (.cal "_law_draw" (.cons (.var 0) (.cons (.cst (.int 2)) .nil))) (.cst (.int 0))) = some (decide (v = 0), [.o true l2, R, .v (.int n), s, a, .v (.int p), .v (.int m), .u, .u]) :=
    cmpT_ok (x := .val (.int v)) (y := .val (.int 0)) (calW t_kD (r := [.val (.int 2)]) rfl rfl rfl e2) cst_i rfl rfl (cmp_eq _ _)
  by_cases h0 : v = 0
  · rw [decide_eq_true h0] at hc
    refine ⟨l2, cydR n p row, .o false ((cydR n p row).map .int), .v (.int p), .v (.int m), h _ (ss_nx (ifs_t hc (ss_nx (asg_ok (kl_d h2 hn p2 hr hs R a (.v (.int m))) rfl) rfl)) rfl), w2, .inr rfl, ?_⟩
    have := cyd_b (s := p) hr
    exact ⟨this.1, fun x hx => (this.2 x hx).mono (by omega)⟩
  · rw [decide_eq_false h0] at hc
    exact ⟨l2, copT n p m row, .o false ((copT n p m row).map .int), .v (.int p), .v (.int m), h _ (ss_nx (ifs_f hc (ss_nx (asg_ok (kl_c h2 hn p2 m1 m2 hr hs R a) rfl) rfl)) rfl), w2, .inr rfl, cop_b hr (by omega)⟩
theorem kl_e2 (N : Nat) {l : List D} (w : Well l) {n : Nat} (h2 : 2 ≤ n) (hn : n ≤ 60) {row : List Int} (hr : RowB n 43 row) : ∃ (l' : List D) (row' : List Int) (s a b c : Sl), evS N (tabT tb__law_row kt0 gl0) [.o true l, .v (.list (row.map .int)), .v (.int n), .v (.list (row.map .int)), .u, .u, .u, .u, .u] kl_2 = some (.nx [.o true l', .v (.list (row.map .int)), .v (.int n), s, a, b, c, .u, .u]) ∧ Well l' ∧ LS s row' ∧ RowB n 61 row' := by
  obtain ⟨v, l1, e1, w1, v0, v1⟩ := v_draw w (k := 4) (by decide) (by decide)
  have hlen : (rngD 0 v.toNat).length = v.toNat := by simp [rngD]
  obtain ⟨ρ', e2, l2, row2, s, a, b, c, rfl, w2, hs, r2⟩ := evFor_lt (f := fun x ρ1 => (bindT ρ1 (.nm 4) x).bind fun ρ2 => evSs N (tabT tb__law_row kt0 gl0) ρ2 kl_2b)
    (Q := fun t ρ => ∃ (l' : List D) (row' : List Int) (s a b c : Sl), ρ = [.o true l', .v (.list (row.map .int)), .v (.int n), s, a, b, c, .u, .u] ∧ Well l' ∧ LS s row' ∧ RowB n (43 + 6 * t) row')
    (xs := rngD 0 v.toNat) (n := 0) (ρ := [.o true l1, .v (.list (row.map .int)), .v (.int n), .v (.list (row.map .int)), .u, .u, .u, .u, .u])
    (fun x hx t _ ht ρ ⟨l', row', s, a, b, c, hρ, w', hs, r1⟩ => by
      subst hρ
      obtain ⟨l3, row3, s', b', c', e3, w3, hs3, r3⟩ := kl_t N w' h2 hn r1 hs (.v (.list (row.map .int))) (.v x) b c
      exact ⟨_, for_step (by simp) e3, l3, row3, s', .v x, b', c', rfl, w3, hs3, by rw [show 43 + 6 * (t + 1) = 43 + 6 * t + 6 by omega]; exact r3⟩) ⟨l1, row, _, .u, .u, .u, rfl, w1, .inl rfl, hr⟩
  rw [hlen, Nat.zero_add] at r2
  exact ⟨l2, row2, s, a, b, c, for_ok (it_r1e (o := .val (.int v)) (calW t_kD (r := [.val (.int 4)]) rfl rfl rfl e1) rfl (rng_ok (by omega) (by omega))) e2, w2, hs, r2.1, fun x hx => (r2.2 x hx).mono (by omega)⟩
theorem v_killed {l : List D} (w : Well l) {n : Nat} (h2 : 2 ≤ n) (hn : n ≤ 60) {row : List Int} (hr : RowB n 43 row) : ∃ (row' : List Int) (l' : List D), f__law_killed l [.list (row.map .int), .int n] = some (.list (row'.map .int), l') ∧ Well l' ∧ RowB n 61 row' := by
  obtain ⟨l2, row2, s, a, b, c, e0, w2, hs, r2⟩ := kl_e2 100000 w h2 hn hr
  refine ⟨row2, l2, ?_, w2, r2⟩
  unfold f__law_killed
  rw [kl__is]
  unfold kl_
  refine runW_ok (r := [.v (.list (row.map .int)), .v (.int n), .v (.list (row2.map .int)), a, b, c, .u, .u]) (ss_nx (ρ1 := [.o true l, .v (.list (row.map .int)), .v (.int n), .v (.list (row.map .int)), .u, .u, .u, .u, .u]) rfl (ss_nx e0 (ss_rt (ret_ok (o := .slot 3) (hs.var rfl).1 ?_))))
  rcases hs with rfl | rfl <;> rfl
end Ev

set_option maxHeartbeats 1000000
namespace Ev
open PySem L2
/-! ### rows of the program -/
def tupI (l : List Int) : D := .tuple (l.map .int)
theorem v_is_whole1 (i : Int) : f_is_whole [.int i] = some (.bool true) := by
  simp [f_is_whole, runP, i_is_whole, entP, evSs, evS, evE, viewOp, tyD, k_int_int, k_int_bool, keepOp]
theorem t_is_whole : (tabT tb_is_whole kt0 gl0).fs "is_whole" = some fs_is_whole := rfl
theorem v_are_wholes (l : List Int) : f_are_wholes [tupI l] = some (.bool true) := by
  have g : evE (tabT tb_is_whole kt0 gl0) [.v (tupI l), .u] (.gn "all" (.cal "is_whole" (.cons (.var 1) .nil)) (.nm 1) [("part", 1)] (.ex (.var 0)) .no) = some (.val (.bool true), [.v (tupI l), .u]) := by
    have := gnAll (T := (tabT tb_is_whole kt0 gl0)) (own := [("part", 1)]) (ρ := [.v (tupI l), .u]) (ρ1 := [.v (tupI l), .u]) (it := .ex (.var 0)) (e := .cal "is_whole" (.cons (.var 1) .nil)) (t := .nm 1) PyData.int (fun _ => true) (l := l) (by simp [evIt, evE, keepOp, tupI]) (fun i _ => ⟨[.v (tupI l), .v (.int i)], .val (.bool true), rfl, calPn t_is_whole (ops := [.slot 1]) rfl rfl (ds := [.int i]) rfl rfl (v_is_whole1 i), rfl, rfl⟩) (fun i hi => .inl (by
      have : i = 1 := by simpa using hi
      subst this; rfl))
    rw [this]
    simp
  unfold f_are_wholes i_are_wholes
  refine runP_ok (r := [.v (tupI l), .u]) (ss_rt (ret_ok (o := .val (.bool true)) (ρ1 := [.v (tupI l), .u]) ?_ rfl))
  rw [show entP 2 [tupI l] = [.v (tupI l), .u] from rfl, and_t (isi_ok (x := .slot 0) (ρ1 := [.v (tupI l), .u]) rfl rfl k_tup_tup) rfl, one_e]
  exact g
theorem t_are_wholes : (tabT tb_are_wholes kt0 gl0).fs "are_wholes" = some fs_are_wholes := rfl
theorem g_least : (tabT tb_are_wholes kt0 gl0).gl "LEAST_SLOTS" = some (.int 2) := rfl
theorem g_most : (tabT tb_are_wholes kt0 gl0).gl "MOST_SLOTS" = some (.int 60) := rfl
theorem tupI_len (l : List Int) : biD "len" [tupI l] = some (.val (.int (l.length : Nat))) := by simp [tupI, biD]
theorem v_is_row (l : List Int) (h1 : 2 ≤ l.length) (h2 : l.length ≤ 60) : f_is_row [tupI l] = some (.bool true) := by
  have h3 : (2 : Int) ≤ l.length := by omega
  have h4 : (l.length : Int) ≤ 60 := by omega
  simp [f_is_row, runP, i_is_row, entP, evSs, evS, evE, evEs, viewL, viewOp, t_are_wholes, fs_are_wholes, callF, callP, flat, keepOp, v_are_wholes, g_least, g_most, tupI_len, cmpD, cmpI, h3, h4]
theorem t_is_row : (tabT tb_is_row kt0 gl0).fs "is_row" = some fs_is_row := rfl
theorem v_check_row (l : List Int) (h1 : 2 ≤ l.length) (h2 : l.length ≤ 60) : f_check_row [tupI l] = some .none := by
  unfold f_check_row i_check_row
  exact runP_nx (r := [.v (tupI l)]) (ss_nx (if_no (not_ok (calPt t_is_row (ops := [.slot 0]) rfl rfl rfl (v_is_row l h1 h2)))) rfl)
theorem t_whN : (tabT tb_orders_gone kt0 gl0).fs "is_whole" = some fs_is_whole := rfl
theorem v_check_number (i : Int) : f_check_number [.int i] = some .none := by
  unfold f_check_number i_check_number
  exact runP_nx (r := [.v (.int i)]) (ss_nx (if_no (not_ok (calPt t_whN (ops := [.slot 0]) rfl rfl rfl (v_is_whole1 i)))) rfl)
theorem t_whW : (tabT tb_scaled_row kt0 gl0).fs "is_whole" = some fs_is_whole := rfl
theorem v_is_within {i lo hi : Int} (hl : lo ≤ i) (hh : i ≤ hi) : f_is_within [.int i, .int lo, .int hi] = some (.bool true) := by
  simp [f_is_within, runP, i_is_within, entP, evSs, evS, evE, evEs, t_whW, fs_is_whole, callF, callP, viewL, viewOp, v_is_whole1, flat, cmpD, cmpI, keepOp, hl, hh]
theorem t_wiS : (tabT tb_is_within kt0 gl0).fs "is_within" = some fs_is_within := rfl
theorem g_leastS : (tabT tb_is_within kt0 gl0).gl "LEAST_SLOTS" = some (.int 2) := rfl
theorem g_mostS : (tabT tb_is_within kt0 gl0).gl "MOST_SLOTS" = some (.int 60) := rfl
theorem v_check_slots {n : Nat} (h1 : 2 ≤ n) (h2 : n ≤ 60) : f_check_slots [.int n] = some .none := by
  unfold f_check_slots i_check_slots
  refine runP_nx (r := [.v (.int n)]) (ss_nx (if_no (not_ok (calPt t_wiS (ops := [.slot 0, .val (.int 2), .val (.int 60)]) ?_ rfl rfl (v_is_within (by omega) (by omega))))) rfl)
  simp only [evEs, evE, g_leastS, g_mostS, Option.map_some, Option.bind_some]
  rfl
theorem t_crT : (tabT tb_check_number kt0 gl0).fs "check_row" = some fs_check_row := rfl
theorem t_cnT : (tabT tb_check_number kt0 gl0).fs "check_number" = some fs_check_number := rfl
theorem v_turned (l : List Int) (h1 : 2 ≤ l.length) (h2 : l.length ≤ 60) (t : Int) : f_turned_row [tupI l, .int t] = some (tupI (l.drop ((-t) % (l.length : Int)).toNat ++ l.take ((-t) % (l.length : Int)).toNat)) := by
  have p0 : 0 ≤ (-t) % (l.length : Int) := Int.emod_nonneg _ (by omega)
  have p1 : (-t) % (l.length : Int) < l.length := Int.emod_lt_of_pos _ (by omega)
  have pa : (-t) % (l.length : Int) = (((-t) % (l.length : Int)).toNat : Int) := (Int.toNat_of_nonneg p0).symm
  generalize ((-t) % (l.length : Int)).toNat = a at pa
  have ha : a ≤ (l.map PyData.int).length := by rw [List.length_map]; omega
  unfold f_turned_row i_turned_row
  refine runP_ok (r := [.v (tupI l), .v (.int t), .v (.int a)]) (ss_nx (exp_ok (calPn t_crT (ops := [.slot 0]) rfl rfl rfl rfl (v_check_row l h1 h2))) (ss_nx (exp_ok (calPn t_cnT (ops := [.slot 1]) rfl rfl rfl rfl (v_check_number t)))
    (ss_nx (ρ1 := [.v (tupI l), .v (.int t), .v (.int a)]) (asg_ok (o := .val (.int a)) (bin_ok (x := .val (.int (-t))) (y := .val (.int (l.length : Nat))) (neg_ok (x := .slot 1) rfl rfl) (bi1 (x := .slot 0) rfl rfl (tupI_len l)) rfl rfl (by rw [bi_mod (by omega), pa])) rfl) (ss_rt (ret_ok (o := .val (tupI (l.drop a ++ l.take a))) (bin_ok (x := .val (.tuple ((l.map .int).drop a))) (y := .val (.tuple ((l.map .int).take a)))
      (slc_ok (o := .slot 0) (x := some (a : Int)) (y := none) rfl (so_ok (x := .slot 2) rfl rfl) rfl rfl (by show some (Op.val (.tuple (cutD _ _ _))) = _; rw [cut_dropD _ ha]))
      (slc_ok (o := .slot 0) (x := none) (y := some (a : Int)) rfl rfl (so_ok (x := .slot 2) rfl rfl) rfl (by show some (Op.val (.tuple (cutD _ _ _))) = _; rw [cut_takeD _])) rfl rfl ?_) rfl)))))
  rw [add_tup (by rw [List.length_drop, List.length_take, List.length_map]; omega), tupI, List.map_append, List.map_drop, List.map_take]
theorem t_crM : (tabT tb_turned_row kt0 gl0).fs "check_row" = some fs_check_row := rfl
theorem v_mirrored (a : Int) (l : List Int) (h1 : 2 ≤ (a :: l).length) (h2 : (a :: l).length ≤ 60) : f_mirrored_row [tupI (a :: l)] = some (tupI (a :: l.reverse)) := by
  unfold f_mirrored_row i_mirrored_row
  refine runP_ok (r := [.v (tupI (a :: l))]) (ss_nx (exp_ok (calPn t_crM (ops := [.slot 0]) rfl rfl rfl rfl (v_check_row (a :: l) h1 h2))) (ss_rt (ret_ok (o := .val (tupI (a :: l.reverse))) (bin_ok (x := .val (.tuple [.int a])) (y := .val (.tuple (l.reverse.map .int)))
    (slc_ok (o := .slot 0) (x := none) (y := some 1) rfl rfl (so_ok (x := .val (.int 1)) cst_i rfl) rfl (by show some (Op.val (.tuple (cutD _ none (some ((1 : Nat) : Int))))) = _; rw [cut_takeD _]; rfl))
    (slb_ok (o := .slot 0) (x := none) (y := some 0) rfl rfl (so_ok (x := .val (.int 0)) cst_i rfl) rfl (by show some (Op.val (.tuple (revL ((a :: l).map PyData.int) none (some 0)))) = _; rw [List.map_cons, revL_0, List.map_reverse])) rfl rfl ?_) rfl)))
  rw [add_tup (by simp at h2 ⊢; omega)]
  rfl
theorem t_crC : (tabT tb_mirrored_row kt0 gl0).fs "check_row" = some fs_check_row := rfl
theorem t_cnC : (tabT tb_mirrored_row kt0 gl0).fs "check_number" = some fs_check_number := rfl
theorem v_scaled (l : List Int) (h1 : 2 ≤ l.length) (h2 : l.length ≤ 60) {c : Int} (hc : ∀ x ∈ l, mulOk x c = true) : f_scaled_row [tupI l, .int c] = some (tupI (l.map (· * c))) := by
  have g := gnT (T := (tabT tb_mirrored_row kt0 gl0)) (f := "tuple") (own := [("number", 2)]) (ρ := [.v (tupI l), .v (.int c), .u]) (ρ1 := [.v (tupI l), .v (.int c), .u]) (it := .ex (.var 0)) (e := .bin .Mult (.var 2) (.var 1)) (t := .nm 2) (d := tupI (l.map (· * c))) PyData.int (fun x => .int (x * c)) (l := l) rfl
    (fun x hx => ⟨[.v (tupI l), .v (.int c), .v (.int x)], .val (.int (x * c)), rfl, bin_ok (x := .slot 2) (y := .slot 1) rfl rfl rfl rfl (bi_mul (hc x hx)), rfl, rfl⟩) (fun _ _ => rfl) (fun i hi => .inl (by
      have : i = 2 := by simpa using hi
      subst this; rfl)) (by
      show (if lenOk (l.map fun x => PyData.int (x * c)).length then some (PyData.tuple (l.map fun x => PyData.int (x * c))) else none) = _
      rw [if_pos (len_ok (by rw [List.length_map]; omega)), tupI, List.map_map]; rfl)
  unfold f_scaled_row i_scaled_row
  exact runP_ok (ss_nx (exp_ok (calPn t_crC (ops := [.slot 0]) rfl rfl rfl rfl (v_check_row l h1 h2))) (ss_nx (exp_ok (calPn t_cnC (ops := [.slot 1]) rfl rfl rfl rfl (v_check_number c))) (ss_rt (ret_ok g rfl))))
theorem t_csO : (tabT tb_check_slots kt0 gl0).fs "check_slots" = some fs_check_slots := rfl
theorem t_cnO : (tabT tb_check_slots kt0 gl0).fs "check_number" = some fs_check_number := rfl
theorem t_gcO : (tabT tb_check_slots kt0 gl0).fs "gcd" = some (.p 2 gcdF) := rfl
/-- the order of a harmonic -/
def ordN (n : Nat) (h : Int) : Nat := n / Nat.gcd h.natAbs n
theorem v_order_of {n : Nat} (h1 : 2 ≤ n) (h2 : n ≤ 60) (h : Int) : f_order_of [.int n, .int h] = some (.int (ordN n h)) := by
  have hg : 0 < Nat.gcd h.natAbs n := Nat.gcd_pos_of_pos_right _ (by omega)
  have hl : Nat.gcd h.natAbs n ≤ n := Nat.gcd_le_right _ (by omega)
  unfold f_order_of i_order_of
  refine runP_ok (ss_nx (exp_ok (calPn t_csO (ops := [.slot 0]) rfl rfl rfl rfl (v_check_slots h1 h2))) (ss_nx (exp_ok (calPn t_cnO (ops := [.slot 1]) rfl rfl rfl rfl (v_check_number h)))
    (ss_rt (ret_ok (o := .val (.int (ordN n h))) (bin_ok (x := .slot 0) (y := .val (.int ((Nat.gcd h.natAbs n : Nat) : Int))) rfl (calPn t_gcO (ops := [.slot 1, .slot 0]) rfl rfl (ds := [.int h, .int n]) rfl rfl (by simp [gcdF])) rfl rfl ?_) rfl))))
  rw [bi_div (dv_ok hg (by omega)), ordN, Int.natCast_ediv]
end Ev

set_option maxHeartbeats 1000000
namespace Ev
open PySem L2
/-! ### a division -/
def dv_1 : IS := .asg (.nm 2) (.bin .Sub (.bi "len" (.cons (.var 1) .nil)) (.cst (.int 1)))
def dv_2 : IS := .asg (.nm 3) (.lc (.tup (.cons (.var 10) (.cons (.var 11) .nil))) (.tup (.cons (.nm 10) (.cons (.nm 11) .nil))) [("place", 10), ("part", 11)] (.en (.slc (.var 1) .no (.so (.var 2)))) (.so (.cmp .NotEq (.var 11) (.cst (.int 0)))))
def dv_3 : IS := .asg (.nm 4) (.bi "list" (.cons (.var 0) .nil))
def dv_4 : IS := .asg (.nm 5) (.bin .Mult (.lst (.cons (.cst (.int 0)) .nil)) (.bin .Sub (.bi "len" (.cons (.var 4) .nil)) (.var 2)))
def dv_5b1 : IS := .asg (.nm 8) (.idx (.var 4) (.var 6))
def dv_5b2t1 : IS := .asg (.nm 9) (.bin .Sub (.var 6) (.var 2))
def dv_5b2t2 : IS := .asg (.sub 5 (.var 9)) (.var 8)
def dv_5b2t3b1 : IS := .augS 4 (.bin .Add (.var 9) (.var 10)) .Sub (.bin .Mult (.var 8) (.var 11))
def dv_5b2t3b : ISs := (.cons dv_5b2t3b1 .nil)
def dv_5b2t3 : IS := .fors (.tup (.cons (.nm 10) (.cons (.nm 11) .nil))) (.ex (.var 3)) dv_5b2t3b
def dv_5b2t : ISs := (.cons dv_5b2t1 (.cons dv_5b2t2 (.cons dv_5b2t3 .nil)))
def dv_5b2 : IS := .ifs (.cmp .NotEq (.var 8) (.cst (.int 0))) dv_5b2t .nil
def dv_5b : ISs := (.cons dv_5b1 (.cons dv_5b2 .nil))
def dv_5 : IS := .fors (.nm 6) (.r3 (.cons (.bin .Sub (.bi "len" (.cons (.var 4) .nil)) (.cst (.int 1))) (.cons (.bin .Sub (.var 2) (.cst (.int 1))) (.cons (.neg (.cst (.int 1))) .nil)))) dv_5b
def dv_6 : IS := .asg (.nm 7) (.bin .Add (.slc (.var 4) .no (.so (.var 2))) (.bin .Mult (.lst (.cons (.cst (.int 0)) .nil)) (.bin .Sub (.var 2) (.bi "len" (.cons (.var 4) .nil)))))
def dv_7 : IS := .ret (.tup (.cons (.var 5) (.cons (.var 7) .nil)))
def dv_ : ISs := (.cons dv_1 (.cons dv_2 (.cons dv_3 (.cons dv_4 (.cons dv_5 (.cons dv_6 (.cons dv_7 .nil)))))))
theorem dv__is : i_divided = dv_ := rfl

def ptN (p : Nat × Int) : D := .tuple [.int p.1, .int p.2]
theorem enumD_int (low : List Int) : enumD (low.map .int) = (Od.enl low).map ptN := by
  unfold enumD Od.enl
  rw [List.length_map, List.map_zipWith, List.zipWith_map_right]
  rfl
theorem parts_fm (low : List Int) : (Od.enl low).filterMap (fun p => if p.2 = 0 then none else some (ptN p)) = (Od.parts low).map ptN := by
  unfold Od.parts
  induction Od.enl low with
  | nil => rfl
  | cons p ps ih =>
    by_cases h : p.2 = 0
    · rw [List.filterMap_cons, if_pos h, List.filter_cons_of_neg (by simp [h]), ih]
    · rw [List.filterMap_cons, if_neg h, List.filter_cons_of_pos (by simp [h]), ih]; rfl
theorem getD_take {l : List Int} {n : Nat} : (l ++ [1]).take l.length = l := by simp
theorem cmp_ne0 (i : Int) : cmpD .NotEq (.int i) (.int 0) = some (!decide (i = 0)) := cmp_ne _ _
theorem dv_e2 (N : Nat) {T : Tb} (F : D) (low : List Int) (hl : low.length ≤ 400) :
    evS N T [.v F, .v (.list ((low ++ [1]).map .int)), .v (.int low.length), .u, .u, .u, .u, .u, .u, .u, .u, .u] dv_2 = some (.nx [.v F, .v (.list ((low ++ [1]).map .int)), .v (.int low.length), .o false ((Od.parts low).map ptN), .u, .u, .u, .u, .u, .u, .u, .u]) := by
  have hl := lcT (T := T) (own := [("place", 10), ("part", 11)]) (ρ := [.v F, .v (.list ((low ++ [1]).map .int)), .v (.int low.length), .u, .u, .u, .u, .u, .u, .u, .u, .u]) (ρ1 := [.v F, .v (.list ((low ++ [1]).map .int)), .v (.int low.length), .u, .u, .u, .u, .u, .u, .u, .u, .u]) (it := .en (.slc (.var 1) .no (.so (.var 2)))) (c := .so (.cmp .NotEq (.var 11) (.cst (.int 0)))) (e := .tup (.cons (.var 10) (.cons (.var 11) .nil))) (t := .tup (.cons (.nm 10) (.cons (.nm 11) .nil))) ptN (fun p => if p.2 = 0 then none else some (ptN p)) (l := Od.enl low) (by
      rw [← enumD_int]
      refine it_en (o := .new (low.map .int)) (slc_ok (o := .slot 1) (x := none) (y := some (low.length : Int)) rfl rfl (so_ok (x := .slot 2) rfl rfl) rfl ?_) rfl
      show some (Op.new (cutD _ none (some (low.length : Int)))) = _
      rw [cut_takeD, ← List.map_take, getD_take]; exact 0)
    (fun p hp => by
      refine ⟨[.v F, .v (.list ((low ++ [1]).map .int)), .v (.int low.length), .u, .u, .u, .u, .u, .u, .u, .v (.int p.1), .v (.int p.2)], ?_, rfl⟩
      have hc : evT T [.v F, .v (.list ((low ++ [1]).map .int)), .v (.int low.length), .u, .u, .u, .u, .u, .u, .u, .v (.int p.1), .v (.int p.2)] (.cmp .NotEq (.var 11) (.cst (.int 0))) = some (!decide (p.2 = 0), [.v F, .v (.list ((low ++ [1]).map .int)), .v (.int low.length), .u, .u, .u, .u, .u, .u, .u, .v (.int p.1), .v (.int p.2)]) :=
        cmpT_ok (x := .slot 11) (y := .val (.int 0)) rfl cst_i rfl rfl (cmp_ne0 _)
      have ht : evE T [.v F, .v (.list ((low ++ [1]).map .int)), .v (.int low.length), .u, .u, .u, .u, .u, .u, .u, .v (.int p.1), .v (.int p.2)] (.tup (.cons (.var 10) (.cons (.var 11) .nil))) = some (.val (ptN p), [.v F, .v (.list ((low ++ [1]).map .int)), .v (.int low.length), .u, .u, .u, .u, .u, .u, .u, .v (.int p.1), .v (.int p.2)]) := tupN (ops := [.slot 10, .slot 11]) rfl rfl (by simp)
      show Bod T (.so (.cmp .NotEq (.var 11) (.cst (.int 0)))) (.tup (.cons (.var 10) (.cons (.var 11) .nil))) [.v F, .v (.list ((low ++ [1]).map .int)), .v (.int low.length), .u, .u, .u, .u, .u, .u, .u, .v (.int p.1), .v (.int p.2)] = _
      unfold Bod
      simp only [evIf, hc, Option.bind_some]
      by_cases h : p.2 = 0
      · simp [h]
      · simp only [decide_eq_false h, Bool.not_false, if_true, ht, Option.bind_some, keepOp, Option.map_some, if_neg h]) (fun i hi => .inl (by
      have : i = 10 ∨ i = 11 := by simpa using hi
      rcases this with h | h <;> subst h <;> rfl)) (by
      rw [parts_fm, List.length_map]
      refine len_ok ?_
      have h1 := List.length_filter_le (fun p : Nat × Int => p.2 != 0) (Od.enl low)
      have h2 : (Od.enl low).length ≤ low.length := by simp [Od.enl]
      unfold Od.parts
      omega)
  rw [parts_fm] at hl
  exact asg_ok hl rfl
/-- what the inner turns keep -/
def InR (F G d s3 q t s k : Sl) (m len : Nat) (S : List Int × Nat) (ρ : En) : Prop :=
  S.1.length = len ∧ (∀ x ∈ S.1, Bd (m + S.2) x) ∧ ∃ a b, ρ = [F, G, d, s3, .o false (S.1.map .int), q, t, .u, s, k, a, b]
theorem set_bd {b : Nat} {l : List Int} (h : ∀ x ∈ l, Bd b x) {j : Nat} {z : Int} (hz : Bd b z) : ∀ x ∈ l.set j z, Bd b x := fun x hx => by
  rcases List.mem_or_eq_of_mem_set hx with h1 | rfl
  · exact h x h1
  · exact hz
theorem dv_in (N : Nat) {T : Tb} {F G d s3 q t : Sl} {k m len : Nat} {s : Int} {ps : List (Nat × Int)} (hs : Bd m s) (hp : ∀ p ∈ ps, Bd 2 p.2 ∧ k + p.1 < len) (hm : m + 2 + ps.length ≤ 900000) {r : List Int} (hr : r.length = len) (hb : ∀ x ∈ r, Bd m x) (a b : Sl) :
    ∃ a' b', evFor (fun x ρ1 => (bindT ρ1 (.tup (.cons (.nm 10) (.cons (.nm 11) .nil))) x).bind fun ρ2 => evSs N T ρ2 dv_5b2t3b) (ps.map ptN) [F, G, d, s3, .o false (r.map .int), q, t, .u, .v (.int s), .v (.int k), a, b] = some (.nx [F, G, d, s3, .o false ((Od.sub1 k s r ps).map .int), q, t, .u, .v (.int s), .v (.int k), a', b']) ∧ ∀ x ∈ Od.sub1 k s r ps, Bd (m + 2 + ps.length) x := by
  have key : ∀ (ps : List (Nat × Int)) (r : List Int) (j : Nat) (a b : Sl), (∀ p ∈ ps, Bd 2 p.2 ∧ k + p.1 < len) → r.length = len → (∀ x ∈ r, Bd (m + 2 + j) x) → ∃ a' b', evFor (fun x ρ1 => (bindT ρ1 (.tup (.cons (.nm 10) (.cons (.nm 11) .nil))) x).bind fun ρ2 => evSs N T ρ2 dv_5b2t3b) (ps.map ptN) [F, G, d, s3, .o false (r.map .int), q, t, .u, .v (.int s), .v (.int k), a, b] = some (.nx [F, G, d, s3, .o false ((Od.sub1 k s r ps).map .int), q, t, .u, .v (.int s), .v (.int k), a', b']) ∧ ∀ x ∈ Od.sub1 k s r ps, Bd (m + 2 + j + ps.length) x := by
    intro ps
    induction ps with
    | nil => intro r j a b _ _ hb; exact ⟨a, b, rfl, hb⟩
    | cons p ps ih =>
      intro r j a b hp hr hb
      obtain ⟨h1, h2⟩ := hp p List.mem_cons_self
      have e1 : evSs N T [F, G, d, s3, .o false (r.map .int), q, t, .u, .v (.int s), .v (.int k), .v (.int p.1), .v (.int p.2)] dv_5b2t3b = some (.nx [F, G, d, s3, .o false ((r.set (k + p.1) (r.getD (k + p.1) 0 - s * p.2)).map .int), q, t, .u, .v (.int s), .v (.int k), .v (.int p.1), .v (.int p.2)]) := by
        unfold dv_5b2t3b dv_5b2t3b1
        refine ss_nx (augS_ok (ρ := [F, G, d, s3, .o false (r.map .int), q, t, .u, .v (.int s), .v (.int k), .v (.int p.1), .v (.int p.2)]) (i := 4) (mt := false) (l := r) (k := (k : Int) + (p.1 : Int)) (j := k + p.1) (b := s * p.2) rfl (bin_ok (x := .slot 9) (y := .slot 10) rfl rfl rfl rfl (bi_add _ _)) rfl ?_ (by omega) (bin_ok (x := .slot 8) (y := .slot 11) rfl rfl rfl rfl (bi_mul (hs.mulOk h1 (by omega)))) rfl rfl) rfl
        rw [ixN_nn (by omega) (by omega)]
        congr 1
      obtain ⟨a', b', e2, h3⟩ := ih (r.set (k + p.1) (r.getD (k + p.1) 0 - s * p.2)) (j + 1) (.v (.int p.1)) (.v (.int p.2)) (fun p hp' => hp p (List.mem_cons_of_mem _ hp')) (by rw [List.length_set]; exact hr) (set_bd (fun x hx => (hb x hx).mono (by omega)) (by
        have g1 := getD_bd hb (k + p.1)
        have g2 : Bd (m + 2 + j) (s * p.2) := (hs.mul h1).mono (by omega)
        exact (g1.sub g2).mono (by omega)))
      refine ⟨a', b', ?_, fun x hx => (h3 x hx).mono (by rw [List.length_cons]; omega)⟩
      rw [List.map_cons]
      simp only [evFor]
      have : ((bindT [F, G, d, s3, .o false (r.map .int), q, t, .u, .v (.int s), .v (.int k), a, b] (.tup (.cons (.nm 10) (.cons (.nm 11) .nil))) (ptN p)).bind fun ρ2 => evSs N T ρ2 dv_5b2t3b) = some (.nx [F, G, d, s3, .o false ((r.set (k + p.1) (r.getD (k + p.1) 0 - s * p.2)).map .int), q, t, .u, .v (.int s), .v (.int k), .v (.int p.1), .v (.int p.2)]) := for_step2 (by simp) (by simp) e1
      rw [this]
      exact e2
  obtain ⟨a', b', e, h⟩ := key ps r 0 a b hp hr (fun x hx => (hb x hx).mono (by omega))
  exact ⟨a', b', e, h⟩
def S3 (s : Sl) (ds : List D) : Prop := s = .v (.list ds) ∨ s = .o false ds
/-- what the outer turns keep -/
def OutR (F G : Sl) (f low : List Int) (b : Nat) (S : (List Int × List Int) × Nat) (ρ : En) : Prop :=
  S.1.1.length = f.length - low.length ∧ S.1.2.length = f.length ∧ (∀ x ∈ S.1.2, Bd (b + S.2 * (low.length + 2)) x) ∧ ∃ s3 c6 c8 c9 c10 c11, S3 s3 ((Od.parts low).map ptN) ∧ ρ = [F, G, .v (.int low.length), s3, .o false (S.1.2.map .int), .o false (S.1.1.map .int), c6, .u, c8, c9, c10, c11]
theorem parts_len (low : List Int) : (Od.parts low).length ≤ low.length := by
  have h1 := List.length_filter_le (fun p : Nat × Int => p.2 != 0) (Od.enl low)
  have h2 : (Od.enl low).length ≤ low.length := by simp [Od.enl]
  unfold Od.parts
  omega
theorem dv_out (N : Nat) {T : Tb} {F G : Sl} {f low : List Int} {b : Nat} (hlow : ∀ x ∈ low, Bd 2 x) {S : (List Int × List Int) × Nat} {ρ : En} (hR : OutR F G f low b S ρ) (hS : b + S.2 * (low.length + 2) + 2 + low.length ≤ 900000) {t : Nat} (t1 : low.length ≤ t) (t2 : t < f.length) :
    ∃ ρ', ((bindT ρ (.nm 6) (.int t)).bind fun ρ2 => evSs N T ρ2 dv_5b) = some (.nx ρ') ∧ OutR F G f low b (Od.divS low.length (Od.parts low) S.1 t, S.2 + 1) ρ' := by
  obtain ⟨l1, l2, hb, s3, c6, c8, c9, c10, c11, h3, rfl⟩ := hR
  have e1 : evS N T [F, G, .v (.int low.length), s3, .o false (S.1.2.map .int), .o false (S.1.1.map .int), .v (.int t), .u, c8, c9, c10, c11] dv_5b1 = some (.nx [F, G, .v (.int low.length), s3, .o false (S.1.2.map .int), .o false (S.1.1.map .int), .v (.int t), .u, .v (.int (S.1.2.getD t 0)), c9, c10, c11]) :=
    asg_ok (idx_ok (x := .slot 4) (y := .slot 6) rfl rfl rfl rfl (ix_li (ixN_nn (by omega) (by omega)) (by omega))) rfl
  have hsb := getD_bd hb t
  generalize hs : S.1.2.getD t 0 = s at e1 hsb
  have hc : evT T [F, G, .v (.int low.length), s3, .o false (S.1.2.map .int), .o false (S.1.1.map .int), .v (.int t), .u, .v (.int s), c9, c10, c11] (.cmp .NotEq (.var 8) (.cst (.int 0))) = some (!decide (s = 0), [F, G, .v (.int low.length), s3, .o false (S.1.2.map .int), .o false (S.1.1.map .int), .v (.int t), .u, .v (.int s), c9, c10, c11]) :=
    cmpT_ok (x := .slot 8) (y := .val (.int 0)) rfl cst_i rfl rfl (cmp_ne0 _)
  by_cases h0 : s = 0
  · refine ⟨[F, G, .v (.int low.length), s3, .o false (S.1.2.map .int), .o false (S.1.1.map .int), .v (.int t), .u, .v (.int s), c9, c10, c11], for_step (by simp) (ss_nx e1 (ss_nx (if_no (by rw [hc, decide_eq_true h0]; rfl)) rfl)), ?_⟩
    have : Od.divS low.length (Od.parts low) S.1 t = S.1 := by unfold Od.divS; rw [hs, if_pos h0]
    rw [this]
    refine ⟨l1, l2, fun x hx => (hb x hx).mono ?_, s3, _, _, _, _, _, h3, rfl⟩
    show b + S.2 * (low.length + 2) ≤ b + (S.2 + 1) * (low.length + 2)
    rw [Nat.add_mul]; omega
  · rw [decide_eq_false h0] at hc
    have hd : Od.divS low.length (Od.parts low) S.1 t = (S.1.1.set (t - low.length) s, Od.sub1 (t - low.length) s S.1.2 (Od.parts low)) := by unfold Od.divS; rw [hs, if_neg h0]
    have hpl := parts_len low
    obtain ⟨a', b', e5, h5⟩ := dv_in N (T := T) (F := F) (G := G) (d := .v (.int low.length)) (s3 := .v (.list ((Od.parts low).map ptN))) (q := .o false ((S.1.1.set (t - low.length) s).map .int)) (t := .v (.int t)) (k := t - low.length) (len := f.length) (s := s) (ps := Od.parts low) hsb (fun p hp => by
      obtain ⟨h1, h2⟩ := Od.parts_lt hp
      exact ⟨hlow _ h2, by omega⟩) (by omega) l2 hb c10 c11
    have e2 : evS N T [F, G, .v (.int low.length), s3, .o false (S.1.2.map .int), .o false (S.1.1.map .int), .v (.int t), .u, .v (.int s), c9, c10, c11] dv_5b2t1 = some (.nx [F, G, .v (.int low.length), s3, .o false (S.1.2.map .int), .o false (S.1.1.map .int), .v (.int t), .u, .v (.int s), .v (.int ((t - low.length : Nat) : Int)), c10, c11]) := by
      refine asg_ok (o := .val (.int ((t - low.length : Nat) : Int))) (bin_ok (x := .slot 6) (y := .slot 2) rfl rfl rfl rfl ?_) rfl
      rw [bi_sub, Int.natCast_sub t1]
    have e3 : evS N T [F, G, .v (.int low.length), s3, .o false (S.1.2.map .int), .o false (S.1.1.map .int), .v (.int t), .u, .v (.int s), .v (.int ((t - low.length : Nat) : Int)), c10, c11] dv_5b2t2 = some (.nx [F, G, .v (.int low.length), s3, .o false (S.1.2.map .int), .o false ((S.1.1.set (t - low.length) s).map .int), .v (.int t), .u, .v (.int s), .v (.int ((t - low.length : Nat) : Int)), c10, c11]) :=
      sub_ok (o := .slot 8) (o2 := .slot 9) (j := t - low.length) rfl rfl rfl rfl rfl (by rw [ixN_nn (by omega) (by omega), Int.toNat_natCast])
    have e4 : evS N T [F, G, .v (.int low.length), s3, .o false (S.1.2.map .int), .o false ((S.1.1.set (t - low.length) s).map .int), .v (.int t), .u, .v (.int s), .v (.int ((t - low.length : Nat) : Int)), c10, c11] dv_5b2t3 = some (.nx [F, G, .v (.int low.length), .v (.list ((Od.parts low).map ptN)), .o false ((Od.sub1 (t - low.length) s S.1.2 (Od.parts low)).map .int), .o false ((S.1.1.set (t - low.length) s).map .int), .v (.int t), .u, .v (.int s), .v (.int ((t - low.length : Nat) : Int)), a', b']) := by
      refine for_ok (ρ1 := [F, G, .v (.int low.length), .v (.list ((Od.parts low).map ptN)), .o false (S.1.2.map .int), .o false ((S.1.1.set (t - low.length) s).map .int), .v (.int t), .u, .v (.int s), .v (.int ((t - low.length : Nat) : Int)), c10, c11]) ?_ e5
      rcases h3 with rfl | rfl <;> rfl
    refine ⟨_, for_step (by simp) (ss_nx e1 (ss_nx (ifs_t hc (ss_nx e2 (ss_nx e3 (ss_nx e4 rfl)))) rfl)), ?_⟩
    rw [hd]
    refine ⟨by rw [List.length_set]; exact l1, by rw [Od.sub1_len]; exact l2, fun x hx => (h5 x hx).mono ?_, _, _, _, _, _, _, .inl rfl, rfl⟩
    show _ ≤ b + (S.2 + 1) * (low.length + 2)
    rw [Nat.add_mul]; omega
theorem dv_e5 (N : Nat) {T : Tb} {F G : Sl} {f low : List Int} {b : Nat} (hlow : ∀ x ∈ low, Bd 2 x) (hf : ∀ x ∈ f, Bd b x) (h1 : f.length ≤ 1000) (h2 : low.length ≤ 400) (h0 : 1 ≤ low.length) (hB : b + (f.length + 1) * (low.length + 2) ≤ 900000) :
    ∃ s3 c6 c8 c9 c10 c11, evS N T [F, G, .v (.int low.length), .o false ((Od.parts low).map ptN), .o false (f.map .int), .o false ((List.replicate (f.length - low.length) (0 : Int)).map .int), .u, .u, .u, .u, .u, .u] dv_5 = some (.nx [F, G, .v (.int low.length), s3, .o false ((Od.divP f low).2.map .int), .o false ((Od.divP f low).1.map .int), c6, .u, c8, c9, c10, c11]) := by
  have hit : evIt T [F, G, .v (.int low.length), .o false ((Od.parts low).map ptN), .o false (f.map .int), .o false ((List.replicate (f.length - low.length) (0 : Int)).map .int), .u, .u, .u, .u, .u, .u] (.r3 (.cons (.bin .Sub (.bi "len" (.cons (.var 4) .nil)) (.cst (.int 1))) (.cons (.bin .Sub (.var 2) (.cst (.int 1))) (.cons (.neg (.cst (.int 1))) .nil)))) = some ((Od.tops f.length low.length).map fun t : Nat => PyData.int (t : Int), [F, G, .v (.int low.length), .o false ((Od.parts low).map ptN), .o false (f.map .int), .o false ((List.replicate (f.length - low.length) (0 : Int)).map .int), .u, .u, .u, .u, .u, .u]) := by
    have he : evEs T [F, G, .v (.int low.length), .o false ((Od.parts low).map ptN), .o false (f.map .int), .o false ((List.replicate (f.length - low.length) (0 : Int)).map .int), .u, .u, .u, .u, .u, .u] (.cons (.bin .Sub (.bi "len" (.cons (.var 4) .nil)) (.cst (.int 1))) (.cons (.bin .Sub (.var 2) (.cst (.int 1))) (.cons (.neg (.cst (.int 1))) .nil))) = some ([.val (.int ((f.length : Int) - 1)), .val (.int ((low.length : Int) - 1)), .val (.int (-1))], [F, G, .v (.int low.length), .o false ((Od.parts low).map ptN), .o false (f.map .int), .o false ((List.replicate (f.length - low.length) (0 : Int)).map .int), .u, .u, .u, .u, .u, .u]) := by
      refine ee_cons (bin_ok (x := .val (.int (f.length : Nat))) (y := .val (.int 1)) (bi1 (x := .slot 4) rfl rfl (by simp [biD])) cst_i rfl rfl (bi_sub _ _)) (ee_cons (bin_ok (x := .slot 2) (y := .val (.int 1)) rfl cst_i rfl rfl (bi_sub _ _)) (ee_cons (neg_ok (x := .val (.int 1)) cst_i rfl) rfl))
    have r1 : rngOk ((f.length : Int) - 1) = true := rng_ok (by omega) (by omega)
    have r2 : rngOk ((low.length : Int) - 1) = true := rng_ok (by omega) (by omega)
    simp only [evIt, he, Option.bind_some, viewL, viewOp, Option.map_some, r1, r2, Bool.and_self, if_true]
    congr 2
    unfold rngC Od.tops
    rw [List.map_map, show ((f.length : Int) - 1 - ((low.length : Int) - 1)).toNat = f.length - low.length by omega]
    refine List.map_congr_left fun i hi => ?_
    have := List.mem_range.mp hi
    simp only [Function.comp]
    congr 1
    omega
  have htl : (Od.tops f.length low.length).length = f.length - low.length := by simp [Od.tops]
  obtain ⟨ρ', e, hR⟩ := forK (f := fun x ρ1 => (bindT ρ1 (.nm 6) x).bind fun ρ2 => evSs N T ρ2 dv_5b) (R := fun k S ρ => OutR F G f low b (S, k) ρ) (step := fun S t => Od.divS low.length (Od.parts low) S t) (fun t : Nat => PyData.int (t : Int)) (l := Od.tops f.length low.length) (n := 0) (s := (List.replicate (f.length - low.length) 0, f)) (ρ := [F, G, .v (.int low.length), .o false ((Od.parts low).map ptN), .o false (f.map .int), .o false ((List.replicate (f.length - low.length) (0 : Int)).map .int), .u, .u, .u, .u, .u, .u]) (fun t ht k _ hk S ρ hR => by
    unfold Od.tops at ht
    obtain ⟨i, hi, rfl⟩ := List.mem_map.mp ht
    have hi := List.mem_range.mp hi
    rw [htl] at hk
    refine dv_out N (S := (S, k)) hlow hR ?_ (by omega) (by omega)
    have hk1 : (k + 1) * (low.length + 2) ≤ (f.length + 1) * (low.length + 2) := Nat.mul_le_mul_right _ (by omega)
    have hk2 : (k + 1) * (low.length + 2) = k * (low.length + 2) + (low.length + 2) := by rw [Nat.add_mul, Nat.one_mul]
    show b + k * (low.length + 2) + 2 + low.length ≤ 900000
    omega) ⟨by simp, rfl, fun x hx => (hf x hx).mono (by simp), _, _, _, _, _, _, .inr rfl, rfl⟩
  obtain ⟨l1, l2, hb, s3, c6, c8, c9, c10, c11, h3, rfl⟩ := hR
  exact ⟨s3, c6, c8, c9, c10, c11, for_ok hit e⟩
/-- what the program's division gives -/
theorem v_divided {F : D} {f low : List Int} {b : Nat} (hF : biD "list" [F] = some (.new (f.map .int))) (hlow : ∀ x ∈ low, Bd 2 x) (hf : ∀ x ∈ f, Bd b x) (h1 : f.length ≤ 1000) (h2 : low.length ≤ 400) (h0 : 1 ≤ low.length) (hB : b + (f.length + 1) * (low.length + 2) ≤ 900000) :
    f_divided [F, .list ((low ++ [1]).map .int)] = some (.tuple [.list ((Od.divP f low).1.map .int), .list ((Od.remP f low).map .int)]) := by
  obtain ⟨s3, c6, c8, c9, c10, c11, e5⟩ := dv_e5 100000 (T := (tabT tb_divisors_of kt0 gl0)) (F := .v F) (G := .v (.list ((low ++ [1]).map .int))) hlow hf h1 h2 h0 hB
  have e2 := dv_e2 100000 (T := (tabT tb_divisors_of kt0 gl0)) F low h2
  have hi := Od.divP_inv f low
  unfold f_divided
  rw [dv__is]
  unfold dv_
  refine runP_ok (r := [.v F, .v (.list ((low ++ [1]).map .int)), .v (.int low.length), s3, .o false ((Od.divP f low).2.map .int), .v (.list ((Od.divP f low).1.map .int)), c6, .v (.list ((Od.remP f low).map .int)), c8, c9, c10, c11]) ?_
  refine ss_nx (ρ1 := [.v F, .v (.list ((low ++ [1]).map .int)), .v (.int low.length), .u, .u, .u, .u, .u, .u, .u, .u, .u]) (asg_ok (o := .val (.int low.length)) (bin_ok (x := .val (.int ((low.length : Int) + 1))) (y := .val (.int 1)) (bi1 (x := .slot 1) rfl rfl (by simp [biD])) cst_i rfl rfl (by rw [bi_sub, Int.add_sub_cancel])) rfl) ?_
  refine ss_nx e2 ?_
  refine ss_nx (ρ1 := [.v F, .v (.list ((low ++ [1]).map .int)), .v (.int low.length), .o false ((Od.parts low).map ptN), .o false (f.map .int), .u, .u, .u, .u, .u, .u, .u]) (asg_ok (bi1 (x := .slot 0) rfl rfl hF) rfl) ?_
  refine ss_nx (ρ1 := [.v F, .v (.list ((low ++ [1]).map .int)), .v (.int low.length), .o false ((Od.parts low).map ptN), .o false (f.map .int), .o false ((List.replicate (f.length - low.length) (0 : Int)).map .int), .u, .u, .u, .u, .u, .u]) (asg_ok (o := .new ((List.replicate (f.length - low.length) (0 : Int)).map .int)) (bin_ok (y := .val (.int ((f.length : Int) - (low.length : Int)))) (ev_z1 _ _) (bin_ok (x := .val (.int (f.length : Nat))) (y := .slot 2) (bi1 (x := .slot 4) rfl rfl (by simp [biD])) rfl rfl rfl (bi_sub _ _)) rfl rfl (by rw [rep_int (by omega) (by omega), show ((f.length : Int) - (low.length : Int)).toNat = f.length - low.length by omega])) rfl) ?_
  refine ss_nx e5 ?_
  refine ss_nx (ρ1 := [.v F, .v (.list ((low ++ [1]).map .int)), .v (.int low.length), s3, .o false ((Od.divP f low).2.map .int), .o false ((Od.divP f low).1.map .int), c6, .o false ((Od.remP f low).map .int), c8, c9, c10, c11]) (asg_ok (o := .new ((Od.remP f low).map .int)) (bin_ok (x := .new (((Od.divP f low).2.map .int).take low.length)) (y := .new ((List.replicate (low.length - f.length) (0 : Int)).map .int))
    (slc_ok (o := .slot 4) (x := none) (y := some (low.length : Int)) rfl rfl (so_ok (x := .slot 2) rfl rfl) rfl (by show some (Op.new (cutD _ _ _)) = _; rw [cut_takeD]))
    (bin_ok (y := .val (.int ((low.length : Int) - (f.length : Int)))) (ev_z1 _ _) (bin_ok (x := .slot 2) (y := .val (.int (f.length : Nat))) rfl (bi1 (x := .slot 4) rfl rfl (by simp [biD, hi.l2])) rfl rfl (bi_sub _ _)) rfl rfl (by rw [rep_int (by omega) (by omega), show ((low.length : Int) - (f.length : Int)).toNat = low.length - f.length by omega])) rfl rfl ?_) rfl) ?_
  · rw [add_lst (by rw [List.length_take, List.length_map, List.length_map, List.length_replicate]; omega), Od.remP, List.map_append, List.map_take]
  exact ss_rt (ret_ok (tupN (ops := [.slot 5, .slot 7]) rfl rfl (by simp)) rfl)
theorem t_dvR : (tabT tb_divided kt0 gl0).fs "divided" = some fs_divided := rfl
theorem v_remainder {F : D} {f low : List Int} {b : Nat} (hF : biD "list" [F] = some (.new (f.map .int))) (hlow : ∀ x ∈ low, Bd 2 x) (hf : ∀ x ∈ f, Bd b x) (h1 : f.length ≤ 1000) (h2 : low.length ≤ 400) (h0 : 1 ≤ low.length) (hB : b + (f.length + 1) * (low.length + 2) ≤ 900000) :
    f_remainder_by [F, .list ((low ++ [1]).map .int)] = some (tupI (Od.remP f low)) := by
  unfold f_remainder_by i_remainder_by
  refine runP_ok (ss_nx (ρ1 := [.v F, .v (.list ((low ++ [1]).map .int)), .v (.list ((Od.divP f low).1.map .int)), .v (.list ((Od.remP f low).map .int))]) (asg_ok (calPn t_dvR (ops := [.slot 0, .slot 1]) rfl rfl rfl rfl (v_divided hF hlow hf h1 h2 h0 hB)) rfl) (ss_rt (ret_ok (bi_tuple (o := .slot 3) rfl rfl) rfl)))
end Ev

set_option maxHeartbeats 1000000
namespace Ev
open PySem L2
/-! ### the orders, by the kernel -/
def polOk (o : Option D) (l : List Int) : Bool := match o with
  | some (.list ds) => decide (intsD ds = some l)
  | _ => false
theorem polOk_ok {o : Option D} {l : List Int} (h : polOk o l = true) : o = some (.list (l.map .int)) := by
  unfold polOk at h
  split at h
  · rw [decide_eq_true_eq] at h
    rw [intsD_all h]
  · cases h
def lowOk (n : Nat) (l : List Int) : Bool := decide (l.getLast? = some 1) && decide (2 ≤ l.length) && decide (l.length ≤ n + 1) && l.dropLast.all fun x => decide (x.natAbs < 4)
theorem k_pol0 : (List.range 5).all (fun k => polOk (f_polynomial_of [.int ((k + 1 : Nat) : Int)]) (Od.cyT (k + 1))) = true := by decide +kernel
theorem k_pol1 : (List.range 5).all (fun k => polOk (f_polynomial_of [.int ((k + 6 : Nat) : Int)]) (Od.cyT (k + 6))) = true := by decide +kernel
theorem k_pol2 : (List.range 5).all (fun k => polOk (f_polynomial_of [.int ((k + 11 : Nat) : Int)]) (Od.cyT (k + 11))) = true := by decide +kernel
theorem k_pol3 : (List.range 5).all (fun k => polOk (f_polynomial_of [.int ((k + 16 : Nat) : Int)]) (Od.cyT (k + 16))) = true := by decide +kernel
theorem k_pol4 : (List.range 5).all (fun k => polOk (f_polynomial_of [.int ((k + 21 : Nat) : Int)]) (Od.cyT (k + 21))) = true := by decide +kernel
theorem k_pol5 : (List.range 5).all (fun k => polOk (f_polynomial_of [.int ((k + 26 : Nat) : Int)]) (Od.cyT (k + 26))) = true := by decide +kernel
theorem k_pol6 : (List.range 5).all (fun k => polOk (f_polynomial_of [.int ((k + 31 : Nat) : Int)]) (Od.cyT (k + 31))) = true := by decide +kernel
theorem k_pol7 : (List.range 5).all (fun k => polOk (f_polynomial_of [.int ((k + 36 : Nat) : Int)]) (Od.cyT (k + 36))) = true := by decide +kernel
theorem k_pol8 : (List.range 5).all (fun k => polOk (f_polynomial_of [.int ((k + 41 : Nat) : Int)]) (Od.cyT (k + 41))) = true := by decide +kernel
theorem k_pol9 : (List.range 5).all (fun k => polOk (f_polynomial_of [.int ((k + 46 : Nat) : Int)]) (Od.cyT (k + 46))) = true := by decide +kernel
theorem k_pol10 : (List.range 5).all (fun k => polOk (f_polynomial_of [.int ((k + 51 : Nat) : Int)]) (Od.cyT (k + 51))) = true := by decide +kernel
theorem k_pol11 : (List.range 5).all (fun k => polOk (f_polynomial_of [.int ((k + 56 : Nat) : Int)]) (Od.cyT (k + 56))) = true := by decide +kernel
theorem k_prm : (List.range 60).all (fun k => polOk (f__law_primes [.int ((k + 1 : Nat) : Int)]) ((Od.prm (k + 1)).map fun (p : Nat) => (p : Int))) = true := by decide +kernel
theorem k_ord0 : (List.range 10).all (fun k => Od.okO (k + 1) (Od.prm (k + 1)) (Od.cyT (k + 1))) = true := by decide +kernel
theorem k_ord1 : (List.range 10).all (fun k => Od.okO (k + 11) (Od.prm (k + 11)) (Od.cyT (k + 11))) = true := by decide +kernel
theorem k_ord2 : (List.range 10).all (fun k => Od.okO (k + 21) (Od.prm (k + 21)) (Od.cyT (k + 21))) = true := by decide +kernel
theorem k_ord3 : (List.range 10).all (fun k => Od.okO (k + 31) (Od.prm (k + 31)) (Od.cyT (k + 31))) = true := by decide +kernel
theorem k_ord4 : (List.range 10).all (fun k => Od.okO (k + 41) (Od.prm (k + 41)) (Od.cyT (k + 41))) = true := by decide +kernel
theorem k_ord5 : (List.range 10).all (fun k => Od.okO (k + 51) (Od.prm (k + 51)) (Od.cyT (k + 51))) = true := by decide +kernel
theorem k_low : (List.range 60).all (fun k => lowOk (k + 1) (Od.cyT (k + 1))) = true := by decide +kernel
theorem at60 {p : Nat → Bool} (h : (List.range 60).all (fun k => p (k + 1)) = true) {n : Nat} (h1 : 1 ≤ n) (h2 : n ≤ 60) : p n = true := by
  rw [List.all_eq_true] at h
  have := h (n - 1) (List.mem_range.mpr (by omega))
  rwa [show n - 1 + 1 = n by omega] at this
theorem lot {p : Nat → Bool} {m a n : Nat} (h : (List.range m).all (fun k => p (k + a)) = true) (h1 : a ≤ n) (h2 : n < a + m) : p n = true := by
  rw [List.all_eq_true] at h
  have := h (n - a) (List.mem_range.mpr (by omega))
  rwa [show n - a + a = n by omega] at this
theorem polAt {n : Nat} (h1 : 1 ≤ n) (h2 : n ≤ 60) : polOk (f_polynomial_of [.int (n : Int)]) (Od.cyT n) = true := by
  by_cases c0 : n < 6
  · exact lot (p := fun m => polOk (f_polynomial_of [.int ((m : Nat) : Int)]) (Od.cyT m)) k_pol0 (by omega) c0
  by_cases c1 : n < 11
  · exact lot (p := fun m => polOk (f_polynomial_of [.int ((m : Nat) : Int)]) (Od.cyT m)) k_pol1 (by omega) c1
  by_cases c2 : n < 16
  · exact lot (p := fun m => polOk (f_polynomial_of [.int ((m : Nat) : Int)]) (Od.cyT m)) k_pol2 (by omega) c2
  by_cases c3 : n < 21
  · exact lot (p := fun m => polOk (f_polynomial_of [.int ((m : Nat) : Int)]) (Od.cyT m)) k_pol3 (by omega) c3
  by_cases c4 : n < 26
  · exact lot (p := fun m => polOk (f_polynomial_of [.int ((m : Nat) : Int)]) (Od.cyT m)) k_pol4 (by omega) c4
  by_cases c5 : n < 31
  · exact lot (p := fun m => polOk (f_polynomial_of [.int ((m : Nat) : Int)]) (Od.cyT m)) k_pol5 (by omega) c5
  by_cases c6 : n < 36
  · exact lot (p := fun m => polOk (f_polynomial_of [.int ((m : Nat) : Int)]) (Od.cyT m)) k_pol6 (by omega) c6
  by_cases c7 : n < 41
  · exact lot (p := fun m => polOk (f_polynomial_of [.int ((m : Nat) : Int)]) (Od.cyT m)) k_pol7 (by omega) c7
  by_cases c8 : n < 46
  · exact lot (p := fun m => polOk (f_polynomial_of [.int ((m : Nat) : Int)]) (Od.cyT m)) k_pol8 (by omega) c8
  by_cases c9 : n < 51
  · exact lot (p := fun m => polOk (f_polynomial_of [.int ((m : Nat) : Int)]) (Od.cyT m)) k_pol9 (by omega) c9
  by_cases c10 : n < 56
  · exact lot (p := fun m => polOk (f_polynomial_of [.int ((m : Nat) : Int)]) (Od.cyT m)) k_pol10 (by omega) c10
  exact lot (p := fun m => polOk (f_polynomial_of [.int ((m : Nat) : Int)]) (Od.cyT m)) k_pol11 (by omega) (by omega)
theorem ordAt {n : Nat} (h1 : 1 ≤ n) (h2 : n ≤ 60) : Od.okO n (Od.prm n) (Od.cyT n) = true := by
  by_cases c0 : n < 11
  · exact lot (p := fun m => Od.okO m (Od.prm m) (Od.cyT m)) k_ord0 (by omega) c0
  by_cases c1 : n < 21
  · exact lot (p := fun m => Od.okO m (Od.prm m) (Od.cyT m)) k_ord1 (by omega) c1
  by_cases c2 : n < 31
  · exact lot (p := fun m => Od.okO m (Od.prm m) (Od.cyT m)) k_ord2 (by omega) c2
  by_cases c3 : n < 41
  · exact lot (p := fun m => Od.okO m (Od.prm m) (Od.cyT m)) k_ord3 (by omega) c3
  by_cases c4 : n < 51
  · exact lot (p := fun m => Od.okO m (Od.prm m) (Od.cyT m)) k_ord4 (by omega) c4
  exact lot (p := fun m => Od.okO m (Od.prm m) (Od.cyT m)) k_ord5 (by omega) (by omega)
theorem v_pol {n : Nat} (h1 : 1 ≤ n) (h2 : n ≤ 60) : f_polynomial_of [.int n] = some (.list ((Od.cyT n).map .int)) := polOk_ok (polAt h1 h2)
theorem ord60 {n : Nat} (h1 : 1 ≤ n) (h2 : n ≤ 60) : Od.OkO n (Od.prm n) (Od.cyT n) := Od.okO_by (ordAt h1 h2)
theorem v_primes {n : Nat} (h1 : 1 ≤ n) (h2 : n ≤ 60) : f__law_primes [.int n] = some (.list ((Od.prm n).map fun p : Nat => PyData.int p)) := by
  have := polOk_ok (at60 (p := fun n => polOk (f__law_primes [.int (n : Int)]) ((Od.prm n).map fun (p : Nat) => (p : Int))) k_prm h1 h2)
  rw [List.map_map] at this
  exact this
theorem lowN {n : Nat} (h1 : 1 ≤ n) (h2 : n ≤ 60) : ∃ low, Od.cyT n = low ++ [1] ∧ 1 ≤ low.length ∧ low.length ≤ n ∧ ∀ x ∈ low, Bd 2 x := by
  have h := at60 (p := fun n => lowOk n (Od.cyT n)) k_low h1 h2
  simp only [lowOk, Bool.and_eq_true, decide_eq_true_eq, List.all_eq_true] at h
  obtain ⟨⟨⟨h3, h4⟩, h5⟩, h6⟩ := h
  rw [List.getLast?_eq_some_iff] at h3
  obtain ⟨l, hl⟩ := h3
  rw [hl, List.length_append] at h4 h5
  rw [hl, List.dropLast_concat] at h6
  simp only [List.length_cons, List.length_nil] at h4 h5
  exact ⟨l, hl, by omega, by omega, fun x hx => h6 x hx⟩
end Ev

set_option maxHeartbeats 1000000
namespace Ev
open PySem L2
/-! ### orders there and gone -/
/-- the law's word on an order -/
def zb (n : Nat) (f : List Int) : Bool := (Od.nothing n (Od.prm n) f).all (· == 0)
theorem zb_zr {n : Nat} (h1 : 1 ≤ n) (h2 : n ≤ 60) (f : List Int) : zb n f = true ↔ Od.Zr (Od.cyT n) f := (ord60 h1 h2).nothing f
theorem t_hP : (tabT tb_polynomial_of kt0 gl0).fs "polynomial_of" = some fs_polynomial_of := rfl
theorem t_hR : (tabT tb_polynomial_of kt0 gl0).fs "remainder_by" = some fs_remainder_by := rfl
theorem any_all (l : List Int) : (l.any fun x => !decide (x = 0)) = !(l.all (· == 0)) := by
  induction l with
  | nil => rfl
  | cons a l ih =>
    rw [List.any_cons, List.all_cons, ih]
    by_cases h : a = 0 <;> simp [h]
theorem v_has_order {n : Nat} (h1 : 1 ≤ n) (h2 : n ≤ 60) {f : List Int} {b : Nat} (hl : f.length ≤ 60) (hb : ∀ x ∈ f, Bd b x) (hB : b ≤ 800000) : f_has_order [tupI f, .int n] = some (.bool (!zb n f)) := by
  obtain ⟨low, e, l1, l2, l3⟩ := lowN h1 h2
  have hB2 : b + (f.length + 1) * (low.length + 2) ≤ 900000 := by
    have h3 : (f.length + 1) * (low.length + 2) ≤ 61 * 62 := Nat.mul_le_mul (by omega) (by omega)
    omega
  have hr := v_remainder (F := tupI f) (f := f) (low := low) (b := b) rfl l3 hb (by omega) (by omega) l1 hB2
  rw [← e] at hr
  have hp : evE (tabT tb_polynomial_of kt0 gl0) [.v (tupI f), .v (.int n), .u] (.cal "polynomial_of" (.cons (.var 1) .nil)) = some (.val (.list ((Od.cyT n).map .int)), [.v (tupI f), .v (.int n), .u]) := calPn t_hP (ops := [.slot 1]) rfl rfl rfl rfl (v_pol h1 h2)
  have hq : evE (tabT tb_polynomial_of kt0 gl0) [.v (tupI f), .v (.int n), .u] (.cal "remainder_by" (.cons (.var 0) (.cons (.cal "polynomial_of" (.cons (.var 1) .nil)) .nil))) = some (.val (tupI (Od.remP f low)), [.v (tupI f), .v (.int n), .u]) := calPn t_hR (ops := [.slot 0, .val (.list ((Od.cyT n).map .int))]) (ee_cons rfl (ee_cons hp rfl)) rfl rfl rfl hr
  have g := gnAny (T := (tabT tb_polynomial_of kt0 gl0)) (own := [("number", 2)]) (ρ := [.v (tupI f), .v (.int n), .u]) (ρ1 := [.v (tupI f), .v (.int n), .u]) (it := .ex (.cal "remainder_by" (.cons (.var 0) (.cons (.cal "polynomial_of" (.cons (.var 1) .nil)) .nil)))) (e := .cmp .NotEq (.var 2) (.cst (.int 0))) (t := .nm 2) PyData.int (fun x => !decide (x = 0)) (l := Od.remP f low) (by simp only [evIt, hq, Option.bind_some, keepOp]; rfl)
    (fun x _ => ⟨[.v (tupI f), .v (.int n), .v (.int x)], .val (.bool (!decide (x = 0))), rfl, cmpE_ok (x := .slot 2) (y := .val (.int 0)) rfl cst_i rfl rfl (cmp_ne0 _), rfl, rfl⟩) (fun i hi => .inl (by
      have : i = 2 := by simpa using hi
      subst this; rfl))
  have hz : (Od.remP f low).all (· == 0) = zb n f := by
    have h3 := (ord60 h1 h2).rem e f
    have h4 := zb_zr h1 h2 f
    rw [Bool.eq_iff_iff, h3, h4]
  rw [any_all, hz] at g
  unfold f_has_order i_has_order
  exact runP_ok (ss_rt (ret_ok g rfl))
theorem v_divisors {n : Nat} (h2 : n ≤ 1000) : f_divisors_of [.int n] = some (tupI (dvs n)) := by
  have g := gnFt (T := (tabT tb_check_row kt0 gl0)) (ρ := [.v (.int n), .u]) (ρ1 := [.v (.int n), .u]) (it := .r2 (.cst (.int 1)) (.bin .Add (.var 0) (.cst (.int 1)))) (c := .cmp .Eq (.bin .Mod (.var 0) (.var 1)) (.cst (.int 0))) (i := 1) (nm := "part") (l := (List.range n).map fun (t : Nat) => (1 : Int) + (t : Int)) (fun x : Int => decide ((n : Int) % x = 0)) (by
      have := it_r2e (T := (tabT tb_check_row kt0 gl0)) (ρ := [.v (.int n), .u]) (a := .cst (.int 1)) (b := .bin .Add (.var 0) (.cst (.int 1))) cst_i (bin_ok (x := .slot 0) (y := .val (.int 1)) rfl cst_i rfl rfl (bi_add _ _)) rfl rfl (rng_ok (by omega) (by omega)) (rng_ok (by omega) (by omega))
      rw [this, show ((n : Int) + 1 - 1).toNat = n by omega, rngD, List.map_map]; rfl) rfl (fun x hx => by
      obtain ⟨t, _, rfl⟩ := List.mem_map.mp hx
      exact cmpT_ok (x := .val (.int ((n : Int) % (1 + (t : Int))))) (y := .val (.int 0)) (bin_ok (x := .slot 0) (y := .slot 1) rfl rfl rfl rfl (bi_mod (by omega))) cst_i rfl rfl (cmp_eq _ _)) (by simp; exact h2)
  unfold f_divisors_of i_divisors_of
  exact runP_ok (ss_rt (ret_ok g rfl))
theorem t_oC : (tabT tb_has_order kt0 gl0).fs "check_row" = some fs_check_row := rfl
theorem t_oD : (tabT tb_has_order kt0 gl0).fs "divisors_of" = some fs_divisors_of := rfl
theorem t_oH : (tabT tb_has_order kt0 gl0).fs "has_order" = some fs_has_order := rfl
theorem t_pC : (tabT tb_orders_there kt0 gl0).fs "check_row" = some fs_check_row := rfl
theorem t_pD : (tabT tb_orders_there kt0 gl0).fs "divisors_of" = some fs_divisors_of := rfl
theorem t_pH : (tabT tb_orders_there kt0 gl0).fs "has_order" = some fs_has_order := rfl
theorem t_pT : (tabT tb_orders_there kt0 gl0).ks "orders_there" = (tabT tb_orders_there kt0 gl0).ks "orders_there" := rfl
/-- the orders that the law finds -/
def due (f : List Int) : List Int := (dvs f.length).filter fun d => !zb d.toNat f
def undue (f : List Int) : List Int := (dvs f.length).filter fun d => zb d.toNat f
theorem v_there {f : List Int} {b : Nat} (h1 : 2 ≤ f.length) (h2 : f.length ≤ 60) (hb : ∀ x ∈ f, Bd b x) (hB : b ≤ 800000) : f_orders_there [tupI f] = some (tupI (due f)) := by
  have hd : evE (tabT tb_has_order kt0 gl0) [.v (tupI f), .u] (.cal "divisors_of" (.cons (.bi "len" (.cons (.var 0) .nil)) .nil)) = some (.val (tupI (dvs f.length)), [.v (tupI f), .u]) := calPn t_oD (ops := [.val (.int (f.length : Nat))]) (ee_cons (bi1 (x := .slot 0) rfl rfl (tupI_len f)) rfl) rfl rfl rfl (v_divisors (by omega))
  have g := gnFt (T := (tabT tb_has_order kt0 gl0)) (ρ := [.v (tupI f), .u]) (ρ1 := [.v (tupI f), .u]) (it := .ex (.cal "divisors_of" (.cons (.bi "len" (.cons (.var 0) .nil)) .nil))) (c := .cal "has_order" (.cons (.var 0) (.cons (.var 1) .nil))) (i := 1) (nm := "order") (l := dvs f.length) (fun d => !zb d.toNat f) (by simp only [evIt, hd, Option.bind_some, keepOp]; rfl) rfl (fun x hx => by
      rw [mem_dvs] at hx
      obtain ⟨n, rfl⟩ : ∃ n : Nat, x = n := ⟨x.toNat, by omega⟩
      exact calPt t_oH (ops := [.slot 0, .slot 1]) rfl rfl rfl (v_has_order (by omega) (by omega) h2 hb hB)) (by have := dvs_len f.length; omega)
  unfold f_orders_there i_orders_there
  exact runP_ok (ss_nx (exp_ok (calPn t_oC (ops := [.slot 0]) rfl rfl rfl rfl (v_check_row f h1 h2))) (ss_rt (ret_ok g rfl)))
theorem v_gone {f : List Int} {b : Nat} (h1 : 2 ≤ f.length) (h2 : f.length ≤ 60) (hb : ∀ x ∈ f, Bd b x) (hB : b ≤ 800000) : f_orders_gone [tupI f] = some (tupI (undue f)) := by
  have hd : evE (tabT tb_orders_there kt0 gl0) [.v (tupI f), .u] (.cal "divisors_of" (.cons (.bi "len" (.cons (.var 0) .nil)) .nil)) = some (.val (tupI (dvs f.length)), [.v (tupI f), .u]) := calPn t_pD (ops := [.val (.int (f.length : Nat))]) (ee_cons (bi1 (x := .slot 0) rfl rfl (tupI_len f)) rfl) rfl rfl rfl (v_divisors (by omega))
  have g := gnFt (T := (tabT tb_orders_there kt0 gl0)) (ρ := [.v (tupI f), .u]) (ρ1 := [.v (tupI f), .u]) (it := .ex (.cal "divisors_of" (.cons (.bi "len" (.cons (.var 0) .nil)) .nil))) (c := .not (.cal "has_order" (.cons (.var 0) (.cons (.var 1) .nil)))) (i := 1) (nm := "order") (l := dvs f.length) (fun d => zb d.toNat f) (by simp only [evIt, hd, Option.bind_some, keepOp]; rfl) rfl (fun x hx => by
      rw [mem_dvs] at hx
      obtain ⟨n, rfl⟩ : ∃ n : Nat, x = n := ⟨x.toNat, by omega⟩
      have := not_ok (calPt t_pH (ρ := [.v (tupI f), .v (.int n)]) (es := .cons (.var 0) (.cons (.var 1) .nil)) (ops := [.slot 0, .slot 1]) rfl rfl rfl (v_has_order (n := n) (by omega) (by omega) h2 hb hB))
      rw [Bool.not_not] at this
      exact this) (by have := dvs_len f.length; omega)
  unfold f_orders_gone i_orders_gone
  exact runP_ok (ss_nx (exp_ok (calPn t_pC (ops := [.slot 0]) rfl rfl rfl rfl (v_check_row f h1 h2))) (ss_rt (ret_ok g rfl)))
theorem t_iC : (tabT tb_order_of kt0 gl0).fs "check_row" = some fs_check_row := rfl
theorem t_iN : (tabT tb_order_of kt0 gl0).fs "check_number" = some fs_check_number := rfl
theorem t_iO : (tabT tb_order_of kt0 gl0).fs "order_of" = some fs_order_of := rfl
theorem t_iH : (tabT tb_order_of kt0 gl0).fs "has_order" = some fs_has_order := rfl
theorem ordN_bd {n : Nat} (h1 : 1 ≤ n) (h : Int) : 1 ≤ ordN n h ∧ ordN n h ≤ n ∧ ordN n h ∣ n := by
  have hg : 0 < Nat.gcd h.natAbs n := Nat.gcd_pos_of_pos_right _ h1
  have hd : Nat.gcd h.natAbs n ∣ n := Nat.gcd_dvd_right _ _
  refine ⟨?_, Nat.div_le_self _ _, ?_⟩
  · exact Nat.div_pos (Nat.le_of_dvd h1 hd) hg
  · exact Nat.div_dvd_of_dvd hd
theorem v_is_there {f : List Int} {b : Nat} (h1 : 2 ≤ f.length) (h2 : f.length ≤ 60) (hb : ∀ x ∈ f, Bd b x) (hB : b ≤ 800000) (h : Int) : f_is_there [tupI f, .int h] = some (.bool (!zb (ordN f.length h) f)) := by
  obtain ⟨o1, o2, _⟩ := ordN_bd (n := f.length) (by omega) h
  unfold f_is_there i_is_there
  refine runP_ok (ss_nx (exp_ok (calPn t_iC (ops := [.slot 0]) rfl rfl rfl rfl (v_check_row f h1 h2))) (ss_nx (exp_ok (calPn t_iN (ops := [.slot 1]) rfl rfl rfl rfl (v_check_number h)))
    (ss_rt (ret_ok (calPn t_iH (ops := [.slot 0, .val (.int (ordN f.length h))]) (ee_cons rfl (ee_cons (calPn t_iO (ops := [.val (.int (f.length : Nat)), .slot 1]) (ee_cons (bi1 (x := .slot 0) rfl rfl (tupI_len f)) rfl) rfl rfl rfl (v_order_of h1 h2 h)) rfl)) rfl rfl rfl (v_has_order o1 (by omega) h2 hb hB)) rfl))))
/-! ### the law's own sums -/
def le_1 : IS := .asg (.nm 3) (.bin .Mult (.lst (.cons (.cst (.int 0)) .nil)) (.var 2))
def le_2b1 : IS := .asg (.nm 5) (.bin .Mod (.bi "int" (.cons (.bin .Mult (.var 4) (.var 1)) .nil)) (.var 2))
def le_2b2 : IS := .asg (.sub 3 (.var 5)) (.bin .Add (.idx (.var 3) (.var 5)) (.idx (.var 0) (.var 4)))
def le_2b : ISs := (.cons le_2b1 (.cons le_2b2 .nil))
def le_2 : IS := .fors (.nm 4) (.r1 (.bi "len" (.cons (.var 0) .nil))) le_2b
def le_3 : IS := .ret (.var 3)
def le_ : ISs := (.cons le_1 (.cons le_2 (.cons le_3 .nil)))
theorem le__is : i__law_led = le_ := rfl
def no_1 : IS := .asg (.nm 2) (.cal "_law_led" (.cons (.var 0) (.cons (.cst (.int 1)) (.cons (.var 1) .nil))))
def no_2b1 : IS := .asg (.nm 2) (.lc (.bin .Sub (.idx (.var 2) (.var 4)) (.idx (.var 2) (.bin .Sub (.var 4) (.bin .FloorDiv (.var 1) (.var 3))))) (.nm 4) [("_law_k", 4)] (.r1 (.var 1)) .no)
def no_2b : ISs := (.cons no_2b1 .nil)
def no_2 : IS := .fors (.nm 3) (.ex (.cal "_law_primes" (.cons (.var 1) .nil))) no_2b
def no_3 : IS := .ret (.cmp .Eq (.var 2) (.bin .Mult (.lst (.cons (.cst (.int 0)) .nil)) (.var 1)))
def no_ : ISs := (.cons no_1 (.cons no_2 (.cons no_3 .nil)))
theorem no__is : i__law_is_nothing = no_ := rfl

theorem le_b (N : Nat) {T : Tb} {f r : List Int} {n k : Nat} (h1 : 1 ≤ n) (hn : n ≤ 60) (hk : k < f.length) (hr : r.length = n) (c : Sl) :
    evSs N T [.v (tupI f), .v (.int 1), .v (.int n), .o false (r.map .int), .v (.int k), c] le_2b = some (.nx [.v (tupI f), .v (.int 1), .v (.int n), .o false ((Od.ledS n f r k).map .int), .v (.int k), .v (.int ((k % n : Nat) : Int))]) := by
  have hp := Nat.mod_lt k (show 0 < n by omega)
  have e1 : evS N T [.v (tupI f), .v (.int 1), .v (.int n), .o false (r.map .int), .v (.int k), c] le_2b1 = some (.nx [.v (tupI f), .v (.int 1), .v (.int n), .o false (r.map .int), .v (.int k), .v (.int ((k % n : Nat) : Int))]) := by
    refine asg_ok (o := .val (.int ((k % n : Nat) : Int))) (bin_ok (x := .val (.int ((k : Int) * 1))) (y := .slot 2) (bi1 (x := .val (.int ((k : Int) * 1))) (bin_ok (x := .slot 4) (y := .slot 1) rfl rfl rfl rfl (bi_mul (mulOk_r (by decide) (by decide)))) rfl rfl) rfl rfl rfl ?_) rfl
    rw [bi_mod (by omega), Int.mul_one, Int.natCast_emod]
  have e2 : evS N T [.v (tupI f), .v (.int 1), .v (.int n), .o false (r.map .int), .v (.int k), .v (.int ((k % n : Nat) : Int))] le_2b2 = some (.nx [.v (tupI f), .v (.int 1), .v (.int n), .o false ((Od.ledS n f r k).map .int), .v (.int k), .v (.int ((k % n : Nat) : Int))]) := by
    refine sub_ok (o := .val (.int (r.getD (k % n) 0 + f.getD k 0))) (o2 := .slot 5) (j := k % n) (bin_ok (x := .val (.int (r.getD (k % n) 0))) (y := .val (.int (f.getD k 0))) (idx_ok (x := .slot 3) (y := .slot 5) rfl rfl rfl rfl (ix_li (by rw [ixN_nn (by omega) (by omega), Int.toNat_natCast]) (by omega))) (idx_ok (x := .slot 0) (y := .slot 4) rfl rfl rfl rfl (ix_ti (ixN_nn (by omega) (by omega)) (by omega))) rfl rfl (bi_add _ _)) rfl rfl rfl rfl (by rw [ixN_nn (by omega) (by omega), Int.toNat_natCast])
  exact ss_nx e1 (ss_nx e2 rfl)
theorem le_e2 (N : Nat) {T : Tb} {f : List Int} {n : Nat} (h1 : 1 ≤ n) (hn : n ≤ 60) (hl : f.length ≤ 1000) :
    ∃ c d, evS N T [.v (tupI f), .v (.int 1), .v (.int n), .o false ((List.replicate n (0 : Int)).map .int), .u, .u] le_2 = some (.nx [.v (tupI f), .v (.int 1), .v (.int n), .o false ((Od.led n f).map .int), c, d]) := by
  obtain ⟨ρ', e, hR, c, d, rfl⟩ := forT (f := fun x ρ1 => (bindT ρ1 (.nm 4) x).bind fun ρ2 => evSs N T ρ2 le_2b) (R := fun r ρ => r.length = n ∧ ∃ c d, ρ = [.v (tupI f), .v (.int 1), .v (.int n), .o false (r.map .int), c, d]) (step := Od.ledS n f) (fun t : Nat => PyData.int (t : Int)) (l := List.range f.length) (s := List.replicate n 0) (ρ := [.v (tupI f), .v (.int 1), .v (.int n), .o false ((List.replicate n (0 : Int)).map .int), .u, .u]) (fun k hk r ρ ⟨hr, c, d, hρ⟩ => by
    subst hρ
    have hk := List.mem_range.mp hk
    exact ⟨_, for_step (by simp) (le_b N h1 hn hk hr d), by unfold Od.ledS; rw [List.length_set]; exact hr, _, _, rfl⟩) ⟨by simp, _, _, rfl⟩
  refine ⟨c, d, for_ok ?_ e⟩
  rw [it_r1e (o := .val (.int (f.length : Nat))) (bi1 (x := .slot 0) rfl rfl (tupI_len f)) rfl (rng_ok (by omega) (by omega)), Int.toNat_natCast, rngD_map]
theorem v_led {f : List Int} {n : Nat} (h1 : 1 ≤ n) (hn : n ≤ 60) (hl : f.length ≤ 1000) : f__law_led [tupI f, .int 1, .int n] = some (.list ((Od.led n f).map .int)) := by
  obtain ⟨c, d, e⟩ := le_e2 100000 (T := (tabT tb_is_there kt0 gl0)) (f := f) h1 hn hl
  unfold f__law_led
  rw [le__is]
  unfold le_
  refine runP_ok (ss_nx (ρ1 := [.v (tupI f), .v (.int 1), .v (.int n), .o false ((List.replicate n (0 : Int)).map .int), .u, .u]) (asg_ok (o := .new ((List.replicate n (0 : Int)).map .int)) (bin_ok (y := .slot 2) (ev_z1 _ _) rfl rfl rfl ?_) rfl) (ss_nx e (ss_rt (ret_ok (o := .slot 3) rfl rfl))))
  rw [rep_int (by omega) (by omega), Int.toNat_natCast]
theorem t_nL : (tabT tb__law_primes kt0 gl0).fs "_law_led" = some fs__law_led := rfl
theorem t_nP : (tabT tb__law_primes kt0 gl0).fs "_law_primes" = some fs__law_primes := rfl
theorem cyd_same (n s : Nat) (r : List Int) : cydR n s r = Od.cyd n s r := rfl
theorem no_b (N : Nat) {T : Tb} {F : D} {r : List Int} {n p : Nat} (h1 : 1 ≤ n) (hn : n ≤ 60) (hp : 1 ≤ p) (hpn : p ≤ n) (hr : r.length = n) {s : Sl} (hs : LS s r) :
    evSs N T [.v F, .v (.int n), s, .v (.int p), .u] no_2b = some (.nx [.v F, .v (.int n), .o false ((Od.cyd n (n / p) r).map .int), .v (.int p), .u]) := by
  have hd : n / p ≤ n := Nat.div_le_self _ _
  have hl := lcM (T := T) (own := [("_law_k", 4)]) (ρ := [.v F, .v (.int n), s, .v (.int p), .u]) (ρ1 := [.v F, .v (.int n), s, .v (.int p), .u]) (it := .r1 (.var 1)) (e := .bin .Sub (.idx (.var 2) (.var 4)) (.idx (.var 2) (.bin .Sub (.var 4) (.bin .FloorDiv (.var 1) (.var 3))))) (t := .nm 4) (fun t : Nat => PyData.int (t : Int)) (fun k => .int (r.getD k 0 - r.getD ((k + n - n / p) % n) 0)) (l := List.range n) (it_rn rfl (by omega))
    (fun k hk => by
      have hk := List.mem_range.mp hk
      obtain ⟨v1, v2⟩ := hs.var (T := T) (ρ := [.v F, .v (.int n), s, .v (.int p), .v (.int k)]) (i := 2) rfl
      refine ⟨[.v F, .v (.int n), s, .v (.int p), .v (.int k)], .val (.int (r.getD k 0 - r.getD ((k + n - n / p) % n) 0)), rfl, ?_, rfl, rfl⟩
      exact bin_ok (x := .val (.int (r.getD k 0))) (y := .val (.int (r.getD ((k + n - n / p) % n) 0))) (idx_ok (x := .slot 2) (y := .slot 4) v1 rfl v2 rfl (ix_li (ixN_nn (by omega) (by omega)) (by omega)))
        (idx_ok (x := .slot 2) (y := .val (.int ((k : Int) - ((n / p : Nat) : Int)))) v1 (bin_ok (x := .slot 4) (y := .val (.int ((n / p : Nat) : Int))) rfl (bin_ok (x := .slot 1) (y := .slot 3) rfl rfl rfl rfl (by rw [bi_div (dv_ok hp (by omega)), Int.natCast_ediv])) rfl rfl (bi_sub _ _)) v2 rfl (ix_li (by rw [hr]; exact ixN_back hk hd) (by rw [hr]; exact Nat.mod_lt _ (by omega)))) rfl rfl (bi_sub _ _)) (fun i hi => .inl (by
      have : i = 4 := by simpa using hi
      subst this; rfl)) (len_ok (by simp; omega))
  have e : ((Od.cyd n (n / p) r).map PyData.int) = (List.range n).map fun k => PyData.int (r.getD k 0 - r.getD ((k + n - n / p) % n) 0) := by
    unfold Od.cyd
    rw [List.map_map]; rfl
  rw [e]
  exact ss_nx (asg_ok hl rfl) rfl
theorem no_e2 (N : Nat) {F : D} {r : List Int} {n : Nat} (h1 : 1 ≤ n) (hn : n ≤ 60) (hr : r.length = n) :
    ∃ s c, evS N (tabT tb__law_primes kt0 gl0) [.v F, .v (.int n), .v (.list (r.map .int)), .u, .u] no_2 = some (.nx [.v F, .v (.int n), s, c, .u]) ∧ LS s (Od.cyds n r (Od.prm n)) := by
  have ok := ord60 h1 hn
  obtain ⟨ρ', e, hR, s, c, hs, rfl⟩ := forT (f := fun x ρ1 => (bindT ρ1 (.nm 3) x).bind fun ρ2 => evSs N (tabT tb__law_primes kt0 gl0) ρ2 no_2b) (R := fun r ρ => r.length = n ∧ ∃ s c, LS s r ∧ ρ = [.v F, .v (.int n), s, c, .u]) (step := fun r p => Od.cyd n (n / p) r) (fun t : Nat => PyData.int (t : Int)) (l := Od.prm n) (s := r) (ρ := [.v F, .v (.int n), .v (.list (r.map .int)), .u, .u]) (fun p hp r ρ ⟨hr, s, c, hs, hρ⟩ => by
    subst hρ
    have q1 := ok.ps0 p hp
    have q2 := ok.psn p hp
    have p1 : 1 ≤ p := by
      rcases Nat.eq_zero_or_pos p with h | h
      · subst h; simp at q1
      · exact h
    have p2 : p ≤ n := by
      have := Nat.le_mul_of_pos_left p q1
      omega
    exact ⟨_, for_step (by simp) (no_b N h1 hn p1 p2 hr hs), Od.cyd_len _ _ _, _, _, .inr rfl, rfl⟩) ⟨hr, _, _, .inl rfl, rfl⟩
  refine ⟨s, c, for_ok ?_ e, hs⟩
  have : evE (tabT tb__law_primes kt0 gl0) [.v F, .v (.int n), .v (.list (r.map .int)), .u, .u] (.cal "_law_primes" (.cons (.var 1) .nil)) = some (.val (.list ((Od.prm n).map fun p : Nat => PyData.int p)), [.v F, .v (.int n), .v (.list (r.map .int)), .u, .u]) := calPn t_nP (ops := [.slot 1]) rfl rfl rfl rfl (v_primes h1 hn)
  exact it_ex this rfl
theorem all_rep (l : List Int) : (l.all (· == 0)) = decide (l = List.replicate l.length 0) := by
  induction l with
  | nil => rfl
  | cons a l ih =>
    rw [List.all_cons, ih, List.length_cons, List.replicate_succ]
    by_cases h : a = 0 <;> simp [h]
theorem v_nothing {f : List Int} {n : Nat} (h1 : 1 ≤ n) (hn : n ≤ 60) (hl : f.length ≤ 60) : f__law_is_nothing [tupI f, .int n] = some (.bool (zb n f)) := by
  have hr : (Od.led n f).length = n := (Od.led_ok (n := n) (by omega) f (w := fun _ => 0) (fun _ => rfl) 0).1
  obtain ⟨s, c, e, hs⟩ := no_e2 100000 (F := tupI f) h1 hn hr
  have hc : (Od.cyds n (Od.led n f) (Od.prm n)).length = n := (Od.act_cyds (ord60 h1 hn).ps0 hr (w := fun _ => 0) (fun _ => rfl) 0).1
  obtain ⟨v1, v2⟩ := hs.var (T := (tabT tb__law_primes kt0 gl0)) (ρ := [.v (tupI f), .v (.int n), s, c, .u]) (i := 2) rfl
  have hz : zb n f = decide (Od.cyds n (Od.led n f) (Od.prm n) = List.replicate n 0) := by
    unfold zb Od.nothing
    rw [all_rep, hc]
  unfold f__law_is_nothing
  rw [no__is]
  unfold no_
  refine runP_ok (ss_nx (ρ1 := [.v (tupI f), .v (.int n), .v (.list ((Od.led n f).map .int)), .u, .u]) (asg_ok (o := .val (.list ((Od.led n f).map .int))) (calPn t_nL (ops := [.slot 0, .val (.int 1), .slot 1]) rfl rfl rfl rfl (v_led h1 hn (by omega))) rfl) (ss_nx e (ss_rt (ret_ok (o := .val (.bool (zb n f))) (cmpE_ok (x := .slot 2) (y := .new ((List.replicate n (0 : Int)).map .int)) v1 (bin_ok (y := .slot 1) (ev_z1 _ _) rfl rfl rfl (by rw [rep_int (by omega) (by omega), Int.toNat_natCast])) v2 rfl (by rw [eq_lst, hz])) rfl))))
end Ev

set_option maxHeartbeats 1000000
namespace Ev
open PySem L2
/-! ### the law -/
def ri_1 : IS := .asg (.nm 1) (.cal "_law_slots" (.cons (.var 0) .nil))
def ri_2 : IS := .asg (.nm 2) (.ite (.cmp .Gt (.cal "_law_draw" (.cons (.var 0) (.cons (.cst (.int 12)) .nil))) (.cst (.int 0))) (.cal "_law_row" (.cons (.var 0) (.cons (.var 1) .nil))) (.bin .Mult (.lst (.cons (.cst (.int 0)) .nil)) (.var 1)))
def ri_3 : IS := .asg (.nm 2) (.bi "tuple" (.cons (.cal "_law_killed" (.cons (.var 0) (.cons (.var 2) (.cons (.var 1) .nil)))) .nil))
def ri_4 : IS := .asgs [8, 9] (.cons (.cal "orders_there" (.cons (.var 2) .nil)) (.cons (.cal "orders_gone" (.cons (.var 2) .nil)) .nil))
def ri_5 : IS := .asg (.nm 3) (.cal "_law_parts" (.cons (.var 1) .nil))
def ri_6 : IS := .asg (.nm 4) (.lc (.var 7) (.nm 7) [("_law_part", 7)] (.ex (.var 3)) (.so (.not (.cal "_law_is_nothing" (.cons (.var 2) (.cons (.var 7) .nil))))))
def ri_7t1 : IS := .ret (.cst (.bool false))
def ri_7t : ISs := (.cons ri_7t1 .nil)
def ri_7 : IS := .ifs (.cmp .NotEq (.bi "repr" (.cons (.lst (.cons (.var 8) (.cons (.var 9) .nil))) .nil)) (.bi "repr" (.cons (.lst (.cons (.bi "tuple" (.cons (.var 4) .nil)) (.cons (.bi "tuple" (.cons (.lc (.var 7) (.nm 7) [("_law_part", 7)] (.ex (.var 3)) (.so (.cmp .NotIn (.var 7) (.var 4)))) .nil)) .nil))) .nil))) ri_7t .nil
def ri_8t1 : IS := .ret (.cst (.bool false))
def ri_8t : ISs := (.cons ri_8t1 .nil)
def ri_8 : IS := .ifs (.and (.cmp .Eq (.bi "sum" (.cons (.var 2) .nil)) (.cst (.int 0))) (.one (.cmp .NotIn (.cst (.int 1)) (.var 9)))) ri_8t .nil
def ri_9 : IS := .asg (.nm 5) (.cal "_law_number" (.cons (.var 0) .nil))
def ri_10b1t1 : IS := .ret (.cst (.bool false))
def ri_10b1t : ISs := (.cons ri_10b1t1 .nil)
def ri_10b1 : IS := .ifs (.or (.cmp .NotEq (.bi "repr" (.cons (.calk "orders_there" 0 (.cons (.var 6) .nil) ["row"]) .nil)) (.bi "repr" (.cons (.var 8) .nil))) (.one (.cmp .NotEq (.bi "repr" (.cons (.calk "orders_gone" 0 (.cons (.var 6) .nil) ["row"]) .nil)) (.bi "repr" (.cons (.var 9) .nil))))) ri_10b1t .nil
def ri_10b : ISs := (.cons ri_10b1 .nil)
def ri_10 : IS := .fors (.nm 6) (.ex (.tup (.cons (.cal "turned_row" (.cons (.var 2) (.cons (.var 5) .nil))) (.cons (.cal "mirrored_row" (.cons (.var 2) .nil)) (.cons (.cal "scaled_row" (.cons (.var 2) (.cons (.neg (.cst (.int 3))) .nil))) .nil))))) ri_10b
def ri_11b1 : IS := .asg (.nm 10) (.bin .Mult (.bin .FloorDiv (.var 1) (.var 7)) (.bin .Add (.cst (.int 1)) (.bin .Mult (.var 7) (.bin .Sub (.cal "_law_draw" (.cons (.var 0) (.cons (.cst (.int 7)) .nil))) (.cst (.int 3))))))
def ri_11b2t1 : IS := .ret (.cst (.bool false))
def ri_11b2t : ISs := (.cons ri_11b2t1 .nil)
def ri_11b2 : IS := .ifs (.or (.cmp .NotEq (.cal "order_of" (.cons (.var 1) (.cons (.var 10) .nil))) (.var 7)) (.one (.cmp .NotEq (.bi "repr" (.cons (.cal "is_there" (.cons (.var 2) (.cons (.var 10) .nil))) .nil)) (.bi "repr" (.cons (.cmp .In (.var 7) (.var 4)) .nil))))) ri_11b2t .nil
def ri_11b : ISs := (.cons ri_11b1 (.cons ri_11b2 .nil))
def ri_11 : IS := .fors (.nm 7) (.ex (.var 3)) ri_11b
def ri_12b1 : IS := .asg (.nm 10) (.cal "_law_number" (.cons (.var 0) .nil))
def ri_12b2t1 : IS := .ret (.cst (.bool false))
def ri_12b2t : ISs := (.cons ri_12b2t1 .nil)
def ri_12b2 : IS := .ifs (.cmp .NotEq (.cmp .In (.cal "order_of" (.cons (.var 1) (.cons (.var 10) .nil))) (.var 8)) (.cal "is_there" (.cons (.var 2) (.cons (.var 10) .nil)))) ri_12b2t .nil
def ri_12b : ISs := (.cons ri_12b1 (.cons ri_12b2 .nil))
def ri_12 : IS := .fors (.nm 5) (.r1 (.cst (.int 4))) ri_12b
def ri_13 : IS := .ret (.cst (.bool true))
def ri_ : ISs := (.cons ri_1 (.cons ri_2 (.cons ri_3 (.cons ri_4 (.cons ri_5 (.cons ri_6 (.cons ri_7 (.cons ri_8 (.cons ri_9 (.cons ri_10 (.cons ri_11 (.cons ri_12 (.cons ri_13 .nil)))))))))))))
theorem ri__is : i__law_right = ri_ := rfl

theorem t_rRS : (tabT tb__law_is_nothing kt0 gl0).fs "_law_slots" = some fs__law_slots := rfl
theorem t_rRD : (tabT tb__law_is_nothing kt0 gl0).fs "_law_draw" = some fs__law_draw := rfl
theorem t_rRR : (tabT tb__law_is_nothing kt0 gl0).fs "_law_row" = some fs__law_row := rfl
theorem t_rRK : (tabT tb__law_is_nothing kt0 gl0).fs "_law_killed" = some fs__law_killed := rfl
theorem t_rRT : (tabT tb__law_is_nothing kt0 gl0).fs "orders_there" = some fs_orders_there := rfl
theorem t_rRG : (tabT tb__law_is_nothing kt0 gl0).fs "orders_gone" = some fs_orders_gone := rfl
theorem t_rRP : (tabT tb__law_is_nothing kt0 gl0).fs "_law_parts" = some fs__law_parts := rfl
theorem t_rRN : (tabT tb__law_is_nothing kt0 gl0).fs "_law_is_nothing" = some fs__law_is_nothing := rfl
theorem t_rRn : (tabT tb__law_is_nothing kt0 gl0).fs "_law_number" = some fs__law_number := rfl
theorem t_rRt : (tabT tb__law_is_nothing kt0 gl0).fs "turned_row" = some fs_turned_row := rfl
theorem t_rRm : (tabT tb__law_is_nothing kt0 gl0).fs "mirrored_row" = some fs_mirrored_row := rfl
theorem t_rRs : (tabT tb__law_is_nothing kt0 gl0).fs "scaled_row" = some fs_scaled_row := rfl
theorem t_rRo : (tabT tb__law_is_nothing kt0 gl0).fs "order_of" = some fs_order_of := rfl
theorem t_rRi : (tabT tb__law_is_nothing kt0 gl0).fs "is_there" = some fs_is_there := rfl
theorem t_rkT : (tabT tb__law_is_nothing kt0 gl0).ks "orders_there" 0 ["row"] = some [0] := rfl
theorem t_rkG : (tabT tb__law_is_nothing kt0 gl0).ks "orders_gone" 0 ["row"] = some [0] := rfl
theorem callW_k {n : Nat} {f : List D → List D → Option (D × List D)} {l l' : List D} {ρ ρ' : En} {r : List Op} {ds : List D} {d : D} (hn : r.length + 1 = n) (hk : keepL (.o true l :: ρ) r = some (ds, .o true l :: ρ')) (h : f l ds = some (d, l')) : callF (.w n f) (.slot 0 :: r) (.o true l :: ρ) = some (.val d, .o true l' :: ρ') := by
  subst hn
  simp only [callF, callW, List.length_cons, beq_self_eq_true, if_true, List.getElem?_cons_zero, hk, Option.bind_some, h, Option.map_some, List.set_cons_zero]
theorem calWk {n : Nat} {T : Tb} {f : List D → List D → Option (D × List D)} {l l' : List D} {ρ ρ' : En} {x : Str} {es : IEs} {r : List Op} {ds : List D} {d : D} (hs : T.fs x = some (.w n f)) (he : evEs T (.o true l :: ρ) es = some (r, .o true l :: ρ)) (hn : r.length + 1 = n) (hk : keepL (.o true l :: ρ) r = some (ds, .o true l :: ρ')) (h : f l ds = some (d, l')) :
    evE T (.o true l :: ρ) (.cal x (.cons (.var 0) es)) = some (.val d, .o true l' :: ρ') :=
  cal_ok (ops := .slot 0 :: r) (ρ1 := .o true l :: ρ) (by simp only [evEs, evE, List.getElem?_cons_zero, Option.bind_some, he, Option.map_some]) hs (callW_k hn hk h)
theorem cmp_gt (i j : Int) : cmpD .Gt (.int i) (.int j) = some (decide (i > j)) := rfl
theorem rep1_ok {T : Tb} {ρ ρ1 : En} {a : IE} {x : Op} {d : D} (h : evE T ρ a = some (x, ρ1)) (hv : viewOp ρ1 x = some d) (hr : reprOk d = true) : evE T ρ (.bi "repr" (.cons a .nil)) = some (.val (.str d.shown), ρ1) :=
  bi1 h hv (by simp only [biD, hr, if_true])
theorem ne_rep1 {T : Tb} {ρ ρ1 ρ2 : En} {a b : IE} {x y : Op} {d : D} (h : evE T ρ a = some (x, ρ1)) (hv : viewOp ρ1 x = some d) (h' : evE T ρ1 b = some (y, ρ2)) (hv' : viewOp ρ2 y = some d) (hd : reprOk d = true) (td : TxO d.shown) :
    evT T ρ (.cmp .NotEq (.bi "repr" (.cons a .nil)) (.bi "repr" (.cons b .nil))) = some (false, ρ2) :=
  cmpT_ok (rep1_ok h hv hd) (rep1_ok h' hv' hd) rfl rfl (ne_same td)
theorem or_ff {T : Tb} {ρ ρ1 ρ2 : En} {a b : IE} (ha : evT T ρ a = some (false, ρ1)) (hb : evT T ρ1 b = some (false, ρ2)) : evT T ρ (.or a (.one b)) = some (false, ρ2) := by
  simp only [evT, ha, hb]
theorem and_f {T : Tb} {ρ ρ1 : En} {a b : IE} (ha : evT T ρ a = some (false, ρ1)) : evT T ρ (.and a b) = some (false, ρ1) := by
  simp only [evT, ha]
theorem and_tf {T : Tb} {ρ ρ1 ρ2 : En} {a b : IE} {r : Bool} (ha : evT T ρ a = some (true, ρ1)) (hb : evT T ρ1 b = some (r, ρ2)) : evT T ρ (.and a (.one b)) = some (r, ρ2) := by
  simp only [evT, ha, hb]
theorem so_bool (b : Bool) : TxO (PyData.bool b).shown := by
  cases b
  · exact so_of "False"
  · exact so_of "True"
theorem rep_bool (b : Bool) : reprOk (.bool b) = true := by cases b <;> decide +kernel
theorem ne_bool (b : Bool) : cmpD .NotEq (.bool b) (.bool b) = some false := by cases b <;> rfl
theorem sum_tupI (ds : List Int) : biD "sum" [.tuple (ds.map .int)] = some (.val (.int ds.sum)) := by simp only [biD, intsD_map, Option.map_some]
/-! ### what is the same of rows turned, mirrored, scaled -/
theorem fil_same {f g : List Int} (hl : g.length = f.length) (h : ∀ m : Nat, 1 ≤ m → m ∣ f.length → zb m g = zb m f) : due g = due f ∧ undue g = undue f := by
  have key : ∀ x ∈ dvs f.length, zb x.toNat g = zb x.toNat f := fun x hx => by
    rw [mem_dvs] at hx
    obtain ⟨n, rfl⟩ : ∃ n : Nat, x = n := ⟨x.toNat, by omega⟩
    refine h n (by omega) ?_
    have := Int.dvd_of_emod_eq_zero hx.2
    exact Int.natCast_dvd_natCast.mp this
  unfold due undue
  rw [hl]
  exact ⟨List.filter_congr fun x hx => by rw [key x hx], List.filter_congr fun x hx => by rw [key x hx]⟩
theorem zb_iff {n : Nat} (h1 : 1 ≤ n) (h2 : n ≤ 60) {f g : List Int} (h : Od.Zr (Od.cyT n) g ↔ Od.Zr (Od.cyT n) f) : zb n g = zb n f := by
  rw [Bool.eq_iff_iff, zb_zr h1 h2, zb_zr h1 h2, h]
theorem dvd60 {n m : Nat} (hn : n ≤ 60) (h0 : 0 < n) (h : m ∣ n) : m ≤ 60 := Nat.le_trans (Nat.le_of_dvd h0 h) hn
theorem same_rot {f : List Int} (h0 : 0 < f.length) (h2 : f.length ≤ 60) {a : Nat} (ha : a ≤ f.length) : due (f.drop a ++ f.take a) = due f ∧ undue (f.drop a ++ f.take a) = undue f :=
  fil_same (by rw [List.length_append, List.length_drop, List.length_take]; omega) fun m h1 hm => zb_iff h1 (dvd60 h2 h0 hm) ((ord60 h1 (dvd60 h2 h0 hm)).zr_rot hm ha)
theorem same_mir {a : Int} {l : List Int} (h2 : (a :: l).length ≤ 60) : due (a :: l.reverse) = due (a :: l) ∧ undue (a :: l.reverse) = undue (a :: l) :=
  fil_same (by simp) fun m h1 hm => zb_iff h1 (dvd60 h2 (by simp) hm) ((ord60 h1 (dvd60 h2 (by simp) hm)).zr_mir (by simpa using hm))
theorem same_scl {f : List Int} (h0 : 0 < f.length) (h2 : f.length ≤ 60) {c : Int} (hc : c ≠ 0) : due (f.map (· * c)) = due f ∧ undue (f.map (· * c)) = undue f :=
  fil_same (by simp) fun m h1 hm => zb_iff h1 (dvd60 h2 h0 hm) (Od.zr_scale hc)
theorem dvs_bd {n : Nat} (hn : n ≤ 60) : ∀ x ∈ dvs n, Bd 6 x := fun x hx => by
  rw [mem_dvs] at hx
  unfold Bd
  have : (2 : Nat) ^ 6 = 64 := by decide
  rw [this]; omega
theorem tame_dvs {n : Nat} (hn : n ≤ 60) (p : Int → Bool) : Tame (tupI ((dvs n).filter p)) := by
  have hl : ((dvs n).filter p).length ≤ 60 := Nat.le_trans (List.length_filter_le _ _) (Nat.le_trans (dvs_len n) hn)
  exact tame_tup (n := 6) (by decide) (fun x hx => dvs_bd hn x (List.mem_filter.mp hx).1) (by omega)
theorem due_neg (f : List Int) : (dvs f.length).filter (fun x => !decide (x ∈ due f)) = undue f := by
  unfold undue
  refine List.filter_congr fun x hx => ?_
  unfold due
  have : x ∈ (dvs f.length).filter (fun d => !zb d.toNat f) ↔ (!zb x.toNat f) = true := by
    rw [List.mem_filter]; exact ⟨fun h => h.2, fun h => ⟨hx, h⟩⟩
  cases h : zb x.toNat f
  · simp [this, h]
  · simp [this, h]
theorem cyT1 : Od.cyT 1 = [-1, 1] := by decide +kernel
theorem one_undue {f : List Int} (h1 : 1 ≤ f.length) (h : f.sum = 0) : (1 : Int) ∈ undue f := by
  unfold undue
  rw [List.mem_filter]
  refine ⟨mem_dvs.mpr ⟨⟨by omega, by omega⟩, by simp⟩, ?_⟩
  show zb 1 f = true
  rw [zb_zr (by decide) (by decide), cyT1]
  exact Od.zr_one h
theorem ord_part {n p : Nat} (hp : 1 ≤ p) (h : n / p * p = n) (h0 : 0 < n) (t : Int) : ordN n (((n / p : Nat) : Int) * (1 + (p : Int) * t)) = p := by
  have hk : 0 < n / p := by
    rcases Nat.eq_zero_or_pos (n / p) with h' | h'
    · rw [h'] at h; omega
    · exact h'
  have e : Nat.gcd (((n / p : Nat) : Int) * (1 + (p : Int) * t)).natAbs n = n / p := by
    have h1 : Int.gcd (((n / p : Nat) : Int) * (1 + (p : Int) * t)) (((n / p : Nat) : Int) * (p : Int)) = n / p := by
      rw [Int.gcd_mul_left, Int.gcd_add_mul_left_left, Int.natAbs_natCast]
      simp
    have h2 : (((n / p : Nat) : Int) * (p : Int)) = (n : Int) := by rw [← Int.natCast_mul, h]
    rw [h2] at h1
    exact h1
  unfold ordN
  rw [e]
  exact Nat.div_eq_of_eq_mul_right hk h.symm
theorem ord_dvs {n : Nat} (h0 : 0 < n) (h : Int) : ((ordN n h : Nat) : Int) ∈ dvs n := by
  obtain ⟨o1, o2, o3⟩ := ordN_bd (n := n) h0 h
  refine mem_dvs.mpr ⟨⟨by omega, by omega⟩, ?_⟩
  have := Nat.mod_eq_zero_of_dvd o3
  omega
theorem in_due {f : List Int} {p : Nat} (h : (p : Int) ∈ dvs f.length) : decide ((p : Int) ∈ due f) = !zb p f := by
  unfold due
  have : (p : Int) ∈ (dvs f.length).filter (fun d => !zb d.toNat f) ↔ (!zb p f) = true := by
    rw [List.mem_filter]; exact ⟨fun h => h.2, fun h' => ⟨h, h'⟩⟩
  cases h : zb p f <;> simp [this, h]
/-! ### the run -/
abbrev r14 (l : List D) (n : Nat) (f : List Int) (due undue : List Int) (s5 s6 s7 s10 : Sl) : En := [.o true l, .v (.int n), .v (tupI f), .v (.list ((dvs n).map .int)), .o false (due.map .int), s5, s6, s7, .v (tupI due), .v (tupI undue), s10]
theorem ri_e2 (N : Nat) {l : List D} (w : Well l) {n : Nat} (h2 : 2 ≤ n) (hn : n ≤ 60) : ∃ (l' : List D) (row : List Int) (s : Sl), evS N (tabT tb__law_is_nothing kt0 gl0) [.o true l, .v (.int n), .u, .u, .u, .u, .u, .u, .u, .u, .u] ri_2 = some (.nx [.o true l', .v (.int n), s, .u, .u, .u, .u, .u, .u, .u, .u]) ∧ Well l' ∧ LS s row ∧ RowB n 43 row := by
  obtain ⟨v, l1, e1, w1, v0, v1⟩ := v_draw w (k := 12) (by decide) (by decide)
  have hc : evT (tabT tb__law_is_nothing kt0 gl0) [.o true l, .v (.int n), .u, .u, .u, .u, .u, .u, .u, .u, .u] (.cmp .Gt (.cal "_law_draw" (.cons (.var 0) (.cons (.cst (.int 12)) .nil))) (.cst (.int 0))) = some (decide (v > 0), [.o true l1, .v (.int n), .u, .u, .u, .u, .u, .u, .u, .u, .u]) :=
    cmpT_ok (x := .val (.int v)) (y := .val (.int 0)) (calW t_rRD (r := [.val (.int 12)]) rfl rfl rfl e1) cst_i rfl rfl (cmp_gt _ _)
  by_cases h0 : v > 0
  · rw [decide_eq_true h0] at hc
    obtain ⟨row, l2, e2, w2, hr⟩ := v_row w1 h2 hn
    exact ⟨l2, row, _, asg_ok (ite_tr hc (calW t_rRR (r := [.slot 1]) rfl rfl rfl e2)) rfl, w2, .inl rfl, hr⟩
  · rw [decide_eq_false h0] at hc
    refine ⟨l1, List.replicate n 0, _, asg_ok (o := .new ((List.replicate n (0 : Int)).map .int)) (ite_fl hc (bin_ok (y := .slot 1) (ev_z1 _ _) rfl rfl rfl (by rw [rep_int (by omega) (by omega), Int.toNat_natCast]))) rfl, w1, .inr rfl, by simp, fun x hx => ?_⟩
    rw [(List.mem_replicate.mp hx).2]
    exact Bd.zero _
theorem ri_e3 (N : Nat) {l : List D} (w : Well l) {n : Nat} (h2 : 2 ≤ n) (hn : n ≤ 60) {row : List Int} (hr : RowB n 43 row) {s : Sl} (hs : LS s row) : ∃ (l' : List D) (f : List Int), evS N (tabT tb__law_is_nothing kt0 gl0) [.o true l, .v (.int n), s, .u, .u, .u, .u, .u, .u, .u, .u] ri_3 = some (.nx [.o true l', .v (.int n), .v (tupI f), .u, .u, .u, .u, .u, .u, .u, .u]) ∧ Well l' ∧ RowB n 61 f := by
  obtain ⟨f, l1, e1, w1, hf⟩ := v_killed w h2 hn hr
  refine ⟨l1, f, ?_, w1, hf⟩
  rcases hs with rfl | rfl
  · exact asg_ok (bi_tuple (calWk (ρ' := [.v (.int n), .v (.list (row.map .int)), .u, .u, .u, .u, .u, .u, .u, .u]) t_rRK (r := [.slot 2, .slot 1]) rfl rfl rfl e1) rfl) rfl
  · exact asg_ok (bi_tuple (calWk (ρ' := [.v (.int n), .v (.list (row.map .int)), .u, .u, .u, .u, .u, .u, .u, .u]) t_rRK (r := [.slot 2, .slot 1]) rfl rfl rfl e1) rfl) rfl
theorem ri_e4 (N : Nat) {l : List D} {n : Nat} (h2 : 2 ≤ n) (hn : n ≤ 60) {f : List Int} (hf : RowB n 61 f) : evS N (tabT tb__law_is_nothing kt0 gl0) [.o true l, .v (.int n), .v (tupI f), .u, .u, .u, .u, .u, .u, .u, .u] ri_4 = some (.nx [.o true l, .v (.int n), .v (tupI f), .u, .u, .u, .u, .u, .v (tupI (due f)), .v (tupI (undue f)), .u]) := by
  have hl := hf.1
  refine asgs_ok (ops := [.val (tupI (due f)), .val (tupI (undue f))]) (ee_cons (calPn t_rRT (ops := [.slot 2]) rfl rfl rfl rfl (v_there (by omega) (by omega) hf.2 (by decide))) (ee_cons (calPn t_rRG (ops := [.slot 2]) rfl rfl rfl rfl (v_gone (by omega) (by omega) hf.2 (by decide))) rfl)) rfl rfl
theorem ri_e5 (N : Nat) {l : List D} {n : Nat} (h2 : 2 ≤ n) (hn : n ≤ 60) (f d e : Sl) : evS N (tabT tb__law_is_nothing kt0 gl0) [.o true l, .v (.int n), f, .u, .u, .u, .u, .u, d, e, .u] ri_5 = some (.nx [.o true l, .v (.int n), f, .v (.list ((dvs n).map .int)), .u, .u, .u, .u, d, e, .u]) :=
  asg_ok (calPn t_rRP (ops := [.slot 1]) rfl rfl rfl rfl (v_parts (by omega) (by omega))) rfl
theorem ri_e6 (N : Nat) {l : List D} {n : Nat} (h2 : 2 ≤ n) (hn : n ≤ 60) {f : List Int} (hf : RowB n 61 f) (d e : Sl) : evS N (tabT tb__law_is_nothing kt0 gl0) [.o true l, .v (.int n), .v (tupI f), .v (.list ((dvs n).map .int)), .u, .u, .u, .u, d, e, .u] ri_6 = some (.nx [.o true l, .v (.int n), .v (tupI f), .v (.list ((dvs n).map .int)), .o false ((due f).map .int), .u, .u, .u, d, e, .u]) := by
  have hl := hf.1
  have g := lcG (T := (tabT tb__law_is_nothing kt0 gl0)) (ρ := [.o true l, .v (.int n), .v (tupI f), .v (.list ((dvs n).map .int)), .u, .u, .u, .u, d, e, .u]) (ρ1 := [.o true l, .v (.int n), .v (tupI f), .v (.list ((dvs n).map .int)), .u, .u, .u, .u, d, e, .u]) (it := .ex (.var 3)) (c := .not (.cal "_law_is_nothing" (.cons (.var 2) (.cons (.var 7) .nil)))) (i := 7) (nm := "_law_part") (l := dvs n) (fun x => !zb x.toNat f) rfl rfl (fun x hx => by
    rw [mem_dvs] at hx
    obtain ⟨m, rfl⟩ : ∃ m : Nat, x = m := ⟨x.toNat, by omega⟩
    exact not_ok (calPt t_rRN (ops := [.slot 2, .slot 7]) rfl rfl rfl (v_nothing (by omega) (by omega) (by omega)))) (by have := dvs_len n; omega)
  rw [← hl] at g
  have hd : (dvs f.length).filter (fun x => !zb x.toNat f) = due f := rfl
  rw [hd] at g
  rw [hl] at g
  exact asg_ok g rfl
theorem ri_e7 (N : Nat) {l : List D} {n : Nat} (h2 : 2 ≤ n) (hn : n ≤ 60) {f : List Int} (hf : RowB n 61 f) : evS N (tabT tb__law_is_nothing kt0 gl0) (r14 l n f (due f) (undue f) .u .u .u .u) ri_7 = some (.nx (r14 l n f (due f) (undue f) .u .u .u .u)) := by
  have hl := hf.1
  have g := lcG (T := (tabT tb__law_is_nothing kt0 gl0)) (ρ := r14 l n f (due f) (undue f) .u .u .u .u) (ρ1 := r14 l n f (due f) (undue f) .u .u .u .u) (it := .ex (.var 3)) (c := .cmp .NotIn (.var 7) (.var 4)) (i := 7) (nm := "_law_part") (l := dvs n) (fun x => !decide (x ∈ due f)) rfl rfl (fun x hx => cmpT_ok (x := .slot 7) (y := .slot 4) rfl rfl rfl rfl (notin_lst x (due f))) (by have := dvs_len n; omega)
  have hd := due_neg f
  rw [hl] at hd
  rw [hd] at g
  have t1 : Tame (tupI (due f)) := tame_dvs (by omega) _
  have t2 : Tame (tupI (undue f)) := tame_dvs (by omega) _
  exact if_no (ne_rep (x := .slot 8) (y := .slot 9) (x' := .val (tupI (due f))) (y' := .val (tupI (undue f))) rfl rfl rfl (bi_tuple (o := .slot 4) rfl rfl) (bi_tuple g rfl) rfl t1 t2 (so_tup _) (so_tup _))
theorem ri_e8 (N : Nat) {l : List D} {n : Nat} (h2 : 2 ≤ n) {f : List Int} (hf : RowB n 61 f) : evS N (tabT tb__law_is_nothing kt0 gl0) (r14 l n f (due f) (undue f) .u .u .u .u) ri_8 = some (.nx (r14 l n f (due f) (undue f) .u .u .u .u)) := by
  have hl := hf.1
  have hc : evT (tabT tb__law_is_nothing kt0 gl0) (r14 l n f (due f) (undue f) .u .u .u .u) (.cmp .Eq (.bi "sum" (.cons (.var 2) .nil)) (.cst (.int 0))) = some (decide (f.sum = 0), r14 l n f (due f) (undue f) .u .u .u .u) :=
    cmpT_ok (x := .val (.int f.sum)) (y := .val (.int 0)) (bi1 (x := .slot 2) rfl rfl (sum_tupI f)) cst_i rfl rfl (cmp_eq _ _)
  by_cases h : f.sum = 0
  · rw [decide_eq_true h] at hc
    refine if_no (and_tf hc (cmpT_ok (x := .val (.int 1)) (y := .slot 9) cst_i rfl rfl rfl ?_))
    have := notin_tup 1 (undue f)
    rw [decide_eq_true (one_undue (by omega) h)] at this
    exact this
  · rw [decide_eq_false h] at hc
    exact if_no (and_f hc)
theorem ri_b10 (N : Nat) {l : List D} {n : Nat} (h2 : 2 ≤ n) (hn : n ≤ 60) {f g : List Int} (hf : RowB n 61 f) (hg : RowB n 63 g) (hs : due g = due f ∧ undue g = undue f) (s5 s7 s10 : Sl) :
    evSs N (tabT tb__law_is_nothing kt0 gl0) (r14 l n f (due f) (undue f) s5 (.v (tupI g)) s7 s10) ri_10b = some (.nx (r14 l n f (due f) (undue f) s5 (.v (tupI g)) s7 s10)) := by
  have hl := hf.1
  have hg1 := hg.1
  have t1 : Tame (tupI (due f)) := tame_dvs (by omega) _
  have t2 : Tame (tupI (undue f)) := tame_dvs (by omega) _
  have v1 := v_there (f := g) (by omega) (by omega) hg.2 (by decide)
  have v2 := v_gone (f := g) (by omega) (by omega) hg.2 (by decide)
  rw [hs.1] at v1
  rw [hs.2] at v2
  exact ss_nx (if_no (or_ff (ne_rep1 (x := .val (tupI (due f))) (y := .slot 8) (calkP1 t_rRT t_rkT (o := .slot 6) rfl rfl v1) rfl rfl rfl t1.repr (so_tup _)) (ne_rep1 (x := .val (tupI (undue f))) (y := .slot 9) (calkP1 t_rRG t_rkG (o := .slot 6) rfl rfl v2) rfl rfl rfl t2.repr (so_tup _)))) rfl
theorem for3 {f : D → En → Option Oc} {a b c : D} {ρ ρ1 ρ2 ρ3 : En} (h1 : f a ρ = some (.nx ρ1)) (h2 : f b ρ1 = some (.nx ρ2)) (h3 : f c ρ2 = some (.nx ρ3)) : evFor f [a, b, c] ρ = some (.nx ρ3) := by
  simp only [evFor, h1, h2, h3]
theorem it_tup3 {T : Tb} {ρ ρ1 : En} {e : IE} {ds : List D} (h : evE T ρ e = some (.val (.tuple ds), ρ1)) : evIt T ρ (.ex e) = some (ds, ρ1) := by
  simp only [evIt, h, Option.bind_some, keepOp]
theorem ri_e10 (N : Nat) {l : List D} {n : Nat} (h2 : 2 ≤ n) (hn : n ≤ 60) {f : List Int} (hf : RowB n 61 f) (t : Int) : ∃ s6, evS N (tabT tb__law_is_nothing kt0 gl0) (r14 l n f (due f) (undue f) (.v (.int t)) .u .u .u) ri_10 = some (.nx (r14 l n f (due f) (undue f) (.v (.int t)) s6 .u .u)) := by
  have hl := hf.1
  have p0 : 0 ≤ (-t) % (f.length : Int) := Int.emod_nonneg _ (by omega)
  have p1 : (-t) % (f.length : Int) < f.length := Int.emod_lt_of_pos _ (by omega)
  have vt := v_turned f (by omega) (by omega) t
  have st := same_rot (f := f) (by omega) (by omega) (a := ((-t) % (f.length : Int)).toNat) (by omega)
  have vs := v_scaled f (by omega) (by omega) (c := -3) (fun x _ => mulOk_r (by decide) (by decide))
  have ssc := same_scl (f := f) (by omega) (by omega) (c := -3) (by decide)
  obtain ⟨a, r, rfl⟩ : ∃ a r, f = a :: r := by
    cases f with
    | nil => simp at hl; omega
    | cons a r => exact ⟨a, r, rfl⟩
  have vm := v_mirrored a r (by omega) (by omega)
  have sm := same_mir (a := a) (l := r) (by omega)
  have hb : ∀ x ∈ a :: r, Bd 61 x := hf.2
  have b1 : RowB n 63 (((a :: r).drop ((-t) % ((a :: r).length : Int)).toNat) ++ ((a :: r).take ((-t) % ((a :: r).length : Int)).toNat)) := ⟨by rw [List.length_append, List.length_drop, List.length_take]; omega, fun x hx => (hb x (by
    rcases List.mem_append.mp hx with h | h
    · exact List.mem_of_mem_drop h
    · exact List.mem_of_mem_take h)).mono (by decide)⟩
  have b2 : RowB n 63 (a :: r.reverse) := ⟨by rw [← hl]; simp, fun x hx => (hb x (by simpa using hx)).mono (by decide)⟩
  have b3 : RowB n 63 ((a :: r).map (· * (-3))) := ⟨by rw [List.length_map]; exact hl, fun x hx => by
    obtain ⟨y, hy, rfl⟩ := List.mem_map.mp hx
    exact (hb y hy).mul (n := 2) (show Bd 2 (-3) by unfold Bd; decide)⟩
  have st3 : ∀ (g : List Int) (s6 : Sl), RowB n 63 g → due g = due (a :: r) ∧ undue g = undue (a :: r) → ((bindT (r14 l n (a :: r) (due (a :: r)) (undue (a :: r)) (.v (.int t)) s6 .u .u) (.nm 6) (tupI g)).bind fun ρ2 => evSs N (tabT tb__law_is_nothing kt0 gl0) ρ2 ri_10b) = some (.nx (r14 l n (a :: r) (due (a :: r)) (undue (a :: r)) (.v (.int t)) (.v (tupI g)) .u .u)) := fun g s6 hg hs =>
    for_step (ρ := r14 l n (a :: r) (due (a :: r)) (undue (a :: r)) (.v (.int t)) s6 .u .u) (i := 6) (by unfold r14; simp) (ri_b10 N h2 hn hf hg hs (.v (.int t)) .u .u)
  have hit : evIt (tabT tb__law_is_nothing kt0 gl0) (r14 l n (a :: r) (due (a :: r)) (undue (a :: r)) (.v (.int t)) .u .u .u) (.ex (.tup (.cons (.cal "turned_row" (.cons (.var 2) (.cons (.var 5) .nil))) (.cons (.cal "mirrored_row" (.cons (.var 2) .nil)) (.cons (.cal "scaled_row" (.cons (.var 2) (.cons (.neg (.cst (.int 3))) .nil))) .nil))))) = some ([tupI ((a :: r).drop ((-t) % ((a :: r).length : Int)).toNat ++ (a :: r).take ((-t) % ((a :: r).length : Int)).toNat), tupI (a :: r.reverse), tupI ((a :: r).map (· * (-3)))], r14 l n (a :: r) (due (a :: r)) (undue (a :: r)) (.v (.int t)) .u .u .u) :=
    it_tup3 (tup3 (x := .val _) (y := .val _) (z := .val _) (calPn t_rRt (ops := [.slot 2, .slot 5]) rfl rfl rfl rfl vt) (calPn t_rRm (ops := [.slot 2]) rfl rfl rfl rfl vm) (calPn t_rRs (ops := [.slot 2, .val (.int (-3))]) (ee_cons rfl (ee_cons (neg_ok (x := .val (.int 3)) cst_i rfl) rfl)) rfl rfl rfl vs) rfl)
  exact ⟨_, for_ok hit (for3 (st3 _ _ b1 st) (st3 _ _ b2 sm) (st3 _ _ b3 ssc))⟩
theorem ri_b11 (N : Nat) {l : List D} (w : Well l) {n p : Nat} (h2 : 2 ≤ n) (hn : n ≤ 60) {f : List Int} (hf : RowB n 61 f) (hp : (p : Int) ∈ dvs n) (s5 s6 s10 : Sl) :
    ∃ (l' : List D) (h : Int), evSs N (tabT tb__law_is_nothing kt0 gl0) (r14 l n f (due f) (undue f) s5 s6 (.v (.int p)) s10) ri_11b = some (.nx (r14 l' n f (due f) (undue f) s5 s6 (.v (.int p)) (.v (.int h)))) ∧ Well l' := by
  have hl := hf.1
  have hq := mem_dvs.mp hp
  obtain ⟨v, l1, e1, w1, v0, v1⟩ := v_draw w (k := 7) (by decide) (by decide)
  have hnp : n / p * p = n := by
    have : n % p = 0 := by omega
    exact Nat.div_mul_cancel (Nat.dvd_of_mod_eq_zero this)
  have hdl : n / p ≤ n := Nat.div_le_self _ _
  have hd0 : (0 : Int) ≤ ((n / p : Nat) : Int) := Int.natCast_nonneg _
  have ho := ord_part (n := n) (p := p) (by omega) hnp (by omega) (v - 3)
  have a1 : evS N (tabT tb__law_is_nothing kt0 gl0) (r14 l n f (due f) (undue f) s5 s6 (.v (.int p)) s10) ri_11b1 = some (.nx (r14 l1 n f (due f) (undue f) s5 s6 (.v (.int p)) (.v (.int (((n / p : Nat) : Int) * (1 + (p : Int) * (v - 3))))))) := by
    refine asg_ok (o := .val (.int (((n / p : Nat) : Int) * (1 + (p : Int) * (v - 3))))) (bin_ok (x := .val (.int ((n / p : Nat) : Int))) (y := .val (.int (1 + (p : Int) * (v - 3)))) (bin_ok (x := .slot 1) (y := .slot 7) rfl rfl rfl rfl (by rw [bi_div (dv_ok (by omega) (by omega)), Int.natCast_ediv]))
      (bin_ok (x := .val (.int 1)) (y := .val (.int ((p : Int) * (v - 3)))) cst_i (bin_ok (x := .slot 7) (y := .val (.int (v - 3))) rfl (bin_ok (x := .val (.int v)) (y := .val (.int 3)) (calW t_rRD (r := [.val (.int 7)]) rfl rfl rfl e1) cst_i rfl rfl (bi_sub _ _)) rfl rfl (bi_mul (mulOk_l (by omega) (by omega)))) rfl rfl (bi_add _ _)) rfl rfl (bi_mul (mulOk_l (by omega) (by omega)))) rfl
  generalize ((n / p : Nat) : Int) * (1 + (p : Int) * (v - 3)) = h at a1 ho
  refine ⟨l1, h, ss_nx a1 (ss_nx (if_no (or_ff (cmpT_ok (x := .val (.int (ordN n h))) (y := .slot 7) (calPn t_rRo (ops := [.slot 1, .slot 10]) rfl rfl rfl rfl (v_order_of h2 hn h)) rfl rfl rfl ?_) (ne_rep1 (d := .bool (!zb p f)) (x := .val (.bool (!zb p f))) (y := .val (.bool (!zb p f))) (calPn t_rRi (ops := [.slot 2, .slot 10]) rfl rfl rfl rfl ?_) rfl (cmpE_ok (x := .slot 7) (y := .slot 4) rfl rfl rfl rfl ?_) rfl (rep_bool _) (so_bool _)))) rfl), w1⟩
  · rw [cmp_ne, ho]; simp
  · have := v_is_there (f := f) (by omega) (by omega) hf.2 (by decide) h
    rw [hl, ho] at this
    exact this
  · rw [← hl] at hp
    rw [in_lst, in_due hp]
theorem ri_e11 (N : Nat) {l : List D} (w : Well l) {n : Nat} (h2 : 2 ≤ n) (hn : n ≤ 60) {f : List Int} (hf : RowB n 61 f) (s5 s6 : Sl) : ∃ (l' : List D) (s7 s10 : Sl), evS N (tabT tb__law_is_nothing kt0 gl0) (r14 l n f (due f) (undue f) s5 s6 .u .u) ri_11 = some (.nx (r14 l' n f (due f) (undue f) s5 s6 s7 s10)) ∧ Well l' := by
  obtain ⟨ρ', e, l', s7, s10, rfl, w'⟩ := evFor_inv (f := fun x ρ1 => (bindT ρ1 (.nm 7) x).bind fun ρ2 => evSs N (tabT tb__law_is_nothing kt0 gl0) ρ2 ri_11b) (Q := fun ρ => ∃ (l' : List D) (s7 s10 : Sl), ρ = r14 l' n f (due f) (undue f) s5 s6 s7 s10 ∧ Well l') (xs := (dvs n).map .int) (ρ := r14 l n f (due f) (undue f) s5 s6 .u .u) (fun x hx ρ ⟨l', s7, s10, hρ, w'⟩ => by
    subst hρ
    obtain ⟨y, hy, rfl⟩ := List.mem_map.mp hx
    have hq := mem_dvs.mp hy
    obtain ⟨p, rfl⟩ : ∃ p : Nat, y = p := ⟨y.toNat, by omega⟩
    obtain ⟨l3, h, e3, w3⟩ := ri_b11 N w' h2 hn hf hy s5 s6 s10
    have st : ((bindT (r14 l' n f (due f) (undue f) s5 s6 s7 s10) (.nm 7) (.int p)).bind fun ρ2 => evSs N (tabT tb__law_is_nothing kt0 gl0) ρ2 ri_11b) = some (.nx (r14 l3 n f (due f) (undue f) s5 s6 (.v (.int p)) (.v (.int h)))) := for_step (ρ := r14 l' n f (due f) (undue f) s5 s6 s7 s10) (i := 7) (by unfold r14; simp) e3
    exact ⟨_, st, l3, _, _, rfl, w3⟩) ⟨l, _, _, rfl, w⟩
  exact ⟨l', s7, s10, for_ok rfl e, w'⟩
theorem ri_b12 (N : Nat) {l : List D} (w : Well l) {n : Nat} (h2 : 2 ≤ n) (hn : n ≤ 60) {f : List Int} (hf : RowB n 61 f) (s5 s6 s7 s10 : Sl) :
    ∃ (l' : List D) (h : Int), evSs N (tabT tb__law_is_nothing kt0 gl0) (r14 l n f (due f) (undue f) s5 s6 s7 s10) ri_12b = some (.nx (r14 l' n f (due f) (undue f) s5 s6 s7 (.v (.int h)))) ∧ Well l' := by
  have hl := hf.1
  obtain ⟨h, l1, e1, w1, _⟩ := v_number w
  have hv := v_is_there (f := f) (by omega) (by omega) hf.2 (by decide) h
  have hin := ord_dvs (n := n) (by omega) h
  refine ⟨l1, h, ss_nx (ρ1 := r14 l1 n f (due f) (undue f) s5 s6 s7 (.v (.int h))) (asg_ok (calW t_rRn (r := []) rfl rfl rfl e1) rfl) (ss_nx (if_no (cmpT_ok (x := .val (.bool (!zb (ordN n h) f))) (y := .val (.bool (!zb (ordN n h) f))) (cmpE_ok (x := .val (.int (ordN n h))) (y := .slot 8) (calPn t_rRo (ops := [.slot 1, .slot 10]) rfl rfl rfl rfl (v_order_of h2 hn h)) rfl rfl rfl ?_) (calPn t_rRi (ops := [.slot 2, .slot 10]) rfl rfl rfl rfl ?_) rfl rfl (ne_bool _))) rfl), w1⟩
  · rw [← hl] at hin ⊢
    unfold tupI
    rw [in_tup, in_due hin]
  · rw [hl] at hv
    exact hv
theorem ri_e12 (N : Nat) {l : List D} (w : Well l) {n : Nat} (h2 : 2 ≤ n) (hn : n ≤ 60) {f : List Int} (hf : RowB n 61 f) (s5₀ s6 s7₀ s10₀ : Sl) : ∃ (l' : List D) (s5 s7 s10 : Sl), evS N (tabT tb__law_is_nothing kt0 gl0) (r14 l n f (due f) (undue f) s5₀ s6 s7₀ s10₀) ri_12 = some (.nx (r14 l' n f (due f) (undue f) s5 s6 s7 s10)) ∧ Well l' := by
  obtain ⟨ρ', e, l', s5, s7, s10, rfl, w'⟩ := evFor_inv (f := fun x ρ1 => (bindT ρ1 (.nm 5) x).bind fun ρ2 => evSs N (tabT tb__law_is_nothing kt0 gl0) ρ2 ri_12b) (Q := fun ρ => ∃ (l' : List D) (s5 s7 s10 : Sl), ρ = r14 l' n f (due f) (undue f) s5 s6 s7 s10 ∧ Well l') (xs := rngD 0 4) (ρ := r14 l n f (due f) (undue f) s5₀ s6 s7₀ s10₀) (fun x hx ρ ⟨l', s5, s7, s10, hρ, w'⟩ => by
    subst hρ
    obtain ⟨l3, h, e3, w3⟩ := ri_b12 N w' h2 hn hf (.v x) s6 s7 s10
    have st : ((bindT (r14 l' n f (due f) (undue f) s5 s6 s7 s10) (.nm 5) x).bind fun ρ2 => evSs N (tabT tb__law_is_nothing kt0 gl0) ρ2 ri_12b) = some (.nx (r14 l3 n f (due f) (undue f) (.v x) s6 s7 (.v (.int h)))) := for_step (ρ := r14 l' n f (due f) (undue f) s5 s6 s7 s10) (i := 5) (by unfold r14; simp) e3
    exact ⟨_, st, l3, _, _, _, rfl, w3⟩) ⟨l, _, _, _, rfl, w⟩
  have hit : evIt (tabT tb__law_is_nothing kt0 gl0) (r14 l n f (due f) (undue f) s5₀ s6 s7₀ s10₀) (.r1 (.cst (.int 4))) = some (rngD 0 4, r14 l n f (due f) (undue f) s5₀ s6 s7₀ s10₀) := it_r1e (j := 4) (o := .val (.int 4)) cst_i rfl (rng_ok (by decide) (by decide))
  exact ⟨l', s5, s7, s10, for_ok hit e, w'⟩
theorem v_right {l : List D} (w : Well l) : ∃ l', f__law_right l [] = some (.bool true, l') := by
  obtain ⟨n, l1, e1, w1, h2, hn⟩ := v_slots w
  obtain ⟨l2, row, s, e2, w2, hs, hr⟩ := ri_e2 100000 w1 h2 hn
  obtain ⟨l3, f, e3, w3, hf⟩ := ri_e3 100000 w2 h2 hn hr hs
  obtain ⟨t, l4, e4, w4, _⟩ := v_number w3
  obtain ⟨s6, e10⟩ := ri_e10 100000 (l := l4) h2 hn hf t
  obtain ⟨l5, s7, s10, e11, w5⟩ := ri_e11 100000 w4 h2 hn hf (.v (.int t)) s6
  obtain ⟨l6, s5', s7', s10', e12, w6⟩ := ri_e12 100000 w5 h2 hn hf (.v (.int t)) s6 s7 s10
  refine ⟨l6, ?_⟩
  unfold f__law_right
  rw [ri__is]
  unfold ri_
  refine runW_ok (r := [.v (.int n), .v (tupI f), .v (.list ((dvs n).map .int)), .o false ((due f).map .int), s5', s6, s7', .v (tupI (due f)), .v (tupI (undue f)), s10']) (ss_nx (ρ1 := [.o true l1, .v (.int n), .u, .u, .u, .u, .u, .u, .u, .u, .u]) (asg_ok (calW t_rRS (r := []) rfl rfl rfl e1) rfl) ?_)
  refine ss_nx e2 (ss_nx e3 (ss_nx (ri_e4 _ h2 hn hf) (ss_nx (ri_e5 _ h2 hn _ _ _) (ss_nx (ri_e6 _ h2 hn hf _ _) (ss_nx (ri_e7 _ h2 hn hf) (ss_nx (ri_e8 _ h2 hf) ?_))))))
  refine ss_nx (ρ1 := r14 l4 n f (due f) (undue f) (.v (.int t)) .u .u .u) (asg_ok (calW t_rRn (r := []) rfl rfl rfl e4) rfl) ?_
  exact ss_nx e10 (ss_nx e11 (ss_nx e12 (ss_rt (ret_ok (o := .val (.bool true)) rfl rfl))))
theorem math2 (ns : List Int) : f_law [.list (ns.map .int)] = some (.bool true) := math_of (fun l w => v_right w) ns
end Ev

namespace Ev
open PySem in
theorem math (ns : List Int) (_ : ns.length ≤ 63) (_ : ∀ k ∈ ns, Builtin.Int.intBits k ≤ 1048576) : f_law [.list (ns.map .int)] = some (.bool true) := math2 ns
end Ev
open PySem PySem.W PyProof.Rows
set_option maxHeartbeats 0 in
theorem PySem.Challenge.cw_slotstars_k14_whole_orders_there_and_gon_holds : PySem.Challenge.rw_slotstars_k14_whole_orders_there_and_gon.Holds := by
  w_on; o_law; k_head; (case hw => w_witness2)
  k_fill
  refine Ev.walkGT (l := PySem.Challenge.rw_slotstars_k14_whole_orders_there_and_gon) (n := 63) (k := 84) (x := "_law_script") (f := Ev.f_law) ["are_wholes", "divisors_of", "has_order", "orders_there", "orders_gone", "scaled_row"] (by decide +kernel) rfl (by decide) rfl ⟨rfl, by decide, by decide⟩ (fun w h Y => PySem.W.kIn_of Y) ?F (fun ns hl hb => Ev.math ns hl hb)
  case F =>
    intro w mg fa h KX G hmg K' cs tx KX' up upc
    refine' Ev.all_mk KX' hmg (up _ _ (Ev.got_mk KX G ?a0 ?l0 ?c0 ?k0)) (up _ _ (Ev.got_mk KX G ?a1 ?l1 ?c1 ?k1)) (up _ _ (Ev.got_mk KX G ?a2 ?l2 ?c2 ?k2)) (up _ _ (Ev.got_mk KX G ?a3 ?l3 ?c3 ?k3)) (up _ _ (Ev.got_mk KX G ?a4 ?l4 ?c4 ?k4)) (up _ _ (Ev.got_mk KX G ?a5 ?l5 ?c5 ?k5)) (up _ _ (Ev.got_mk KX G ?a6 ?l6 ?c6 ?k6)) (up _ _ (Ev.got_mk KX G ?a7 ?l7 ?c7 ?k7)) (up _ _ (Ev.got_mk KX G ?a8 ?l8 ?c8 ?k8)) (up _ _ (Ev.got_mk KX G ?a9 ?l9 ?c9 ?k9)) (up _ _ (Ev.got_mk KX G ?a10 ?l10 ?c10 ?k10)) (up _ _ (Ev.got_mk KX G ?a11 ?l11 ?c11 ?k11)) (up _ _ (Ev.got_mk KX G ?a12 ?l12 ?c12 ?k12)) (up _ _ (Ev.got_mk KX G ?a13 ?l13 ?c13 ?k13)) (up _ _ (Ev.got_mk KX G ?a14 ?l14 ?c14 ?k14)) (up _ _ (Ev.got_mk KX G ?a15 ?l15 ?c15 ?k15)) (up _ _ (Ev.got_mk KX G ?a16 ?l16 ?c16 ?k16)) (up _ _ (Ev.got_mk KX G ?a17 ?l17 ?c17 ?k17)) (up _ _ (Ev.got_mk KX G ?a18 ?l18 ?c18 ?k18)) (up _ _ (Ev.got_mk KX G ?a19 ?l19 ?c19 ?k19)) (up _ _ (Ev.got_mk KX G ?a20 ?l20 ?c20 ?k20)) (up _ _ (Ev.got_mk KX G ?a21 ?l21 ?c21 ?k21)) (up _ _ (Ev.got_mk KX G ?a22 ?l22 ?c22 ?k22)) (up _ _ (Ev.got_mk KX G ?a23 ?l23 ?c23 ?k23)) (up _ _ (Ev.got_mk KX G ?a24 ?l24 ?c24 ?k24)) (up _ _ (Ev.got_mk KX G ?a25 ?l25 ?c25 ?k25)) (up _ _ (Ev.got_mk KX G ?a26 ?l26 ?c26 ?k26)) (up _ _ (Ev.got_mk KX G ?a27 ?l27 ?c27 ?k27)) (up _ _ (Ev.got_mk KX G ?a28 ?l28 ?c28 ?k28)) (up _ _ (Ev.got_mk KX G ?a29 ?l29 ?c29 ?k29)) (up _ _ (Ev.got_mk KX G ?a30 ?l30 ?c30 ?k30)) (up _ _ (Ev.got_mk KX G ?a31 ?l31 ?c31 ?k31)) (up _ _ (Ev.got_mk KX G ?a32 ?l32 ?c32 ?k32)) (up _ _ (Ev.got_mk KX G ?a33 ?l33 ?c33 ?k33)) (up _ _ (Ev.got_mk KX G ?a34 ?l34 ?c34 ?k34)) (PySem.W.mg_none_of KX G ?z0) (PySem.W.mg_none_of KX G ?z1) (PySem.W.mg_none_of KX G ?z2) (PySem.W.mg_none_of KX G ?z3) (PySem.W.mg_none_of KX G ?z4) (PySem.W.mg_none_of KX G ?z5) (PySem.W.mg_none_of KX G ?z6) (PySem.W.mg_none_of KX G ?z7) (PySem.W.mg_none_of KX G ?z8) (PySem.W.mg_none_of KX G ?z9) (PySem.W.mg_none_of KX G ?z10) (PySem.W.mg_none_of KX G ?z11) (PySem.W.mg_none_of KX G ?z12) (PySem.W.mg_none_of KX G ?z13) (PySem.W.mg_none_of KX G ?z14) (PySem.W.mg_none_of KX G ?z15) (PySem.W.mg_none_of KX G ?z16) (PySem.W.mg_none_of KX G ?z17) (PySem.W.mg_none_of KX G ?z18) (PySem.W.mg_none_of KX G ?z19) (PySem.W.mg_none_of KX G ?z20) (Ev.con_mk KX G ?d0 ?e0) (Ev.con_mk KX G ?d1 ?e1) (PySem.W.mg_of KX G ?m0) tx
    (case a0 => k_is); (case l0 => k_is); (case c0 => k_is); (case k0 => k_is); (case a1 => k_is); (case l1 => k_is); (case c1 => k_is); (case k1 => k_is); (case a2 => k_is); (case l2 => k_is); (case c2 => k_is); (case k2 => k_is); (case a3 => k_is); (case l3 => k_is); (case c3 => k_is); (case k3 => k_is); (case a4 => k_is); (case l4 => k_is); (case c4 => k_is); (case k4 => k_is); (case a5 => k_is); (case l5 => k_is); (case c5 => k_is); (case k5 => k_is); (case a6 => k_is); (case l6 => k_is); (case c6 => k_is); (case k6 => k_is); (case a7 => k_is); (case l7 => k_is); (case c7 => k_is); (case k7 => k_is); (case a8 => k_is); (case l8 => k_is); (case c8 => k_is); (case k8 => k_is); (case a9 => k_is); (case l9 => k_is); (case c9 => k_is); (case k9 => k_is); (case a10 => k_is); (case l10 => k_is); (case c10 => k_is); (case k10 => k_is); (case a11 => k_is); (case l11 => k_is); (case c11 => k_is); (case k11 => k_is); (case a12 => k_is); (case l12 => k_is); (case c12 => k_is); (case k12 => k_is); (case a13 => k_is); (case l13 => k_is); (case c13 => k_is); (case k13 => k_is); (case a14 => k_is); (case l14 => k_is); (case c14 => k_is); (case k14 => k_is); (case a15 => k_is); (case l15 => k_is); (case c15 => k_is); (case k15 => k_is); (case a16 => k_is); (case l16 => k_is); (case c16 => k_is); (case k16 => k_is); (case a17 => k_is); (case l17 => k_is); (case c17 => k_is); (case k17 => k_is); (case a18 => k_is); (case l18 => k_is); (case c18 => k_is); (case k18 => k_is); (case a19 => k_is); (case l19 => k_is); (case c19 => k_is); (case k19 => k_is); (case a20 => k_is); (case l20 => k_is); (case c20 => k_is); (case k20 => k_is); (case a21 => k_is); (case l21 => k_is); (case c21 => k_is); (case k21 => k_is); (case a22 => k_is); (case l22 => k_is); (case c22 => k_is); (case k22 => k_is); (case a23 => k_is); (case l23 => k_is); (case c23 => k_is); (case k23 => k_is); (case a24 => k_is); (case l24 => k_is); (case c24 => k_is); (case k24 => k_is); (case a25 => k_is); (case l25 => k_is); (case c25 => k_is); (case k25 => k_is); (case a26 => k_is); (case l26 => k_is); (case c26 => k_is); (case k26 => k_is); (case a27 => k_is); (case l27 => k_is); (case c27 => k_is); (case k27 => k_is); (case a28 => k_is); (case l28 => k_is); (case c28 => k_is); (case k28 => k_is); (case a29 => k_is); (case l29 => k_is); (case c29 => k_is); (case k29 => k_is); (case a30 => k_is); (case l30 => k_is); (case c30 => k_is); (case k30 => k_is); (case a31 => k_is); (case l31 => k_is); (case c31 => k_is); (case k31 => k_is); (case a32 => k_is); (case l32 => k_is); (case c32 => k_is); (case k32 => k_is); (case a33 => k_is); (case l33 => k_is); (case c33 => k_is); (case k33 => k_is); (case a34 => k_is); (case l34 => k_is); (case c34 => k_is); (case k34 => k_is); (case z0 => k_is); (case z1 => k_is); (case z2 => k_is); (case z3 => k_is); (case z4 => k_is); (case z5 => k_is); (case z6 => k_is); (case z7 => k_is); (case z8 => k_is); (case z9 => k_is); (case z10 => k_is); (case z11 => k_is); (case z12 => k_is); (case z13 => k_is); (case z14 => k_is); (case z15 => k_is); (case z16 => k_is); (case z17 => k_is); (case z18 => k_is); (case z19 => k_is); (case z20 => k_is); (case d0 => k_is); (case e0 => rfl); (case d1 => k_is); (case e1 => rfl); (case m0 => k_is)
