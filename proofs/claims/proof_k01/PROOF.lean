import PyProof.Rows.All
import Wide.All
import OpenK.AllK
import Wide.FinOn
import HandS.ForMost
import HandS.AnyAll
import HandS.IsInst
import HandS.FStr
import HandS.Wide
import HandS.EndTab
import KE.DatumOrd
import HandS.Style
import HandS.TupAny
import HandS.Codes
import HandS.HeadHook4
import HandS.HeadWalk
import HandS.Head2
import HandS.Defaults
import PySem.Challenge.RW_everytarget_k01_values_and_depths
set_option Elab.async false
set_option maxRecDepth 100000
set_option linter.all false
set_option maxHeartbeats 4000000
/-! FL1: a def's body as a function of data: the state, expressions, statements. -/
namespace FL
open PySem PySem.Spec PyProof.Rows L2

abbrev D := PyData
/-- what is known of a slot: nothing, a datum that never changes, a list that the slot alone holds -/
inductive En where
  | no
  | fz (d : D)
  | ow (ds : List D)

/-! ### data that stay -/
mutual
theorem dp_mono {K : PySem.W.Frag} {H H' : Hp} (e : Same H H') : ∀ (d : D) (v : V), Dp K H v d → Dp K H' v d
  | .none, _, h => by cases h; exact .non
  | .bool b, _, h => by cases h; exact .bl b
  | .int i, _, h => by cases h; exact .int i
  | .str x, _, h => by cases h; exact .str x
  | .list ds, _, h => by
    cases h with
    | lst hs ha => exact .lst (e.seq hs) (dpAll_mono e ds _ ha)
  | .tuple ds, _, h => by
    cases h with
    | tup hs ha =>
      refine .tup ?_ (dpAll_mono e ds _ ha)
      rcases hs with (h | ⟨o, h⟩) | h
      · exact .inl (.inl (e _ _ h))
      · exact .inl (.inr ⟨o, e _ _ h⟩)
      · exact .inr h
  | .dict _, _, h => by cases h
theorem dpAll_mono {K : PySem.W.Frag} {H H' : Hp} (e : Same H H') : ∀ (ds : List D) (vs : List V), DpAll K H vs ds → DpAll K H' vs ds
  | [], _, h => by cases h; exact .nil
  | d :: ds, _, h => by
    cases h with
    | cons h1 h2 => exact .cons (dp_mono e d _ h1) (dpAll_mono e ds _ h2)
end
theorem dpAll_len {K : PySem.W.Frag} {H : Hp} : ∀ {ds : List D} {vs : List V}, DpAll K H vs ds → vs.length = ds.length
  | [], _, h => by cases h; rfl
  | _ :: _, _, h => by
    cases h with
    | cons h1 h2 => simp [dpAll_len h2]
theorem dpAll_get {K : PySem.W.Frag} {H : Hp} : ∀ {ds : List D} {vs : List V} {i : Nat} {v : V}, DpAll K H vs ds → vs[i]? = some v → ∃ d, ds[i]? = some d ∧ Dp K H v d
  | [], _, i, v, h, e => by cases h; simp at e
  | _ :: _, _, 0, v, h, e => by
    cases h with
    | cons h1 h2 => simp at e; subst e; exact ⟨_, rfl, h1⟩
  | _ :: _, _, i + 1, v, h, e => by
    cases h with
    | cons h1 h2 =>
      obtain ⟨d, a, b⟩ := dpAll_get (i := i) h2 (by simpa using e)
      exact ⟨d, by simpa using a, b⟩
theorem dpAll_get' {K : PySem.W.Frag} {H : Hp} {ds : List D} {vs : List V} {i : Nat} {d : D} (h : DpAll K H vs ds) (e : ds[i]? = some d) : ∃ v, vs[i]? = some v ∧ Dp K H v d := by
  have hl := dpAll_len h
  have hi : i < vs.length := by
    have := (List.getElem?_eq_some_iff.mp e).1
    omega
  obtain ⟨d', a, b⟩ := dpAll_get h (List.getElem?_eq_getElem hi)
  rw [e] at a
  cases a
  exact ⟨_, List.getElem?_eq_getElem hi, b⟩
theorem dpAll_app {K : PySem.W.Frag} {H : Hp} : ∀ {ds es : List D} {vs ws : List V}, DpAll K H vs ds → DpAll K H ws es → DpAll K H (vs ++ ws) (ds ++ es)
  | [], _, _, _, h, k => by cases h; exact k
  | _ :: _, _, _, _, h, k => by
    cases h with
    | cons h1 h2 => exact .cons h1 (dpAll_app h2 k)

/-! ### the state -/
/-- F, the frozen part; H, all that is tracked; F0, H0: the same at the entry; Ps: the tables -/
structure Ok (Ps : List Addr) (F0 H0 F H : Hp) : Prop where
  sub : Same F H
  grow : Same F0 F
  new : ∀ a, F a ≠ none → F0 a ≠ none ∨ H0 a = none
  ext : ∀ a o, H0 a = some o → a ∉ Ps → H a = some o
  tab : ∀ p ∈ Ps, GxR.TabG H p
  fno : ∀ p ∈ Ps, F p = none
theorem Ok.refl {Ps F0 H0 F H} (h : Ok Ps F0 H0 F H) : Ok Ps F H F H := ⟨h.sub, Same.refl _, fun _ h => .inl h, fun _ _ e _ => e, h.tab, h.fno⟩
theorem Ok.trans {Ps F0 H0 F1 H1 F2 H2} (a : Ok Ps F0 H0 F1 H1) (b : Ok Ps F1 H1 F2 H2) : Ok Ps F0 H0 F2 H2 where
  sub := b.sub
  grow := a.grow.trans b.grow
  new := fun x h => by
    rcases b.new x h with h | h
    · exact a.new x h
    · refine .inr ?_
      cases q : H0 x with
      | none => rfl
      | some o =>
        by_cases hp : x ∈ Ps
        · obtain ⟨ps, e, _⟩ := a.tab x hp
          rw [h] at e
          cases e
        · rw [a.ext x o q hp] at h
          cases h
  ext := fun x o e hp => b.ext x o (a.ext x o e hp) hp
  tab := b.tab
  fno := b.fno
/-- a new object, frozen at once -/
theorem Ok.new_fz {Ps F0 H0 F H} (h : Ok Ps F0 H0 F H) {p : Addr} (hp : H p = none) (o : HO) : Ok Ps F H (upd F p o) (upd H p o) where
  sub := fun a u e => by
    by_cases q : a = p
    · subst q; rw [upd_same] at e ⊢; exact e
    · rw [upd_ne q] at e ⊢; exact h.sub a u e
  grow := fun a u e => by
    have q : a ≠ p := fun z => by subst z; rw [h.sub a u e] at hp; cases hp
    rw [upd_ne q]; exact e
  new := fun a e => by
    by_cases q : a = p
    · subst q; exact .inr hp
    · rw [upd_ne q] at e; exact .inl e
  ext := fun a u e _ => by
    have q : a ≠ p := fun z => by subst z; rw [e] at hp; cases hp
    rw [upd_ne q]; exact e
  tab := fun q hq => by
    obtain ⟨ps, e, t⟩ := h.tab q hq
    exact ⟨ps, by rw [upd_ne (ne_of_none e hp)]; exact e, t⟩
  fno := fun q hq => by
    obtain ⟨ps, e, t⟩ := h.tab q hq
    rw [upd_ne (ne_of_none e hp)]; exact h.fno q hq
/-- a new object, not frozen -/
theorem Ok.new_ow {Ps F0 H0 F H} (h : Ok Ps F0 H0 F H) {p : Addr} (hp : H p = none) (o : HO) : Ok Ps F H F (upd H p o) where
  sub := fun a u e => by
    have q : a ≠ p := fun z => by subst z; rw [h.sub a u e] at hp; cases hp
    rw [upd_ne q]; exact h.sub a u e
  grow := Same.refl _
  new := fun a e => .inl e
  ext := fun a u e _ => by
    have q : a ≠ p := fun z => by subst z; rw [e] at hp; cases hp
    rw [upd_ne q]; exact e
  tab := fun q hq => by
    obtain ⟨ps, e, t⟩ := h.tab q hq
    exact ⟨ps, by rw [upd_ne (ne_of_none e hp)]; exact e, t⟩
  fno := h.fno
theorem fno_new {Ps F0 H0 F H} (h : Ok Ps F0 H0 F H) {p : Addr} (hp : H p = none) : F p = none := h.sub.free hp

/-- a list that neither the entry nor the frozen part knows is changed -/
theorem Ok.mut {Ps F0 H0 F H} (h : Ok Ps F0 H0 F H) {a : Addr} {xs ys : List V} (h0 : H0 a = none) (f0 : F a = none) (e : H a = some (.lst xs)) : Ok Ps F0 H0 F (upd H a (.lst ys)) where
  sub := fun b o q => by
    have z : b ≠ a := fun z => by subst z; rw [f0] at q; cases q
    rw [upd_ne z]; exact h.sub b o q
  grow := h.grow
  new := h.new
  ext := fun b o q hp => by
    have z : b ≠ a := fun z => by subst z; rw [h0] at q; cases q
    rw [upd_ne z]; exact h.ext b o q hp
  tab := fun p hp => by
    obtain ⟨ps, e3, t⟩ := h.tab p hp
    refine ⟨ps, ?_, t⟩
    have z : p ≠ a := fun z => by subst z; rw [e] at e3; cases e3
    rw [upd_ne z]; exact e3
  fno := h.fno
/-- what is not known at the entry and not frozen stays so -/
theorem Ok.keepO {Ps F0 H0 F H F' H'} (h : Ok Ps F0 H0 F H) (m : Ok Ps F H F' H') {a : Addr} {xs : List V} (f0 : F a = none) (e : H a = some (.lst xs)) : F' a = none ∧ H' a = some (.lst xs) := by
  refine ⟨?_, m.ext a _ e fun hp => ?_⟩
  · cases q : F' a with
    | none => rfl
    | some o =>
      rcases m.new a (by rw [q]; simp) with z | z
      · exact absurd f0 z
      · rw [e] at z; cases z
  · obtain ⟨ps, e3, _⟩ := h.tab a hp
    rw [e] at e3; cases e3

def SlotOk (K : PySem.W.Frag) (H0 F H : Hp) (s : Option V) : En → Prop
  | .no => True
  | .fz d => ∃ v, s = some v ∧ Dp K F v d
  | .ow ds => ∃ a vs, s = some (.ref a) ∧ H0 a = none ∧ F a = none ∧ H a = some (.lst vs) ∧ DpAll K F vs ds

structure EnvOk (K : PySem.W.Frag) (Ps : List Addr) (F0 H0 F H : Hp) (σ : L2.St) (ρ : List En) : Prop where
  ok : Ok Ps F0 H0 F H
  len : σ.length = ρ.length
  slot : ∀ (i : Nat) s e, σ[i]? = some s → ρ[i]? = some e → SlotOk K H0 F H s e
  dis : ∀ (i j : Nat) ds es a, ρ[i]? = some (.ow ds) → ρ[j]? = some (.ow es) → σ[i]? = some (some (.ref a)) → σ[j]? = some (some (.ref a)) → i = j
section
variable {K : PySem.W.Frag} {Ps : List Addr} {F0 H0 F H F' H' : Hp} {σ : L2.St} {ρ : List En}
theorem EnvOk.move (h : EnvOk K Ps F0 H0 F H σ ρ) (m : Ok Ps F H F' H') : EnvOk K Ps F0 H0 F' H' σ ρ where
  ok := h.ok.trans m
  len := h.len
  dis := h.dis
  slot := fun i s e hs he => by
    have q := h.slot i s e hs he
    cases e with
    | no => exact True.intro
    | fz d =>
      obtain ⟨v, e1, d1⟩ := q
      exact ⟨v, e1, dp_mono m.grow d v d1⟩
    | ow ds =>
      obtain ⟨a, vs, e1, h0, f0, e2, d1⟩ := q
      refine ⟨a, vs, e1, h0, ?_, m.ext a _ e2 (fun hp => ?_), dpAll_mono m.grow ds vs d1⟩
      · cases q : F' a with
        | none => rfl
        | some o =>
          rcases m.new a (by rw [q]; simp) with z | z
          · exact absurd f0 z
          · rw [e2] at z; cases z
      · obtain ⟨ps, e3, _⟩ := h.ok.tab a hp
        rw [e2] at e3; cases e3
theorem EnvOk.get (h : EnvOk K Ps F0 H0 F H σ ρ) {i : Nat} {d : D} (e : ρ[i]? = some (.fz d)) : ∃ v, σ[i]? = some (some v) ∧ Dp K F v d := by
  have hi : i < σ.length := by rw [h.len]; exact (List.getElem?_eq_some_iff.mp e).1
  obtain ⟨v, e1, d1⟩ := h.slot i _ _ (List.getElem?_eq_getElem hi) e
  exact ⟨v, by rw [List.getElem?_eq_getElem hi, e1], d1⟩
theorem EnvOk.getO (h : EnvOk K Ps F0 H0 F H σ ρ) {i : Nat} {ds : List D} (e : ρ[i]? = some (.ow ds)) : ∃ a vs, σ[i]? = some (some (.ref a)) ∧ H0 a = none ∧ F a = none ∧ H a = some (.lst vs) ∧ DpAll K F vs ds := by
  have hi : i < σ.length := by rw [h.len]; exact (List.getElem?_eq_some_iff.mp e).1
  obtain ⟨a, vs, e1, r⟩ := h.slot i _ _ (List.getElem?_eq_getElem hi) e
  exact ⟨a, vs, by rw [List.getElem?_eq_getElem hi, e1], r⟩
/-- a slot is stored: a datum -/
theorem EnvOk.set (h : EnvOk K Ps F0 H0 F H σ ρ) {i : Nat} {v : V} {d : D} (hd : Dp K F v d) : EnvOk K Ps F0 H0 F H (σ.set i (some v)) (ρ.set i (.fz d)) where
  ok := h.ok
  len := by simp [h.len]
  slot := fun j s e hs he => by
    by_cases q : i = j
    · subst q
      have hi : i < σ.length := by
        have := (List.getElem?_eq_some_iff.mp hs).1
        simpa using this
      rw [List.getElem?_set_self hi] at hs
      rw [List.getElem?_set_self (by rw [← h.len]; exact hi)] at he
      cases hs
      cases he
      exact ⟨v, rfl, hd⟩
    · rw [List.getElem?_set_ne q] at hs he
      exact h.slot j s e hs he
  dis := fun j k ds es a h1 h2 h3 h4 => by
    have nj : i ≠ j := fun z => by
      subst z
      have hi : i < ρ.length := by
        have := (List.getElem?_eq_some_iff.mp h1).1
        simpa using this
      rw [List.getElem?_set_self hi] at h1
      cases h1
    have nk : i ≠ k := fun z => by
      subst z
      have hi : i < ρ.length := by
        have := (List.getElem?_eq_some_iff.mp h2).1
        simpa using this
      rw [List.getElem?_set_self hi] at h2
      cases h2
    rw [List.getElem?_set_ne nj] at h1 h3
    rw [List.getElem?_set_ne nk] at h2 h4
    exact h.dis j k ds es a h1 h2 h3 h4
/-- a slot is stored: a new list of its own -/
theorem Ok.none0 {Ps F0 H0 F H} (h : Ok Ps F0 H0 F H) {a : Addr} (hn : H a = none) : H0 a = none := by
  cases q : H0 a with
  | none => rfl
  | some o =>
    by_cases hp : a ∈ Ps
    · obtain ⟨ps, e, _⟩ := h.tab a hp
      rw [hn] at e; cases e
    · rw [h.ext a o q hp] at hn; cases hn
theorem EnvOk.setO (h : EnvOk K Ps F0 H0 F H σ ρ) (mv : Ok Ps F H F' H') {i : Nat} {a : Addr} {vs : List V} {ds : List D} (hn : H a = none) (hf : F' a = none) (ha : H' a = some (.lst vs)) (hd : DpAll K F' vs ds) :
    EnvOk K Ps F0 H0 F' H' (σ.set i (some (.ref a))) (ρ.set i (.ow ds)) := by
  have h0 : H0 a = none := h.ok.none0 hn
  have m := h.move mv
  have other : ∀ (j : Nat) es b, ρ[j]? = some (.ow es) → σ[j]? = some (some (.ref b)) → b ≠ a := fun j es b h1 h2 z => by
    subst z
    obtain ⟨c, ws, e1, _, _, e2, _⟩ := h.getO h1
    rw [h2] at e1
    cases e1
    rw [hn] at e2; cases e2
  refine ⟨m.ok, by simp [h.len], fun j s e hs he => ?_, fun j k es es' b h1 h2 h3 h4 => ?_⟩
  · by_cases q : i = j
    · subst q
      have hi : i < σ.length := by
        have := (List.getElem?_eq_some_iff.mp hs).1
        simpa using this
      rw [List.getElem?_set_self hi] at hs
      rw [List.getElem?_set_self (by rw [← h.len]; exact hi)] at he
      cases hs
      cases he
      exact ⟨a, vs, rfl, h0, hf, ha, hd⟩
    · rw [List.getElem?_set_ne q] at hs he
      exact m.slot j s e hs he
  · by_cases qj : i = j
    · by_cases qk : i = k
      · exact qj.symm.trans qk
      · subst qj
        have hi : i < ρ.length := by
          have := (List.getElem?_eq_some_iff.mp h1).1
          simpa using this
        rw [List.getElem?_set_self (by rw [h.len]; exact hi)] at h3
        cases h3
        rw [List.getElem?_set_ne qk] at h2 h4
        exact absurd rfl (other k es' a h2 h4)
    · by_cases qk : i = k
      · subst qk
        have hi : i < ρ.length := by
          have := (List.getElem?_eq_some_iff.mp h2).1
          simpa using this
        rw [List.getElem?_set_self (by rw [h.len]; exact hi)] at h4
        cases h4
        rw [List.getElem?_set_ne qj] at h1 h3
        exact absurd rfl (other j es a h1 h3)
      · rw [List.getElem?_set_ne qj] at h1 h3
        rw [List.getElem?_set_ne qk] at h2 h4
        exact h.dis j k es es' b h1 h2 h3 h4
/-- the list that slot i alone holds is changed -/
theorem EnvOk.mut (h : EnvOk K Ps F0 H0 F H σ ρ) {i : Nat} {a : Addr} {ds0 ds : List D} {vs : List V} (e : ρ[i]? = some (.ow ds0)) (es : σ[i]? = some (some (.ref a))) (hd : DpAll K F vs ds) :
    EnvOk K Ps F0 H0 F (upd H a (.lst vs)) σ (ρ.set i (.ow ds)) := by
  obtain ⟨a', vs0, e1, h0, f0, e2, _⟩ := h.getO e
  rw [es] at e1
  cases e1
  have hi : i < ρ.length := (List.getElem?_eq_some_iff.mp e).1
  refine ⟨⟨fun b o q => ?_, h.ok.grow, h.ok.new, fun b o q hp => ?_, fun p hp => ?_, h.ok.fno⟩, by simp [h.len], fun j s en hs he => ?_, fun j k es1 es2 b h1 h2 h3 h4 => ?_⟩
  · have z : b ≠ a := fun z => by subst z; rw [f0] at q; cases q
    rw [upd_ne z]; exact h.ok.sub b o q
  · have z : b ≠ a := fun z => by subst z; rw [h0] at q; cases q
    rw [upd_ne z]; exact h.ok.ext b o q hp
  · obtain ⟨ps, e3, t⟩ := h.ok.tab p hp
    refine ⟨ps, ?_, t⟩
    have z : p ≠ a := fun z => by subst z; rw [e2] at e3; cases e3
    rw [upd_ne z]; exact e3
  · by_cases q : i = j
    · subst q
      rw [List.getElem?_set_self hi] at he
      cases he
      rw [es] at hs
      cases hs
      exact ⟨a, vs, rfl, h0, f0, upd_same, hd⟩
    · rw [List.getElem?_set_ne q] at he
      have r := h.slot j s en hs he
      cases en with
      | no => exact True.intro
      | fz d => exact r
      | ow ds' =>
        obtain ⟨b, ws, e5, h5, f5, e6, d5⟩ := r
        refine ⟨b, ws, e5, h5, f5, ?_, d5⟩
        have z : b ≠ a := fun z => by
          subst z
          rw [e5] at hs
          exact q (h.dis i j ds0 ds' b e he es hs)
        rw [upd_ne z]; exact e6
  · have aux : ∀ (m : Nat) es', (ρ.set i (.ow ds))[m]? = some (.ow es') → ∃ es'', ρ[m]? = some (.ow es'') := fun m es' hm => by
      by_cases q : i = m
      · subst q; exact ⟨_, e⟩
      · rw [List.getElem?_set_ne q] at hm; exact ⟨_, hm⟩
    obtain ⟨x1, y1⟩ := aux j es1 h1
    obtain ⟨x2, y2⟩ := aux k es2 h2
    exact h.dis j k x1 x2 b y1 y2 h3 h4
/-- the list that slot i alone holds is frozen -/
theorem EnvOk.freeze (h : EnvOk K Ps F0 H0 F H σ ρ) {i : Nat} {ds : List D} (e : ρ[i]? = some (.ow ds)) : ∃ F', Same F F' ∧ EnvOk K Ps F0 H0 F' H σ (ρ.set i (.fz (.list ds))) := by
  obtain ⟨a, vs, e1, h0, f0, e2, d1⟩ := h.getO e
  have hi : i < ρ.length := (List.getElem?_eq_some_iff.mp e).1
  have g : Same F (upd F a (.lst vs)) := fun b o q => by
    have z : b ≠ a := fun z => by subst z; rw [f0] at q; cases q
    rw [upd_ne z]; exact q
  refine ⟨upd F a (.lst vs), g, ⟨fun b o q => ?_, h.ok.grow.trans g, fun b q => ?_, h.ok.ext, h.ok.tab, fun p hp => ?_⟩, by simp [h.len], fun j s en hs he => ?_, fun j k es1 es2 b h1 h2 h3 h4 => ?_⟩
  · by_cases z : b = a
    · subst z; rw [upd_same] at q; cases q; exact e2
    · rw [upd_ne z] at q; exact h.ok.sub b o q
  · by_cases z : b = a
    · subst z; exact .inr h0
    · rw [upd_ne z] at q; exact h.ok.new b q
  · have z : p ≠ a := fun z => by
      subst z
      obtain ⟨ps, e3, t⟩ := h.ok.tab p hp
      rw [e2] at e3; cases e3
    rw [upd_ne z]; exact h.ok.fno p hp
  · by_cases q : i = j
    · subst q
      rw [List.getElem?_set_self hi] at he
      cases he
      rw [e1] at hs
      cases hs
      exact ⟨_, rfl, .lst (SqL.of upd_same) (dpAll_mono g ds vs d1)⟩
    · rw [List.getElem?_set_ne q] at he
      have r := h.slot j s en hs he
      cases en with
      | no => exact True.intro
      | fz d =>
        obtain ⟨v, e5, d5⟩ := r
        exact ⟨v, e5, dp_mono g d v d5⟩
      | ow ds' =>
        obtain ⟨b, ws, e5, h5, f5, e6, d5⟩ := r
        have z : b ≠ a := fun z => by
          subst z
          rw [e5] at hs
          exact q (h.dis i j ds ds' b e he e1 hs)
        exact ⟨b, ws, e5, h5, by rw [upd_ne z]; exact f5, e6, dpAll_mono g ds' ws d5⟩
  · have aux : ∀ (m : Nat) es', (ρ.set i (.fz (.list ds)))[m]? = some (.ow es') → ρ[m]? = some (.ow es') := fun m es' hm => by
      by_cases q : i = m
      · subst q; rw [List.getElem?_set_self hi] at hm; cases hm
      · rw [List.getElem?_set_ne q] at hm; exact hm
    exact h.dis j k es1 es2 b (aux j es1 h1) (aux k es2 h2) h3 h4
end

/-- a slot is forgotten -/
theorem EnvOk.setNo {K : PySem.W.Frag} {Ps : List Addr} {F0 H0 F H : Hp} {σ : L2.St} {ρ : List En} (h : EnvOk K Ps F0 H0 F H σ ρ) (i : Nat) : EnvOk K Ps F0 H0 F H (σ.set i none) (ρ.set i .no) where
  ok := h.ok
  len := by simp [h.len]
  slot := fun j s e hs he => by
    by_cases q : i = j
    · subst q
      have hi : i < ρ.length := by
        have := (List.getElem?_eq_some_iff.mp he).1
        simpa using this
      rw [List.getElem?_set_self hi] at he
      cases he
      exact True.intro
    · rw [List.getElem?_set_ne q] at hs he
      exact h.slot j s e hs he
  dis := fun j k ds es a h1 h2 h3 h4 => by
    have nj : ∀ (m : Nat) es', (ρ.set i .no)[m]? = some (.ow es') → i ≠ m := fun m es' hm z => by
      subst z
      have hi : i < ρ.length := by
        have := (List.getElem?_eq_some_iff.mp hm).1
        simpa using this
      rw [List.getElem?_set_self hi] at hm
      cases hm
    have a1 := nj j ds h1
    have a2 := nj k es h2
    rw [List.getElem?_set_ne a1] at h1 h3
    rw [List.getElem?_set_ne a2] at h2 h4
    exact h.dis j k ds es a h1 h2 h3 h4
def wipeR (ρ : List En) : List Nat → List En
  | [] => ρ
  | v :: vs => (wipeR ρ vs).set v .no
theorem EnvOk.wipe {K : PySem.W.Frag} {Ps : List Addr} {F0 H0 F H : Hp} {σ : L2.St} {ρ : List En} (h : EnvOk K Ps F0 H0 F H σ ρ) : ∀ vs : List Nat, EnvOk K Ps F0 H0 F H (L2.wipe σ vs) (wipeR ρ vs)
  | [] => h
  | v :: vs => (EnvOk.wipe h vs).setNo v

/-! ### readings as functions -/
abbrev Ro := List En
def SemE (K : PySem.W.Frag) (Ps : List Addr) (t : TE) (f : Ro → Option D) : Prop :=
  ∀ (F0 H0 F H : Hp) (σ : L2.St) (ρ : Ro) (d : D), EnvOk K Ps F0 H0 F H σ ρ → f ρ = some d → ∀ Q : VK, (∀ v F' H', Ok Ps F H F' H' → Dp K F' v d → Q v H') → t σ H Q
def SemT (K : PySem.W.Frag) (Ps : List Addr) (t : TT) (f : Ro → Option Bool) : Prop :=
  ∀ (F0 H0 F H : Hp) (σ : L2.St) (ρ : Ro) (b : Bool), EnvOk K Ps F0 H0 F H σ ρ → f ρ = some b → ∀ Q : Bool → Hp → Prop, (∀ F' H', Ok Ps F H F' H' → Q b H') → t σ H Q
def SemA (K : PySem.W.Frag) (Ps : List Addr) (t : TA) (f : Ro → Option (List D)) : Prop :=
  ∀ (F0 H0 F H : Hp) (σ : L2.St) (ρ : Ro) (ds : List D), EnvOk K Ps F0 H0 F H σ ρ → f ρ = some ds → ∀ Q : List V → Hp → Prop, (∀ vs F' H', Ok Ps F H F' H' → DpAll K F' vs ds → Q vs H') → t σ H Q
/-- a new list: its items -/
def SemL (K : PySem.W.Frag) (Ps : List Addr) (t : TE) (f : Ro → Option (List D)) : Prop :=
  ∀ (F0 H0 F H : Hp) (σ : L2.St) (ρ : Ro) (ds : List D), EnvOk K Ps F0 H0 F H σ ρ → f ρ = some ds → ∀ Q : VK, (∀ a vs F' H', Ok Ps F H F' H' → H a = none → F' a = none → H' a = some (.lst vs) → DpAll K F' vs ds → Q (.ref a) H') → t σ H Q
def Sem2 (K : PySem.W.Frag) (Ps : List Addr) (r : R2) (g : D → D → Option D) : Prop :=
  ∀ (F H : Hp) (x y : V) (d e z : D), Ok Ps F H F H → Dp K F x d → Dp K F y e → g d e = some z → ∀ Q : VK, (∀ v F' H', Ok Ps F H F' H' → Dp K F' v z → Q v H') → r x y H Q
def Sem1 (K : PySem.W.Frag) (Ps : List Addr) (r : V → Hp → VK → Prop) (g : D → Option D) : Prop :=
  ∀ (F H : Hp) (x : V) (d z : D), Ok Ps F H F H → Dp K F x d → g d = some z → ∀ Q : VK, (∀ v F' H', Ok Ps F H F' H' → Dp K F' v z → Q v H') → r x H Q
def SemC (K : PySem.W.Frag) (Ps : List Addr) (r : List V → Hp → VK → Prop) (g : List D → Option D) : Prop :=
  ∀ (F H : Hp) (xs : List V) (ds : List D) (z : D), Ok Ps F H F H → DpAll K F xs ds → g ds = some z → ∀ Q : VK, (∀ v F' H', Ok Ps F H F' H' → Dp K F' v z → Q v H') → r xs H Q
def SemTr (K : PySem.W.Frag) (Ps : List Addr) (r : V → Hp → (Bool → Hp → Prop) → Prop) (g : D → Option Bool) : Prop :=
  ∀ (F H : Hp) (x : V) (d : D) (b : Bool), Ok Ps F H F H → Dp K F x d → g d = some b → ∀ Q : Bool → Hp → Prop, Q b H → r x H Q

structure PD (X : Cx) (Ps : List Addr) (e : Expr) (f : Ro → Option D) : Prop where
  ex : ∃ t, PE X e t ∧ SemE X.K Ps t f
structure TD (X : Cx) (Ps : List Addr) (e : Expr) (f : Ro → Option Bool) : Prop where
  ex : ∃ t, PT X e t ∧ SemT X.K Ps t f
structure WD (X : Cx) (Ps : List Addr) (e : Expr) (f : Ro → Option Bool) : Prop where
  ex : ∃ t, PW X e t ∧ SemT X.K Ps t f
structure AD (X : Cx) (Ps : List Addr) (es : List Expr) (f : Ro → Option (List D)) : Prop where
  ex : ∃ t, PA X es t ∧ SemA X.K Ps t f
structure LD (X : Cx) (Ps : List Addr) (e : Expr) (f : Ro → Option (List D)) : Prop where
  ex : ∃ t, PE X e t ∧ SemL X.K Ps t f

/-- the one reading that stands for all -/
def cE (K : PySem.W.Frag) (Ps : List Addr) (f : Ro → Option D) : TE := fun σ H Q => ∃ F0 H0 F ρ d, EnvOk K Ps F0 H0 F H σ ρ ∧ f ρ = some d ∧ ∀ v F' H', Ok Ps F H F' H' → Dp K F' v d → Q v H'
def cT (K : PySem.W.Frag) (Ps : List Addr) (f : Ro → Option Bool) : TT := fun σ H Q => ∃ F0 H0 F ρ d, EnvOk K Ps F0 H0 F H σ ρ ∧ f ρ = some d ∧ ∀ F' H', Ok Ps F H F' H' → Q d H'
theorem PD.c {X : Cx} {Ps : List Addr} {e : Expr} {f : Ro → Option D} (h : PD X Ps e f) : PE X e (cE X.K Ps f) := by
  obtain ⟨t, p, s⟩ := h.ex
  exact ⟨fun pins s0 σ H Q I ⟨F0, H0, F, ρ, d, hE, hf, q⟩ => p.run pins s0 σ H Q I (s F0 H0 F H σ ρ d hE hf Q q)⟩
theorem cE_sem {K : PySem.W.Frag} {Ps : List Addr} {f : Ro → Option D} : SemE K Ps (cE K Ps f) f := fun F0 H0 F H σ ρ d hE hf Q q => ⟨F0, H0, F, ρ, d, hE, hf, q⟩
theorem TD.c {X : Cx} {Ps : List Addr} {e : Expr} {f : Ro → Option Bool} (h : TD X Ps e f) : PT X e (cT X.K Ps f) := by
  obtain ⟨t, p, s⟩ := h.ex
  exact ⟨fun pins s0 σ H Q I ⟨F0, H0, F, ρ, d, hE, hf, q⟩ => p.run pins s0 σ H Q I (s F0 H0 F H σ ρ d hE hf Q q)⟩
theorem cT_sem {K : PySem.W.Frag} {Ps : List Addr} {f : Ro → Option Bool} : SemT K Ps (cT K Ps f) f := fun F0 H0 F H σ ρ d hE hf Q q => ⟨F0, H0, F, ρ, d, hE, hf, q⟩

section
variable {X : Cx} {Ps : List Addr} {e a b c : Expr} {es : List Expr} {f f1 f2 : Ro → Option D} {fl : Ro → Option (List D)} {ft fu : Ro → Option Bool} {pos : Pos}
def fVar (i : Nat) : Ro → Option D := fun ρ => match ρ[i]? with | some (.fz d) => some d | _ => none
theorem pd_var (i : Nat) {x : Str} (hN : X.N[i]? = some x := by rfl) (hv : Vis X.env.scope x := by first | exact Or.inl rfl | exact Or.inr (Or.inl rfl) | exact Or.inr (Or.inr rfl)) (hd : (x == ("__debug__" : Str)) = false := by decide)
    (hcd : (x == ("__classdict__" : Str)) = false := by decide) : PD X Ps (.Name x pos) (fVar i) :=
  ⟨tVar i, pe_var hN hv hd hcd, fun F0 H0 F H σ ρ d hE hf Q q => by
    have e : ρ[i]? = some (.fz d) := by
      unfold fVar at hf
      split at hf
      · rename_i d' e; cases hf; exact e
      · cases hf
    obtain ⟨v, e1, d1⟩ := hE.get e
    exact ⟨v, e1, q v F H hE.ok.refl d1⟩⟩
theorem pd_int {i : Int} {j} : PD X Ps (.Constant (.int i) j pos) (fun _ => some (.int i)) := ⟨_, pe_int, fun F0 H0 F H σ ρ d hE hf Q q => by cases hf; exact q _ F H hE.ok.refl (.int i)⟩
theorem pd_bl {i : Bool} {j} : PD X Ps (.Constant (.bool i) j pos) (fun _ => some (.bool i)) := ⟨_, pe_bl, fun F0 H0 F H σ ρ d hE hf Q q => by cases hf; exact q _ F H hE.ok.refl (.bl i)⟩
theorem pd_non {j} : PD X Ps (.Constant .none j pos) (fun _ => some .none) := ⟨_, pe_non, fun F0 H0 F H σ ρ d hE hf Q q => by cases hf; exact q _ F H hE.ok.refl .non⟩
theorem pd_str {x : Str} {j} : PD X Ps (.Constant (.str x) j pos) (fun _ => some (.str x)) := ⟨_, pe_str, fun F0 H0 F H σ ρ d hE hf Q q => by cases hf; exact q _ F H hE.ok.refl (.str x)⟩
/-- a constant of the module: a text or a number -/
theorem pd_gstr {x z : Str} {t : Tok} (hg : Gl X x) (hm : X.mg x = some (.str z t)) (hd : (x == ("__debug__" : Str)) = false := by decide) : PD X Ps (.Name x pos) (fun _ => some (.str z)) :=
  ⟨_, pe_glob hg hm (show RelV (.str z) _ from ⟨t, rfl⟩) hd, fun F0 H0 F H σ ρ d hE hf Q q => by cases hf; exact q _ F H hE.ok.refl (.str z)⟩
theorem pd_gint {x : Str} {z : Int} {t : Tok} (hg : Gl X x) (hm : X.mg x = some (.int z t)) (hd : (x == ("__debug__" : Str)) = false := by decide) : PD X Ps (.Name x pos) (fun _ => some (.int z)) :=
  ⟨_, pe_glob hg hm (show RelV (.int z) _ from ⟨t, rfl⟩) hd, fun F0 H0 F H σ ρ d hE hf Q q => by cases hf; exact q _ F H hE.ok.refl (.int z)⟩

/-! arguments -/
theorem ad_nil : AD X Ps [] (fun _ => some []) := ⟨_, pa_nil, fun F0 H0 F H σ ρ d hE hf Q q => by cases hf; exact q [] F H hE.ok.refl .nil⟩
def fCons (f : Ro → Option D) (fl : Ro → Option (List D)) : Ro → Option (List D) := fun ρ => (f ρ).bind fun x => (fl ρ).bind fun xs => some (x :: xs)
theorem ad_cons (h : PD X Ps e f) (hr : AD X Ps es fl) (hs : starEach (e :: es) X.env = (false, eval e X.env) :: starEach es X.env := by rfl) : AD X Ps (e :: es) (fCons f fl) := by
  obtain ⟨t, p, s⟩ := h.ex
  obtain ⟨u, p2, s2⟩ := hr.ex
  refine ⟨_, pa_cons p p2 hs, fun F0 H0 F H σ ρ ds hE hf Q q => ?_⟩
  obtain ⟨x, e1, hf⟩ := Option.bind_eq_some_iff.mp hf
  obtain ⟨xs, e2, hf⟩ := Option.bind_eq_some_iff.mp hf
  cases hf
  refine s F0 H0 F H σ ρ x hE e1 _ fun v F1 H1 m1 d1 => ?_
  refine s2 F0 H0 F1 H1 σ ρ xs (hE.move m1) e2 _ fun vs F2 H2 m2 d2 => ?_
  exact q (v :: vs) F2 H2 (m1.trans m2) (.cons (dp_mono m2.grow _ _ d1) d2)

end
end FL
set_option maxHeartbeats 4000000
/-! FL2: expressions as functions of data. -/
namespace FL
open PySem PySem.Spec PyProof.Rows L2

theorem Ok.refl' {Ps F0 H0 F H} (h : Ok Ps F0 H0 F H) : Ok Ps F H F H := h.refl
theorem small_size {n : Nat} (h : n ≤ 1000000) : n ≤ sizeLine := Nat.le_trans h (by decide)

section
variable {X : Cx} {Ps : List Addr} {e a b c : Expr} {es : List Expr} {f f1 f3 : Ro → Option D} {fl : Ro → Option (List D)} {ft fu : Ro → Option Bool} {pos : Pos}

/-! ### displays -/
def mkT (ds : List D) : Option D := if ds.length ≤ 1000000 then some (.tuple ds) else none
def mkL (ds : List D) : Option (List D) := if ds.length ≤ 1000000 then some ds else none
def fTup (fl : Ro → Option (List D)) : Ro → Option D := fun ρ => (fl ρ).bind mkT
theorem pd_tup {k} (h : AD X Ps es fl) : PD X Ps (.Tuple es k pos) (fTup fl) := by
  obtain ⟨t, p, s⟩ := h.ex
  refine ⟨_, pe_tup p, fun F0 H0 F H σ ρ d hE hf Q q => ?_⟩
  obtain ⟨ds, e1, hf1⟩ := Option.bind_eq_some_iff.mp hf
  unfold mkT at hf1
  split at hf1
  · rename_i hz
    cases hf1
    refine s F0 H0 F H σ ρ ds hE e1 _ fun vs F1 H1 m1 d1 => ⟨by rw [dpAll_len d1]; exact small_size hz, fun p hp => ?_⟩
    have m2 := m1.new_fz hp (.tup vs)
    exact q _ _ _ (m1.trans m2) (.tup (.inl (.inl upd_same)) (dpAll_mono m2.grow _ _ d1))
  · cases hf1
def fLst (fl : Ro → Option (List D)) : Ro → Option (List D) := fun ρ => (fl ρ).bind mkL
theorem ld_lst (h : AD X Ps es fl) : LD X Ps (.List es pos) (fLst fl) := by
  obtain ⟨t, p, s⟩ := h.ex
  refine ⟨_, pe_lst p, fun F0 H0 F H σ ρ d hE hf Q q => ?_⟩
  obtain ⟨ds, e1, hf1⟩ := Option.bind_eq_some_iff.mp hf
  unfold mkL at hf1
  split at hf1
  · rename_i hz
    cases hf1
    refine s F0 H0 F H σ ρ _ hE e1 _ fun vs F1 H1 m1 d1 => ⟨by rw [dpAll_len d1]; exact small_size hz, fun p hp => ?_⟩
    exact q p vs F1 _ (m1.trans (m1.new_ow hp (.lst vs))) (m1.none0 hp) (fno_new m1 hp) upd_same d1
  · cases hf1
/-- a new list as a datum -/
def fL (fl : Ro → Option (List D)) : Ro → Option D := fun ρ => (fl ρ).map .list
theorem pd_ld (h : LD X Ps e fl) : PD X Ps e (fL fl) := by
  obtain ⟨t, p, s⟩ := h.ex
  refine ⟨t, p, fun F0 H0 F H σ ρ d hE hf Q q => ?_⟩
  obtain ⟨ds, e1, hf1⟩ := Option.map_eq_some_iff.mp hf
  subst hf1
  refine s F0 H0 F H σ ρ ds hE e1 _ fun a vs F1 H1 m1 hn hf ha d1 => ?_
  have g : Same F1 (upd F1 a (.lst vs)) := fun b o q => by
    have z : b ≠ a := fun z => by subst z; rw [hf] at q; cases q
    rw [upd_ne z]; exact q
  refine q _ _ _ ⟨fun b o q => ?_, m1.grow.trans g, fun b q => ?_, m1.ext, m1.tab, fun p hp => ?_⟩ (.lst (SqL.of upd_same) (dpAll_mono g _ _ d1))
  · by_cases z : b = a
    · subst z; rw [upd_same] at q; cases q; exact ha
    · rw [upd_ne z] at q; exact m1.sub b o q
  · by_cases z : b = a
    · subst z; exact .inr hn
    · rw [upd_ne z] at q; exact m1.new b q
  · have z : p ≠ a := fun z => by
      subst z
      obtain ⟨ps, e3, t⟩ := m1.tab p hp
      rw [ha] at e3; cases e3
    rw [upd_ne z]; exact m1.fno p hp

/-! ### operators, comparisons, subscripts, calls of built-ins, all by data -/
def fOp (g : D → D → Option D) (fa fb : Ro → Option D) : Ro → Option D := fun ρ => (fa ρ).bind fun x => (fb ρ).bind fun y => g x y
theorem sem2 {ta tb : TE} {r : R2} {g : D → D → Option D} (ha : SemE X.K Ps ta f1) (hb : SemE X.K Ps tb f3) (hr : Sem2 X.K Ps r g) : SemE X.K Ps (tOp r ta tb) (fOp g f1 f3) := by
  intro F0 H0 F H σ ρ d hE hf Q q
  obtain ⟨x, e1, hf1⟩ := Option.bind_eq_some_iff.mp hf
  obtain ⟨y, e2, hf2⟩ := Option.bind_eq_some_iff.mp hf1
  refine ha F0 H0 F H σ ρ x hE e1 _ fun v F1 H1 m1 d1 => ?_
  refine hb F0 H0 F1 H1 σ ρ y (hE.move m1) e2 _ fun u F2 H2 m2 d2 => ?_
  exact hr F2 H2 v u x y d (m1.trans m2).refl (dp_mono m2.grow _ _ d1) d2 hf2 Q fun z F3 H3 m3 d3 => q z F3 H3 ((m1.trans m2).trans m3) d3
theorem pd_op {op : Operator} {r : R2} {g : D → D → Option D} (ho : OpR X (binaryOp op) r) (hr : Sem2 X.K Ps r g) (ha : PD X Ps a f1) (hb : PD X Ps b f3) : PD X Ps (.BinOp a op b pos) (fOp g f1 f3) := by
  obtain ⟨t, p, s⟩ := ha.ex
  obtain ⟨u, p2, s2⟩ := hb.ex
  exact ⟨_, pe_op ho p p2, sem2 s s2 hr⟩
theorem pd_cmp {op : CmpOp} {r : R2} {g : D → D → Option D} (ho : OpR X (compareOp op) r) (hr : Sem2 X.K Ps r g) (ha : PD X Ps a f1) (hb : PD X Ps b f3) (hm : behindInMarks op b = false) : PD X Ps (.Compare a [op] [b] pos) (fOp g f1 f3) := by
  obtain ⟨t, p, s⟩ := ha.ex
  obtain ⟨u, p2, s2⟩ := hb.ex
  exact ⟨_, pe_cmpR ho p p2 hm, sem2 s s2 hr⟩
theorem pd_ix {r : R2} {g : D → D → Option D} (ho : IxR X r) (hr : Sem2 X.K Ps r g) (ha : PD X Ps a f1) (hb : PD X Ps b f3) (hs : PlainIx b) : PD X Ps (.Subscript a b pos) (fOp g f1 f3) := by
  obtain ⟨t, p, s⟩ := ha.ex
  obtain ⟨u, p2, s2⟩ := hb.ex
  exact ⟨_, pe_ix ho p p2 hs, sem2 s s2 hr⟩
/-- a datum that is a bool -/
def asB : D → Option Bool
  | .bool b => some b
  | _ => none
theorem asB_some {d : D} {b : Bool} (h : asB d = some b) : d = .bool b := by
  cases d <;> simp [asB] at h
  rw [h]
def fB (f : Ro → Option D) : Ro → Option Bool := fun ρ => (f ρ).bind asB
theorem semB {t : TE} (h : SemE X.K Ps t f) : SemT X.K Ps (tTest t) (fB f) := by
  intro F0 H0 F H σ ρ b hE hf Q q
  obtain ⟨x, e1, hf1⟩ := Option.bind_eq_some_iff.mp hf
  cases asB_some hf1
  refine h F0 H0 F H σ ρ _ hE e1 _ fun v F1 H1 m1 d1 => ?_
  cases d1
  exact ⟨b, rfl, q F1 H1 m1⟩
theorem td_cmp {op : CmpOp} {r : R2} {g : D → D → Option D} (ho : OpR X (compareOp op) r) (hr : Sem2 X.K Ps r g) (ha : PD X Ps a f1) (hb : PD X Ps b f3) (hm : behindInMarks op b = false) : TD X Ps (.Compare a [op] [b] pos) (fB (fOp g f1 f3)) := by
  obtain ⟨t, p, s⟩ := ha.ex
  obtain ⟨u, p2, s2⟩ := hb.ex
  exact ⟨_, pt_cmpR ho p p2 hm, semB (sem2 s s2 hr)⟩
/-- a chain a op b op' c -/
def fCh (g g' : D → D → Option D) (fa fb fc : Ro → Option D) : Ro → Option Bool := fun ρ => (fa ρ).bind fun x => (fb ρ).bind fun y => ((g x y).bind asB).bind fun k => if k = true then (fc ρ).bind fun z => (g' y z).bind asB else some false
theorem td_chain {op op' : CmpOp} {r r' : R2} {g g' : D → D → Option D} {fc : Ro → Option D} (ho : OpR X (compareOp op) r) (ho' : OpR X (compareOp op') r') (hr : Sem2 X.K Ps r g) (hr' : Sem2 X.K Ps r' g') (ha : PD X Ps a f1) (hb : PD X Ps b f3) (hc : PD X Ps c fc)
    (hm : lastMarks [op, op'] [b, c] = false := by with_unfolding_all rfl) : TD X Ps (.Compare a [op, op'] [b, c] pos) (fCh g g' f1 f3 fc) := by
  obtain ⟨t, p, s⟩ := ha.ex
  obtain ⟨u, p2, s2⟩ := hb.ex
  obtain ⟨u3, p3, s3⟩ := hc.ex
  refine ⟨_, pt_chain ho ho' p p2 p3 hm, fun F0 H0 F H σ ρ bb hE hf Q q => ?_⟩
  obtain ⟨x, e1, hf1⟩ := Option.bind_eq_some_iff.mp hf
  obtain ⟨y, e2, hf2⟩ := Option.bind_eq_some_iff.mp hf1
  obtain ⟨k, e3, hf3⟩ := Option.bind_eq_some_iff.mp hf2
  obtain ⟨z, e4, e5⟩ := Option.bind_eq_some_iff.mp e3
  cases asB_some e5
  refine s F0 H0 F H σ ρ x hE e1 _ fun v F1 H1 m1 d1 => ?_
  refine s2 F0 H0 F1 H1 σ ρ y (hE.move m1) e2 _ fun u F2 H2 m2 d2 => ?_
  refine hr F2 H2 v u x y _ (m1.trans m2).refl (dp_mono m2.grow _ _ d1) d2 e4 _ fun z F3 H3 m3 d3 => ?_
  cases d3
  have m13 := (m1.trans m2).trans m3
  cases k with
  | true =>
    rw [if_pos rfl] at hf3
    obtain ⟨zc, e6, hf4⟩ := Option.bind_eq_some_iff.mp hf3
    obtain ⟨zd, e7, e8⟩ := Option.bind_eq_some_iff.mp hf4
    cases asB_some e8
    refine ⟨true, rfl, ?_⟩
    rw [if_pos rfl]
    refine s3 F0 H0 F3 H3 σ ρ zc (hE.move m13) e6 _ fun w F4 H4 m4 d4 => ?_
    refine hr' F4 H4 u w y zc _ (m13.trans m4).refl (dp_mono (m3.grow.trans m4.grow) _ _ d2) d4 e7 _ fun z F5 H5 m5 d5 => ?_
    cases d5
    exact ⟨bb, rfl, q F5 H5 ((m13.trans m4).trans m5)⟩
  | false =>
    rw [if_neg Bool.false_ne_true] at hf3
    cases hf3
    refine ⟨false, rfl, ?_⟩
    rw [if_neg Bool.false_ne_true]
    exact ⟨false, rfl, q F3 H3 m13⟩
/-! tests -/
def fNot (f : Ro → Option Bool) : Ro → Option Bool := fun ρ => (f ρ).map (!·)
def fAnd (f g : Ro → Option Bool) : Ro → Option Bool := fun ρ => (f ρ).bind fun x => if x = true then g ρ else some false
def fOr (f g : Ro → Option Bool) : Ro → Option Bool := fun ρ => (f ρ).bind fun x => if x = true then some true else g ρ
theorem td_w (h : WD X Ps e ft) : TD X Ps e ft := by
  obtain ⟨t, p, s⟩ := h.ex
  exact ⟨t, p.pt, s⟩
theorem td_val (h : PD X Ps e f) (he : ∀ whole, isTrue e X.env whole = (do let v ← whole; standAt e.pos; holding [v] (truthy v)) := by intro _; rfl) : TD X Ps e (fB f) := by
  obtain ⟨t, p, s⟩ := h.ex
  refine ⟨_, pt_val p he, ?_⟩
  exact semB s
theorem td_not (h : TD X Ps e ft) : TD X Ps (.UnaryOp .Not e pos) (fNot ft) := by
  obtain ⟨t, p, s⟩ := h.ex
  refine ⟨_, pt_not p, fun F0 H0 F H σ ρ b hE hf Q q => ?_⟩
  obtain ⟨x, e1, hf1⟩ := Option.map_eq_some_iff.mp hf
  subst hf1
  exact s F0 H0 F H σ ρ x hE e1 _ fun F1 H1 m1 => q F1 H1 m1
theorem wd_and1 (h : TD X Ps e ft) : WD X Ps (.BoolOp .And [e] pos) ft := by
  obtain ⟨t, p, s⟩ := h.ex
  exact ⟨t, pw_and1 p, s⟩
theorem wd_or1 (h : TD X Ps e ft) : WD X Ps (.BoolOp .Or [e] pos) ft := by
  obtain ⟨t, p, s⟩ := h.ex
  exact ⟨t, pw_or1 p, s⟩
variable {rest : List Expr}
theorem semAnd {t u : TT} (s : SemT X.K Ps t ft) (s2 : SemT X.K Ps u fu) : SemT X.K Ps (tAnd t u) (fAnd ft fu) := by
  intro F0 H0 F H σ ρ bb hE hf Q q
  obtain ⟨x, e1, hf1⟩ := Option.bind_eq_some_iff.mp hf
  refine s F0 H0 F H σ ρ x hE e1 _ fun F1 H1 m1 => ?_
  cases x with
  | true =>
    rw [if_pos rfl] at hf1 ⊢
    exact s2 F0 H0 F1 H1 σ ρ bb (hE.move m1) hf1 _ fun F2 H2 m2 => q F2 H2 (m1.trans m2)
  | false =>
    rw [if_neg Bool.false_ne_true] at hf1 ⊢
    cases hf1
    exact q F1 H1 m1
theorem semOr {t u : TT} (s : SemT X.K Ps t ft) (s2 : SemT X.K Ps u fu) : SemT X.K Ps (tOr t u) (fOr ft fu) := by
  intro F0 H0 F H σ ρ bb hE hf Q q
  obtain ⟨x, e1, hf1⟩ := Option.bind_eq_some_iff.mp hf
  refine s F0 H0 F H σ ρ x hE e1 _ fun F1 H1 m1 => ?_
  cases x with
  | false =>
    rw [if_neg Bool.false_ne_true] at hf1 ⊢
    exact s2 F0 H0 F1 H1 σ ρ bb (hE.move m1) hf1 _ fun F2 H2 m2 => q F2 H2 (m1.trans m2)
  | true =>
    rw [if_pos rfl] at hf1 ⊢
    cases hf1
    exact q F1 H1 m1
theorem wd_and (h : TD X Ps a ft) (hr : WD X Ps (.BoolOp .And (b :: rest) pos) fu) : WD X Ps (.BoolOp .And (a :: b :: rest) pos) (fAnd ft fu) := by
  obtain ⟨t, p, s⟩ := h.ex
  obtain ⟨u, p2, s2⟩ := hr.ex
  exact ⟨_, pw_and p p2, semAnd s s2⟩
theorem wd_or (h : TD X Ps a ft) (hr : WD X Ps (.BoolOp .Or (b :: rest) pos) fu) : WD X Ps (.BoolOp .Or (a :: b :: rest) pos) (fOr ft fu) := by
  obtain ⟨t, p, s⟩ := h.ex
  obtain ⟨u, p2, s2⟩ := hr.ex
  exact ⟨_, pw_or p p2, semOr s s2⟩
/-! and, or, not as values -/
def fAndV (f g : Ro → Option D) : Ro → Option D := fun ρ => (f ρ).bind fun x => (asB x).bind fun k => if k = true then g ρ else some (.bool false)
def fOrV (f g : Ro → Option D) : Ro → Option D := fun ρ => (f ρ).bind fun x => (asB x).bind fun k => if k = true then some (.bool true) else g ρ
theorem pd_one {op} (h : PD X Ps e f) : PD X Ps (.BoolOp op [e] pos) f := by
  obtain ⟨t, p, s⟩ := h.ex
  exact ⟨t, pe_one p, s⟩
theorem pd_and (h : PD X Ps a f1) (hr : PD X Ps (.BoolOp .And (b :: rest) pos) f3) : PD X Ps (.BoolOp .And (a :: b :: rest) pos) (fAndV f1 f3) := by
  obtain ⟨t, p, s⟩ := h.ex
  obtain ⟨u, p2, s2⟩ := hr.ex
  refine ⟨_, pe_and p p2, fun F0 H0 F H σ ρ bb hE hf Q q => ?_⟩
  obtain ⟨x, e1, hf1⟩ := Option.bind_eq_some_iff.mp hf
  obtain ⟨k, e2, hf2⟩ := Option.bind_eq_some_iff.mp hf1
  cases asB_some e2
  refine s F0 H0 F H σ ρ _ hE e1 _ fun v F1 H1 m1 d1 => ?_
  cases d1
  refine ⟨k, rfl, ?_⟩
  cases k with
  | true =>
    rw [if_pos rfl] at hf2 ⊢
    exact s2 F0 H0 F1 H1 σ ρ bb (hE.move m1) hf2 _ fun v F2 H2 m2 d2 => q v F2 H2 (m1.trans m2) d2
  | false =>
    rw [if_neg Bool.false_ne_true] at hf2 ⊢
    cases hf2
    exact q _ F1 H1 m1 (.bl false)
theorem pd_or (h : PD X Ps a f1) (hr : PD X Ps (.BoolOp .Or (b :: rest) pos) f3) : PD X Ps (.BoolOp .Or (a :: b :: rest) pos) (fOrV f1 f3) := by
  obtain ⟨t, p, s⟩ := h.ex
  obtain ⟨u, p2, s2⟩ := hr.ex
  refine ⟨_, pe_or p p2, fun F0 H0 F H σ ρ bb hE hf Q q => ?_⟩
  obtain ⟨x, e1, hf1⟩ := Option.bind_eq_some_iff.mp hf
  obtain ⟨k, e2, hf2⟩ := Option.bind_eq_some_iff.mp hf1
  cases asB_some e2
  refine s F0 H0 F H σ ρ _ hE e1 _ fun v F1 H1 m1 d1 => ?_
  cases d1
  refine ⟨k, rfl, ?_⟩
  cases k with
  | false =>
    rw [if_neg Bool.false_ne_true] at hf2 ⊢
    exact s2 F0 H0 F1 H1 σ ρ bb (hE.move m1) hf2 _ fun v F2 H2 m2 d2 => q v F2 H2 (m1.trans m2) d2
  | true =>
    rw [if_pos rfl] at hf2 ⊢
    cases hf2
    exact q _ F1 H1 m1 (.bl true)
def fNotV (f : Ro → Option D) : Ro → Option D := fun ρ => (f ρ).bind fun x => (asB x).map fun k => .bool (!k)
theorem pd_not (h : PD X Ps a f1) : PD X Ps (.UnaryOp .Not a pos) (fNotV f1) := by
  obtain ⟨t, p, s⟩ := h.ex
  refine ⟨_, pe_not p, fun F0 H0 F H σ ρ bb hE hf Q q => ?_⟩
  obtain ⟨x, e1, hf1⟩ := Option.bind_eq_some_iff.mp hf
  obtain ⟨k, e2, hf2⟩ := Option.map_eq_some_iff.mp hf1
  cases asB_some e2
  subst hf2
  refine s F0 H0 F H σ ρ _ hE e1 _ fun v F1 H1 m1 d1 => ?_
  cases d1
  exact ⟨k, rfl, q _ F1 H1 m1 (.bl _)⟩
def fIf (f : Ro → Option Bool) (g h : Ro → Option D) : Ro → Option D := fun ρ => (f ρ).bind fun x => if x = true then g ρ else h ρ
theorem pd_ifE (h : TD X Ps c ft) (ha : PD X Ps a f1) (hb : PD X Ps b f3) : PD X Ps (.IfExp c a b pos) (fIf ft f1 f3) := by
  obtain ⟨t, p, s⟩ := h.ex
  obtain ⟨u, p2, s2⟩ := ha.ex
  obtain ⟨u3, p3, s3⟩ := hb.ex
  refine ⟨_, pe_ifExp p p2 p3, fun F0 H0 F H σ ρ bb hE hf Q q => ?_⟩
  obtain ⟨x, e1, hf1⟩ := Option.bind_eq_some_iff.mp hf
  refine s F0 H0 F H σ ρ x hE e1 _ fun F1 H1 m1 => ?_
  cases x with
  | true =>
    rw [if_pos rfl] at hf1 ⊢
    exact s2 F0 H0 F1 H1 σ ρ bb (hE.move m1) hf1 _ fun v F2 H2 m2 d2 => q v F2 H2 (m1.trans m2) d2
  | false =>
    rw [if_neg Bool.false_ne_true] at hf1 ⊢
    exact s3 F0 H0 F1 H1 σ ρ bb (hE.move m1) hf1 _ fun v F2 H2 m2 d2 => q v F2 H2 (m1.trans m2) d2
/-! ### calls -/
def fCall (g : List D → Option D) (fl : Ro → Option (List D)) : Ro → Option D := fun ρ => (fl ρ).bind g
theorem pd_callB {x : Str} {p : Pos} {id : String} {r : List V → Hp → VK → Prop} {g : List D → Option D} (hc : CallR X (.builtin id) r) (hr : SemC X.K Ps r g) (hg : Gl X x) (hm : X.mg x = none) (hv : bootBuiltins x = some (.builtin id)) (ha : AD X Ps (e :: es) fl) (hn : x ≠ "__name__" := by decide) (hdb : (x == ("__debug__" : Str)) = false := by decide)
    (he : starEach (e :: es) X.env = (false, eval e X.env) :: starEach es X.env := by rfl) (hpl : (backTo pos (starEach es X.env)).any (·.1) = false := by rfl) : PD X Ps (.Call (.Name x p) (e :: es) [] pos) (fCall g fl) := by
  obtain ⟨t, p1, s⟩ := ha.ex
  refine ⟨_, pe_callB hc hg hm hv p1 hn hdb he hpl, fun F0 H0 F H σ ρ d hE hf Q q => ?_⟩
  obtain ⟨x, e1, hf1⟩ := Option.bind_eq_some_iff.mp hf
  exact s F0 H0 F H σ ρ x hE e1 _ fun vs F1 H1 m1 d1 => hr F1 H1 vs x d m1.refl' d1 hf1 Q fun v F2 H2 m2 d2 => q v F2 H2 (m1.trans m2) d2
theorem pd_callTy {x : Str} {p : Pos} {T : String} {r : List V → Hp → VK → Prop} {g : List D → Option D} (hc : CallR X (.type T) r) (hr : SemC X.K Ps r g) (hg : Gl X x) (hm : X.mg x = none) (hv : bootBuiltins x = some (.type T)) (ha : AD X Ps (e :: es) fl) (hn : x ≠ "__name__" := by decide) (hdb : (x == ("__debug__" : Str)) = false := by decide)
    (he : starEach (e :: es) X.env = (false, eval e X.env) :: starEach es X.env := by rfl) (hpl : (backTo pos (starEach es X.env)).any (·.1) = false := by rfl) : PD X Ps (.Call (.Name x p) (e :: es) [] pos) (fCall g fl) := by
  obtain ⟨t, p1, s⟩ := ha.ex
  refine ⟨_, pe_callTy hc hg hm hv p1 hn hdb he hpl, fun F0 H0 F H σ ρ d hE hf Q q => ?_⟩
  obtain ⟨x, e1, hf1⟩ := Option.bind_eq_some_iff.mp hf
  exact s F0 H0 F H σ ρ x hE e1 _ fun vs F1 H1 m1 d1 => hr F1 H1 vs x d m1.refl' d1 hf1 Q fun v F2 H2 m2 d2 => q v F2 H2 (m1.trans m2) d2
/-- the promise of a def by a function of data -/
def spD (K : PySem.W.Frag) (Ps : List Addr) (n : Nat) (g : List D → Option D) : Sp := fun vs H Q _ => vs.length = n ∧ ∃ F ds d, Ok Ps F H F H ∧ DpAll K F vs ds ∧ g ds = some d ∧ ∀ v F' H', Ok Ps F H F' H' → Dp K F' v d → Q v H'
theorem pd_call {x : Str} {p : Pos} {n k : Nat} {fa : Addr} {fd : FuncData} {ps : List Str} {g : List D → Option D} (G : FnOk X.prog X.w X.K X.mg X.base CX0 k fa fd ps (spD X.K Ps n g)) (hr : Room k X.A) (hg : Gl X x) (hm : X.mg x = some (.ref fa)) (hk : PySem.W.keepIn X.K (.ref fa) = true) (hb : Binds X.K fd ps [])
    (ha : AD X Ps (e :: es) fl) (hn : ∀ ρ ds, fl ρ = some ds → ds.length = n) (hdb : (x == ("__debug__" : Str)) = false := by decide) (he : starEach (e :: es) X.env = (false, eval e X.env) :: starEach es X.env := by rfl) (hpl : (backTo pos (starEach es X.env)).any (·.1) = false := by rfl) :
    PD X Ps (.Call (.Name x p) (e :: es) [] pos) (fCall g fl) := by
  obtain ⟨t, p1, s⟩ := ha.ex
  refine ⟨_, pe_call G hr hg hm hk hb .nil pass0 p1 hdb he hpl, fun F0 H0 F H σ ρ d hE hf Q q => ?_⟩
  obtain ⟨x, e1, hf1⟩ := Option.bind_eq_some_iff.mp hf
  refine s F0 H0 F H σ ρ x hE e1 _ fun vs F1 H1 m1 d1 => ?_
  show spD X.K Ps n g (vs ++ []) H1 Q E0
  rw [List.append_nil]
  exact ⟨by rw [dpAll_len d1]; exact hn ρ x e1, F1, x, d, m1.refl', d1, hf1, fun v F2 H2 m2 d2 => q v F2 H2 (m1.trans m2) d2⟩
end
end FL
set_option maxHeartbeats 4000000
/-! FL3: statements, walks, loops, comprehensions, defs. -/
namespace FL
open PySem PySem.Spec PyProof.Rows L2

inductive Out where
  | nx (ρ : Ro)
  | rt (d : D)
  | bk (ρ : Ro)
  | ct (ρ : Ro)
/-- what follows takes the outcome o -/
def MeetsO (K : PySem.W.Frag) (Ps : List Addr) (F0 H0 F : Hp) (o : Out) (E : Ends) : Prop := match o with
  | .nx ρ => ∀ F' H σ, EnvOk K Ps F0 H0 F' H σ ρ → Same F F' → E.nx σ H
  | .bk ρ => ∀ F' H σ, EnvOk K Ps F0 H0 F' H σ ρ → Same F F' → E.bk σ H
  | .ct ρ => ∀ F' H σ, EnvOk K Ps F0 H0 F' H σ ρ → Same F F' → E.ct σ H
  | .rt d => ∀ F' H v, Ok Ps F0 H0 F' H → Dp K F' v d → E.rt v H
theorem MeetsO.mono {K : PySem.W.Frag} {Ps : List Addr} {F0 H0 F F1 : Hp} {o : Out} {E : Ends} (h : MeetsO K Ps F0 H0 F o E) (g : Same F F1) : MeetsO K Ps F0 H0 F1 o E := by
  cases o with
  | nx ρ => exact fun F' H σ hE g' => h F' H σ hE (g.trans g')
  | bk ρ => exact fun F' H σ hE g' => h F' H σ hE (g.trans g')
  | ct ρ => exact fun F' H σ hE g' => h F' H σ hE (g.trans g')
  | rt d => exact h
def SemS (K : PySem.W.Frag) (Ps : List Addr) (t : TS) (f : Ro → Option Out) : Prop :=
  ∀ (F0 H0 F H : Hp) (σ : L2.St) (ρ : Ro) (o : Out) (E : Ends), EnvOk K Ps F0 H0 F H σ ρ → f ρ = some o → MeetsO K Ps F0 H0 F o E → t E σ H
structure SD (X : Cx) (Ps : List Addr) (st : Stmt) (f : Ro → Option Out) : Prop where
  ex : ∃ t, PS X st t ∧ SemS X.K Ps t f
structure BD (X : Cx) (Ps : List Addr) (sts : List Stmt) (f : Ro → Option Out) : Prop where
  ex : ∃ t, PSs X sts t ∧ SemS X.K Ps t f

section
variable {X : Cx} {Ps : List Addr} {e a b c : Expr} {es : List Expr} {f f1 f3 : Ro → Option D} {fl : Ro → Option (List D)} {ft fu : Ro → Option Bool} {g h : Ro → Option Out} {pos : Pos} {st : Stmt} {rest : List Stmt}
def fNext : Ro → Option Out := fun ρ => some (.nx ρ)
def fSeq (g h : Ro → Option Out) : Ro → Option Out := fun ρ => (g ρ).bind fun o => match o with
  | .nx ρ' => h ρ'
  | o => some o
theorem bd_nil : BD X Ps [] fNext := ⟨_, pss_nil, fun F0 H0 F H σ ρ o E hE hf q => by cases hf; exact q F H σ hE (Same.refl _)⟩
theorem bd_cons (p : SD X Ps st g) (r : BD X Ps rest h) : BD X Ps (st :: rest) (fSeq g h) := by
  obtain ⟨t, p1, s1⟩ := p.ex
  obtain ⟨u, p2, s2⟩ := r.ex
  refine ⟨_, pss_cons p1 p2, fun F0 H0 F H σ ρ o E hE hf q => ?_⟩
  obtain ⟨o1, e1, hf1⟩ := Option.bind_eq_some_iff.mp hf
  refine s1 F0 H0 F H σ ρ o1 _ hE e1 ?_
  cases o1 with
  | nx ρ' => exact fun F' H' σ' hE' g' => s2 F0 H0 F' H' σ' ρ' o E hE' hf1 (q.mono g')
  | rt d => cases hf1; exact q
  | bk ρ' => cases hf1; exact q
  | ct ρ' => cases hf1; exact q
theorem bd_one (p : SD X Ps st g) : BD X Ps [st] g := by
  obtain ⟨t, p1, s1⟩ := p.ex
  exact ⟨t, pss_one p1, s1⟩
theorem sd_pass : SD X Ps (.Pass pos) fNext := ⟨_, ps_pass, fun F0 H0 F H σ ρ o E hE hf q => by cases hf; exact q F H σ hE (Same.refl _)⟩
theorem sd_break : SD X Ps (.Break pos) (fun ρ => some (.bk ρ)) := ⟨_, ps_break, fun F0 H0 F H σ ρ o E hE hf q => by cases hf; exact q F H σ hE (Same.refl _)⟩
theorem sd_cont : SD X Ps (.Continue pos) (fun ρ => some (.ct ρ)) := ⟨_, ps_continue, fun F0 H0 F H σ ρ o E hE hf q => by cases hf; exact q F H σ hE (Same.refl _)⟩
def fRet (f : Ro → Option D) : Ro → Option Out := fun ρ => (f ρ).map .rt
theorem sd_ret (p : PD X Ps e f) : SD X Ps (.Return (some e) pos) (fRet f) := by
  obtain ⟨t, p1, s1⟩ := p.ex
  refine ⟨_, ps_ret p1, fun F0 H0 F H σ ρ o E hE hf q => ?_⟩
  obtain ⟨d, e1, hf1⟩ := Option.map_eq_some_iff.mp hf
  subst hf1
  exact s1 F0 H0 F H σ ρ d hE e1 _ fun v F1 H1 m1 d1 => q F1 H1 v (hE.ok.trans m1) d1
theorem sd_retN : SD X Ps (.Return none pos) (fun _ => some (.rt .none)) := ⟨_, ps_retN, fun F0 H0 F H σ ρ o E hE hf q => by cases hf; exact q F H .non hE.ok .non⟩
def fIfS (ft : Ro → Option Bool) (g h : Ro → Option Out) : Ro → Option Out := fun ρ => (ft ρ).bind fun x => if x = true then g ρ else h ρ
theorem sd_if {sa sb : List Stmt} (p : TD X Ps c ft) (pa : BD X Ps sa g) (pb : BD X Ps sb h) : SD X Ps (.If c sa sb pos) (fIfS ft g h) := by
  obtain ⟨t, p1, s1⟩ := p.ex
  obtain ⟨u, p2, s2⟩ := pa.ex
  obtain ⟨w, p3, s3⟩ := pb.ex
  refine ⟨_, ps_if p1 p2 p3, fun F0 H0 F H σ ρ o E hE hf q => ?_⟩
  obtain ⟨x, e1, hf1⟩ := Option.bind_eq_some_iff.mp hf
  refine s1 F0 H0 F H σ ρ x hE e1 _ fun F1 H1 m1 => ?_
  cases x with
  | true =>
    rw [if_pos rfl] at hf1 ⊢
    exact s2 F0 H0 F1 H1 σ ρ o E (hE.move m1) hf1 (q.mono m1.grow)
  | false =>
    rw [if_neg Bool.false_ne_true] at hf1 ⊢
    exact s3 F0 H0 F1 H1 σ ρ o E (hE.move m1) hf1 (q.mono m1.grow)
def fSet (i : Nat) (f : Ro → Option D) : Ro → Option Out := fun ρ => (f ρ).map fun d => .nx (ρ.set i (.fz d))
theorem sd_set {i : Nat} {x : Str} {pos' : Pos} (hN : X.N.Nodup) (hi : X.N[i]? = some x) (hx : Loc X.env.scope x) (p : PD X Ps e f) (hs : swapsWith e (some (.Name x pos')) pos.line X.env = pure false := by rfl)
    (hf : X.fn x = true ∨ X.env.scope.names.lookup x = some .local := by first | exact .inl rfl | exact .inr rfl | assumption) : SD X Ps (.Assign [.Name x pos'] e pos) (fSet i f) := by
  obtain ⟨t, p1, s1⟩ := p.ex
  refine ⟨_, ps_set hN hi hx p1 hs hf, fun F0 H0 F H σ ρ o E hE hf q => ?_⟩
  obtain ⟨d, e1, hf1⟩ := Option.map_eq_some_iff.mp hf
  subst hf1
  exact s1 F0 H0 F H σ ρ d hE e1 _ fun v F1 H1 m1 d1 => q F1 H1 _ ((hE.move m1).set d1) m1.grow
def fSetO (i : Nat) (f : Ro → Option (List D)) : Ro → Option Out := fun ρ => (f ρ).map fun ds => .nx (ρ.set i (.ow ds))
theorem sd_setO {i : Nat} {x : Str} {pos' : Pos} (hN : X.N.Nodup) (hi : X.N[i]? = some x) (hx : Loc X.env.scope x) (p : LD X Ps e fl) (hs : swapsWith e (some (.Name x pos')) pos.line X.env = pure false := by rfl)
    (hf : X.fn x = true ∨ X.env.scope.names.lookup x = some .local := by first | exact .inl rfl | exact .inr rfl | assumption) : SD X Ps (.Assign [.Name x pos'] e pos) (fSetO i fl) := by
  obtain ⟨t, p1, s1⟩ := p.ex
  refine ⟨_, ps_set hN hi hx p1 hs hf, fun F0 H0 F H σ ρ o E hE hf q => ?_⟩
  obtain ⟨d, e1, hf1⟩ := Option.map_eq_some_iff.mp hf
  subst hf1
  exact s1 F0 H0 F H σ ρ d hE e1 _ fun a vs F1 H1 m1 hn hf ha d1 => q F1 H1 _ (hE.setO m1 hn hf ha d1) m1.grow
/-- ahead of a statement the list at slot i is frozen -/
def fFrz (i : Nat) (g : Ro → Option Out) : Ro → Option Out := fun ρ => match ρ[i]? with
  | some (.ow ds) => g (ρ.set i (.fz (.list ds)))
  | _ => g ρ
theorem sd_frz (i : Nat) (p : SD X Ps st g) : SD X Ps st (fFrz i g) := by
  obtain ⟨t, p1, s1⟩ := p.ex
  refine ⟨t, p1, fun F0 H0 F H σ ρ o E hE hf q => ?_⟩
  unfold fFrz at hf
  split at hf
  · rename_i ds e
    obtain ⟨F', g', hE'⟩ := hE.freeze e
    exact s1 F0 H0 F' H σ _ o E hE' hf (q.mono g')
  · exact s1 F0 H0 F H σ ρ o E hE hf q
theorem bd_frz (i : Nat) {sts : List Stmt} (p : BD X Ps sts g) : BD X Ps sts (fFrz i g) := by
  obtain ⟨t, p1, s1⟩ := p.ex
  refine ⟨t, p1, fun F0 H0 F H σ ρ o E hE hf q => ?_⟩
  unfold fFrz at hf
  split at hf
  · rename_i ds e
    obtain ⟨F', g', hE'⟩ := hE.freeze e
    exact s1 F0 H0 F' H σ _ o E hE' hf (q.mono g')
  · exact s1 F0 H0 F H σ ρ o E hE hf q
/-- an int at a name, op= -/
def fAug (i : Nat) (u : Int → Int → Int) (f : Ro → Option D) : Ro → Option Out := fun ρ => match ρ[i]? with
  | some (.fz (.int n)) => (f ρ).bind fun d => match d with
    | .int m => some (.nx (ρ.set i (.fz (.int (u n m)))))
    | _ => none
  | _ => none
theorem sd_aug {i : Nat} {x : Str} {op : Operator} {u : Int → Int → Int} {pos' : Pos} (hN : X.N.Nodup) (hi : X.N[i]? = some x) (hx : Loc X.env.scope x) (p : PD X Ps e f) (ho : PIp X op (ipI u)) (hf : X.fn x = true ∨ X.env.scope.names.lookup x = some .local := by first | exact .inl rfl | exact .inr rfl | assumption) :
    SD X Ps (.AugAssign (.Name x pos') op e pos) (fAug i u f) := by
  obtain ⟨t, p1, s1⟩ := p.ex
  refine ⟨_, ps_aug hN hi hx p1 ho hf, fun F0 H0 F H σ ρ o E hE hf q => ?_⟩
  unfold fAug at hf
  split at hf
  · rename_i n e0
    obtain ⟨d, e1, hf1⟩ := Option.bind_eq_some_iff.mp hf
    obtain ⟨v, e2, d2⟩ := hE.get e0
    cases d2
    refine ⟨_, e2, s1 F0 H0 F H σ ρ d hE e1 _ fun v F1 H1 m1 d1 => ?_⟩
    cases d with
    | int m =>
      cases hf1
      cases d1
      exact ⟨n, m, rfl, rfl, q F1 H1 _ ((hE.move m1).set (.int _)) m1.grow⟩
    | _ => cases hf1
  · cases hf

/-! ### the list that a slot alone holds: append, extend, pop, len, truth -/
def fApp (i : Nat) (f : Ro → Option D) : Ro → Option Out := fun ρ => match ρ[i]? with
  | some (.ow ds) => (f ρ).bind fun d => if ds.length < 1000000 then some (.nx (ρ.set i (.ow (ds ++ [d])))) else none
  | _ => none
theorem dpAll_one {K : PySem.W.Frag} {H : Hp} {v : V} {d : D} (h : Dp K H v d) : DpAll K H [v] [d] := .cons h .nil
theorem sd_app {i : Nat} {x : Str} {apos cpos p0 : Pos} (hN : X.N[i]? = some x := by rfl) (hv : Vis X.env.scope x := by first | exact Or.inl rfl | exact Or.inr (Or.inl rfl) | exact Or.inr (Or.inr rfl)) (hd : (x == ("__debug__" : Str)) = false := by decide) (hcd : (x == ("__classdict__" : Str)) = false := by decide)
    (p : PD X Ps e f) (hbase : attributeBase (.Name x p0) "append" X.env (eval (.Name x p0) X.env) = eval (.Name x p0) X.env := by rfl)
    (hfew : ((backTo cpos (starEach [e] X.env)).all (fun x => !x.1) && (backToKw cpos (keywordEach [] X.env)).all (fun x => x.1.isSome) && decide ([e].length + ([] : List Keyword).length + (if ([] : List Keyword).isEmpty then 0 else 1) < 30)) = true := by rfl)
    (hline : (apos.endLine == cpos.line) = true := by rfl) (hs : starEach [e] X.env = (false, eval e X.env) :: starEach [] X.env := by rfl) (hplain : (backTo cpos (starEach [] X.env)).any (·.1) = false := by rfl)
    (hsw : swapsWith (.Call (.Attribute (.Name x p0) "append" apos) [e] [] cpos) none pos.line X.env = pure false := by rfl) :
    SD X Ps (.Expr (.Call (.Attribute (.Name x p0) "append" apos) [e] [] cpos) pos) (fApp i f) := by
  obtain ⟨t, p1, s1⟩ := p.ex
  refine ⟨_, ps_expr (pe_bm PySem.F.plainAttrs_list PySem.F.slot_list_append PySem.F.type_list_append mt_append (pe_var hN hv hd hcd) (pa_cons p1 pa_nil hs) hbase hfew hline hs hplain) hsw, fun F0 H0 F H σ ρ o E hE hf q => ?_⟩
  unfold fApp at hf
  split at hf
  · rename_i ds e0
    obtain ⟨d, e1, hf1⟩ := Option.bind_eq_some_iff.mp hf
    split at hf1
    · rename_i hz
      cases hf1
      obtain ⟨a, vs, e2, h0, f0, e3, d3⟩ := hE.getO e0
      refine ⟨_, e2, .inl ⟨rfl, vs, SqL.of e3⟩, ?_⟩
      refine s1 F0 H0 F H σ ρ d hE e1 _ fun v F1 H1 m1 d1 => ?_
      have hE1 := hE.move m1
      obtain ⟨a', vs', e2', h0', f0', e3', d3'⟩ := hE1.getO e0
      rw [e2] at e2'
      cases e2'
      refine ⟨a, vs', v, rfl, rfl, e3', Nat.lt_of_lt_of_le (by rw [dpAll_len d3']; exact hz) (by decide), ?_⟩
      exact q F1 _ σ (hE1.mut e0 e2 (dpAll_app d3' (dpAll_one d1))) m1.grow
    · cases hf1
  · cases hf
/-- list.extend of a tuple -/
theorem list_extend_tup (l : Addr) (items : Array Value) (n : Nat) (b : Addr) (items2 : Array Value) (n2 : Nat) (dd : Option Addr) (sl : Array (Option Value)) (hs0 : ¬(!items.isEmpty && Builtin.List.listTooLong (items.size + items2.size)) = true) (hs1 : items.size ≤ sizeLine) (hs2 : items.size + items2.size ≤ sizeLine + 1) :
    Meets (Builtin.«list.extend» ⟨[.ref l, .ref b], []⟩) (fun _ R s => s.heap.get? l = some { cls := .type "list", dict := none, data := .seq items n, slots := #[] } ∧ s.heap.get? b = some { cls := .type "tuple", dict := dd, data := .seq items2 n2, slots := sl } ∧ R (.ok (.ret Value.none)) { s with heap := s.heap.update l (Obj.mapSeq fun x => x ++ items2), toks := s.toks }) :=
  .of_wp fun prog w A R s h => by
    obtain ⟨hp, g, d, tk, os⟩ := s; obtain ⟨hl, hb, h⟩ := h
    have f1 := AutoSeq1.idx_int; have f2 := AutoSeq1.sub_tuple_tuple; have f3 := AutoSeq1.sub_list_list; have f4 := AutoSeq1.sub_tuple_list; have f5 := AutoSeq1.sub_list_tuple
    have hz' : (items ++ items2).size ≤ sizeLine + 1 := by rw [Array.size_append]; exact hs2
    wp_walk using (wpAny_updateSeq hl rfl (hz := hs1) (_hz' := hz')), AutoSeq1.wpAny_loadPart' hl, AutoSeq1.wpAny_loadPart' hb
    exact ⟨_, rfl, h⟩
def rExtendT (K : PySem.W.Frag) : V → List V → Hp → VK → Prop := fun x vs H Q => ∃ l b xs zs, x = .ref l ∧ vs = [.ref b] ∧ H l = some (.lst xs) ∧ SqT K H b zs ∧ xs.length + zs.length ≤ sizeLine ∧ Q .non (upd H l (.lst (xs ++ zs)))
theorem mt_extendT : MtM X "list.extend" (rExtendT X.K) := by
  intro pins s σ H x vs v us Q I rx rv h
  obtain ⟨l, b, xs, zs, rfl, rfl, hH, hB, hz, q⟩ := h
  cases rx
  obtain ⟨u, rfl, ru⟩ := rv.one
  cases ru
  obtain ⟨z, its, n, r, hl, e⟩ := I.lstM hH
  obtain ⟨its2, r2, ⟨o2, e2, hc2, n2, hd2⟩, hl2⟩ := I.tuple hB
  have r2l := r2.length
  have hsz : its.toArray.size + its2.toArray.size ≤ sizeLine := by rw [List.size_toArray, List.size_toArray]; omega
  have hsz2 : its.toArray.size + its2.toArray.size ≤ sizeLine + 1 := by omega
  have hlong : ¬ (!its.toArray.isEmpty && Builtin.List.listTooLong (its.toArray.size + its2.toArray.size)) = true := by
    rw [notLongL hsz, Bool.and_false]
    exact Bool.false_ne_true
  obtain ⟨cls2, dd2, data2, sl2⟩ := o2
  simp only at hc2 hd2
  subst hc2 hd2
  refine call_meets PySem.F.slot_list_extend ⟨_, e, rfl⟩ PySem.F.entry_list_extend (PySem.F.args_list_extend_2 _ _)
    (list_extend_tup l its.toArray n b its2.toArray n2 dd2 sl2 hlong (by rw [List.size_toArray]; omega) hsz2) ⟨e, e2, ?_⟩
  refine ⟨.non, _, I.lset (its' := its ++ its2) hH e (by simp) (r.append r2) ?_, rfl, q⟩
  rw [List.length_append]
  omega
/-- x.extend(a tuple) -/
def fExt (i : Nat) (f : Ro → Option D) : Ro → Option Out := fun ρ => match ρ[i]? with
  | some (.ow ds) => (f ρ).bind fun d => match d with
    | .tuple zs => if ds.length + zs.length ≤ 1000000 then some (.nx (ρ.set i (.ow (ds ++ zs)))) else none
    | _ => none
  | _ => none
theorem sd_extT {i : Nat} {x : Str} {apos cpos p0 : Pos} (hN : X.N[i]? = some x := by rfl) (hv : Vis X.env.scope x := by first | exact Or.inl rfl | exact Or.inr (Or.inl rfl) | exact Or.inr (Or.inr rfl)) (hd : (x == ("__debug__" : Str)) = false := by decide) (hcd : (x == ("__classdict__" : Str)) = false := by decide)
    (p : PD X Ps e f) (hbase : attributeBase (.Name x p0) "extend" X.env (eval (.Name x p0) X.env) = eval (.Name x p0) X.env := by rfl)
    (hfew : ((backTo cpos (starEach [e] X.env)).all (fun x => !x.1) && (backToKw cpos (keywordEach [] X.env)).all (fun x => x.1.isSome) && decide ([e].length + ([] : List Keyword).length + (if ([] : List Keyword).isEmpty then 0 else 1) < 30)) = true := by rfl)
    (hline : (apos.endLine == cpos.line) = true := by rfl) (hs : starEach [e] X.env = (false, eval e X.env) :: starEach [] X.env := by rfl) (hplain : (backTo cpos (starEach [] X.env)).any (·.1) = false := by rfl)
    (hsw : swapsWith (.Call (.Attribute (.Name x p0) "extend" apos) [e] [] cpos) none pos.line X.env = pure false := by rfl) :
    SD X Ps (.Expr (.Call (.Attribute (.Name x p0) "extend" apos) [e] [] cpos) pos) (fExt i f) := by
  obtain ⟨t, p1, s1⟩ := p.ex
  refine ⟨_, ps_expr (pe_bm PySem.F.plainAttrs_list PySem.F.slot_list_extend PySem.F.type_list_extend mt_extendT (pe_var hN hv hd hcd) (pa_cons p1 pa_nil hs) hbase hfew hline hs hplain) hsw, fun F0 H0 F H σ ρ o E hE hf q => ?_⟩
  unfold fExt at hf
  split at hf
  · rename_i ds e0
    obtain ⟨d, e1, hf1⟩ := Option.bind_eq_some_iff.mp hf
    cases d with
    | tuple zs =>
      simp only at hf1
      split at hf1
      · rename_i hz
        cases hf1
        obtain ⟨a, vs, e2, h0, f0, e3, d3⟩ := hE.getO e0
        refine ⟨_, e2, .inl ⟨rfl, vs, SqL.of e3⟩, ?_⟩
        refine s1 F0 H0 F H σ ρ _ hE e1 _ fun v F1 H1 m1 d1 => ?_
        have hE1 := hE.move m1
        obtain ⟨a', vs', e2', h0', f0', e3', d3'⟩ := hE1.getO e0
        rw [e2] at e2'
        cases e2'
        have d1' := dp_mono hE1.ok.sub _ _ d1
        cases d1 with
        | @tup b ws _ hs1 ha1 =>
          cases d1' with
          | tup hs1' ha1' =>
            refine ⟨a, b, vs', ws, rfl, rfl, e3', ?_, ?_, ?_⟩
            · rcases hs1 with (h | ⟨o, h⟩) | h
              · exact .inl (.inl (hE1.ok.sub _ _ h))
              · exact .inl (.inr ⟨o, hE1.ok.sub _ _ h⟩)
              · exact .inr h
            · rw [dpAll_len d3', dpAll_len ha1]
              exact small_size hz
            · exact q F1 _ σ (hE1.mut e0 e2 (dpAll_app d3' ha1)) m1.grow
      · cases hf1
    | _ => cases hf1
  · cases hf
/-- y = x.pop() -/
def fPop (i j : Nat) : Ro → Option Out := fun ρ => match ρ[i]? with
  | some (.ow ds) => (ds[ds.length - 1]?).map fun d => .nx ((ρ.set i (.ow ds.dropLast)).set j (.fz d))
  | _ => none
theorem dpAll_dropLast {K : PySem.W.Frag} {H : Hp} : ∀ {ds : List D} {vs : List V}, DpAll K H vs ds → DpAll K H vs.dropLast ds.dropLast
  | [], _, h => by cases h; exact .nil
  | [d], _, h => by
    cases h with
    | cons h1 h2 => cases h2; exact .nil
  | d :: d' :: ds, _, h => by
    cases h with
    | cons h1 h2 =>
      cases h2 with
      | cons h3 h4 => exact .cons h1 (dpAll_dropLast (.cons h3 h4))
theorem sd_pop {i j : Nat} {x y : Str} {apos cpos p0 p1 : Pos} (hNd : X.N.Nodup) (hN : X.N[i]? = some x) (hj : X.N[j]? = some y) (hy : Loc X.env.scope y) (hv : Vis X.env.scope x := by first | exact Or.inl rfl | exact Or.inr (Or.inl rfl) | exact Or.inr (Or.inr rfl)) (hd : (x == ("__debug__" : Str)) = false := by decide) (hcd : (x == ("__classdict__" : Str)) = false := by decide)
    (hbase : attributeBase (.Name x p0) "pop" X.env (eval (.Name x p0) X.env) = eval (.Name x p0) X.env := by rfl) (hline : (apos.endLine == cpos.line) = true := by rfl)
    (hs : swapsWith (.Call (.Attribute (.Name x p0) "pop" apos) [] [] cpos) (some (.Name y p1)) pos.line X.env = pure false := by rfl) (hf : X.fn y = true ∨ X.env.scope.names.lookup y = some .local := by first | exact .inl rfl | exact .inr rfl | assumption) :
    SD X Ps (.Assign [.Name y p1] (.Call (.Attribute (.Name x p0) "pop" apos) [] [] cpos) pos) (fPop i j) := by
  refine ⟨_, ps_set hNd hj hy (pe_bm0 PySem.F.plainAttrs_list PySem.F.slot_list_pop PySem.F.type_list_pop mt_pop (pe_var hN hv hd hcd) hbase hline) hs hf, fun F0 H0 F H σ ρ o E hE hf q => ?_⟩
  unfold fPop at hf
  split at hf
  · rename_i ds e0
    obtain ⟨d, e1, hf1⟩ := Option.map_eq_some_iff.mp hf
    subst hf1
    obtain ⟨a, vs, e2, h0, f0, e3, d3⟩ := hE.getO e0
    obtain ⟨v, ev, dv⟩ := dpAll_get' d3 e1
    refine ⟨_, e2, .inl ⟨rfl, vs, SqL.of e3⟩, a, vs, v, rfl, rfl, e3, by rw [dpAll_len d3]; exact ev, ?_⟩
    exact q F _ _ ((hE.mut e0 e2 (dpAll_dropLast d3)).set dv) (Same.refl _)
  · cases hf
/-- len(x) > 0 by truth: while x, if x -/
def fTruO (i : Nat) : Ro → Option Bool := fun ρ => match ρ[i]? with
  | some (.ow ds) => some (!ds.isEmpty)
  | some (.fz (.list ds)) => some (!ds.isEmpty)
  | some (.fz (.tuple ds)) => some (!ds.isEmpty)
  | _ => none
theorem dp_empty {K : PySem.W.Frag} {H : Hp} {ds : List D} {vs : List V} (h : DpAll K H vs ds) : vs.isEmpty = ds.isEmpty := by
  cases h <;> rfl
theorem td_truO (i : Nat) {x : Str} {p0 : Pos} (hN : X.N[i]? = some x := by rfl) (hv : Vis X.env.scope x := by first | exact Or.inl rfl | exact Or.inr (Or.inl rfl) | exact Or.inr (Or.inr rfl)) (hd : (x == ("__debug__" : Str)) = false := by decide) (hcd : (x == ("__classdict__" : Str)) = false := by decide) :
    TD X Ps (.Name x p0) (fTruO i) := by
  refine ⟨_, pt_truth (pe_var hN hv hd hcd) (by intro _; rfl), fun F0 H0 F H σ ρ o hE hf Q q => ?_⟩
  unfold fTruO at hf
  split at hf
  · rename_i ds e0
    cases hf
    obtain ⟨a, vs, e2, h0, f0, e3, d3⟩ := hE.getO e0
    exact ⟨_, e2, _, .inl ⟨vs, SqL.of e3, by rw [dp_empty d3]⟩, q F H hE.ok.refl⟩
  · rename_i ds e0
    cases hf
    obtain ⟨v, e2, d2⟩ := hE.get e0
    have d3 := dp_mono hE.ok.sub _ _ d2
    cases d3 with
    | lst hs ha => exact ⟨_, e2, _, .inl ⟨_, hs, by rw [dp_empty ha]⟩, q F H hE.ok.refl⟩
  · rename_i ds e0
    cases hf
    obtain ⟨v, e2, d2⟩ := hE.get e0
    have d3 := dp_mono hE.ok.sub _ _ d2
    cases d3 with
    | tup hs ha => exact ⟨_, e2, _, .inr (.inl ⟨_, hs, by rw [dp_empty ha]⟩), q F H hE.ok.refl⟩
  · cases hf
end
end FL
set_option maxHeartbeats 4000000
/-! FL4: walks, targets, loops, comprehensions, defs. -/
namespace FL
open PySem PySem.Spec PyProof.Rows L2

/-- J yields ds, whatever is made meanwhile -/
def Wk (K : PySem.W.Frag) (Ps : List Addr) (J : It) (F : Hp) (ds : List D) : Prop :=
  ∀ (i : Nat) (F0 H0 F2 H2 : Hp), Ok Ps F0 H0 F2 H2 → Same F F2 →
    (∀ d, ds[i]? = some d → J.go i H2 ∧ ∀ x H3, J.yld i H2 x H3 → ∃ F3, Ok Ps F2 H2 F3 H3 ∧ Dp K F3 x d) ∧ (ds.length ≤ i → J.stop i H2)
def SemI (K : PySem.W.Frag) (Ps : List Addr) (wi : TI) (fs : Ro → Option (List D)) : Prop :=
  ∀ (F0 H0 F H : Hp) (σ : L2.St) (ρ : Ro) (ds : List D), EnvOk K Ps F0 H0 F H σ ρ → fs ρ = some ds → ∀ R : It → Hp → Prop, (∀ J F' H', Ok Ps F H F' H' → Wk K Ps J F' ds → R J H') → wi σ H R
structure ID (X : Cx) (Ps : List Addr) (tg e : Expr) (fs : Ro → Option (List D)) : Prop where
  ex : ∃ wi, PI X tg e wi ∧ SemI X.K Ps wi fs
def cI (K : PySem.W.Frag) (Ps : List Addr) (fs : Ro → Option (List D)) : TI := fun σ H R => ∃ F0 H0 F ρ ds, EnvOk K Ps F0 H0 F H σ ρ ∧ fs ρ = some ds ∧ ∀ J F' H', Ok Ps F H F' H' → Wk K Ps J F' ds → R J H'
theorem ID.c {X : Cx} {Ps : List Addr} {tg e : Expr} {fs : Ro → Option (List D)} (h : ID X Ps tg e fs) : PI X tg e (cI X.K Ps fs) := by
  obtain ⟨t, p, s⟩ := h.ex
  exact ⟨fun pins s0 σ H R I ⟨F0, H0, F, ρ, d, hE, hf, q⟩ => p.run pins s0 σ H R I (s F0 H0 F H σ ρ d hE hf R q)⟩
theorem cI_sem {K : PySem.W.Frag} {Ps : List Addr} {fs : Ro → Option (List D)} : SemI K Ps (cI K Ps fs) fs := fun F0 H0 F H σ ρ d hE hf R q => ⟨F0, H0, F, ρ, d, hE, hf, q⟩
theorem sqT_sub {K : PySem.W.Frag} {F H : Hp} (g : Same F H) {a : Addr} {xs : List V} (h : SqT K F a xs) : SqT K H a xs := by
  rcases h with (h | ⟨o, h⟩) | h
  · exact .inl (.inl (g _ _ h))
  · exact .inl (.inr ⟨o, g _ _ h⟩)
  · exact .inr h

section
variable {X : Cx} {Ps : List Addr} {e a b c tg : Expr} {es : List Expr} {f f1 f3 : Ro → Option D} {fl fs : Ro → Option (List D)} {ft fu : Ro → Option Bool} {g h : Ro → Option Out} {pos : Pos}
def seqL : D → Option (List D)
  | .list ds => some ds
  | _ => none
def seqT : D → Option (List D)
  | .tuple ds => some ds
  | _ => none
def signs (s : Str) : List D := s.cps.toList.map fun c => .str ⟨#[c]⟩
def seqS : D → Option (List D)
  | .str s => some (signs s)
  | _ => none
def fSq (k : D → Option (List D)) (f : Ro → Option D) : Ro → Option (List D) := fun ρ => (f ρ).bind k
theorem id_list (p : PD X Ps e f) : ID X Ps tg e (fSq seqL f) := by
  obtain ⟨t, p1, s1⟩ := p.ex
  refine ⟨_, pi_list p1, fun F0 H0 F H σ ρ ds hE hf R q => ?_⟩
  obtain ⟨d, e1, hf1⟩ := Option.bind_eq_some_iff.mp hf
  cases d with
  | list ds' =>
    cases hf1
    refine s1 F0 H0 F H σ ρ _ hE e1 _ fun v F1 H1 m1 d1 => ?_
    cases d1 with
    | @lst a vs _ hs ha =>
      refine ⟨a, rfl, ⟨vs, m1.sub.seq hs⟩, q _ F1 H1 m1 fun i F0' H0' F2 H2 hO g => ⟨fun d hd => ?_, fun hl => ⟨vs, hO.sub.seq (g.seq hs), by rw [dpAll_len ha]; exact hl⟩⟩⟩
      obtain ⟨v, hv, dv⟩ := dpAll_get' ha hd
      refine ⟨⟨vs, v, hO.sub.seq (g.seq hs), hv⟩, fun x H3 y => ?_⟩
      obtain ⟨rfl, y⟩ := y
      have := y vs (hO.sub.seq (g.seq hs))
      rw [hv] at this
      cases this
      exact ⟨F2, hO.refl, dp_mono g _ _ dv⟩
  | _ => cases hf1
theorem id_tup (p : PD X Ps e f) : ID X Ps tg e (fSq seqT f) := by
  obtain ⟨t, p1, s1⟩ := p.ex
  refine ⟨_, pi_tup p1, fun F0 H0 F H σ ρ ds hE hf R q => ?_⟩
  obtain ⟨d, e1, hf1⟩ := Option.bind_eq_some_iff.mp hf
  cases d with
  | tuple ds' =>
    cases hf1
    refine s1 F0 H0 F H σ ρ _ hE e1 _ fun v F1 H1 m1 d1 => ?_
    cases d1 with
    | @tup a vs _ hs ha =>
      refine ⟨a, rfl, ⟨vs, sqT_sub m1.sub hs⟩, q _ F1 H1 m1 fun i F0' H0' F2 H2 hO g => ⟨fun d hd => ?_, fun hl => ⟨vs, sqT_sub hO.sub (sqT_sub g hs), by rw [dpAll_len ha]; exact hl⟩⟩⟩
      obtain ⟨v, hv, dv⟩ := dpAll_get' ha hd
      refine ⟨⟨vs, v, sqT_sub hO.sub (sqT_sub g hs), hv⟩, fun x H3 y => ?_⟩
      obtain ⟨rfl, y⟩ := y
      have := y vs (sqT_sub hO.sub (sqT_sub g hs))
      rw [hv] at this
      cases this
      exact ⟨F2, hO.refl, dp_mono g _ _ dv⟩
  | _ => cases hf1
theorem id_str (p : PD X Ps e f) : ID X Ps tg e (fSq seqS f) := by
  obtain ⟨t, p1, s1⟩ := p.ex
  refine ⟨_, pi_str p1, fun F0 H0 F H σ ρ ds hE hf R q => ?_⟩
  obtain ⟨d, e1, hf1⟩ := Option.bind_eq_some_iff.mp hf
  cases d with
  | str z =>
    cases hf1
    refine s1 F0 H0 F H σ ρ _ hE e1 _ fun v F1 H1 m1 d1 => ?_
    cases d1
    refine ⟨z, rfl, q _ F1 H1 m1 fun i F0' H0' F2 H2 hO g => ⟨fun d hd => ?_, fun hl => ?_⟩⟩
    · unfold signs at hd
      rw [List.getElem?_map] at hd
      obtain ⟨c, hc, rfl⟩ := Option.map_eq_some_iff.mp hd
      have hc' : z.cps[i]? = some c := by rw [← Array.getElem?_toList]; exact hc
      refine ⟨(Array.getElem?_eq_some_iff.mp hc').1, fun x H3 y => ?_⟩
      obtain ⟨rfl, c', h1, rfl⟩ := y
      rw [hc'] at h1
      cases h1
      exact ⟨F2, hO.refl, .str _⟩
    · unfold signs at hl
      rw [List.length_map] at hl
      show z.cps.size ≤ i
      simpa using hl
  | _ => cases hf1
/-- range(n) -/
def rngN (n : Int) : List D := (List.range n.toNat).map fun (i : Nat) => .int (i : Int)
def seqR : List D → Option (List D)
  | [.int n] => if -1000000 ≤ n ∧ n ≤ 1000000 then some (rngN n) else none
  | _ => none
def fRng (fl : Ro → Option (List D)) : Ro → Option (List D) := fun ρ => (fl ρ).bind seqR
theorem id_range {p : Pos} (hg : Gl X "range") (hm : X.mg "range" = none) (pa : AD X Ps [a] fl) (hs : starEach [a] X.env = [(false, eval a X.env)] := by rfl) : ID X Ps tg (.Call (.Name "range" p) [a] [] pos) (fRng fl) := by
  obtain ⟨t, p1, s1⟩ := pa.ex
  refine ⟨_, pi_range1 hg hm p1 hs, fun F0 H0 F H σ ρ ds hE hf R q => ?_⟩
  obtain ⟨xs, e1, hf1⟩ := Option.bind_eq_some_iff.mp hf
  unfold seqR at hf1
  split at hf1
  · rename_i n
    split at hf1
    · rename_i hn
      cases hf1
      refine s1 F0 H0 F H σ ρ _ hE e1 _ fun vs F1 H1 m1 d1 => ?_
      cases d1 with
      | cons d1 d2 =>
        cases d2
        cases d1
        refine ⟨n, rfl, by omega, by omega, q _ F1 H1 m1 fun i F0' H0' F2 H2 hO g => ⟨fun d hd => ?_, fun hl => ?_⟩⟩
        · unfold rngN at hd
          rw [List.getElem?_map] at hd
          obtain ⟨c, hc, rfl⟩ := Option.map_eq_some_iff.mp hd
          obtain ⟨hi, ei⟩ := List.getElem?_eq_some_iff.mp hc
          rw [List.length_range] at hi
          rw [List.getElem_range] at ei
          subst ei
          refine ⟨hi, fun x H3 y => ?_⟩
          obtain ⟨rfl, rfl⟩ := y
          refine ⟨F2, hO.refl, ?_⟩
          rw [Int.zero_add]
          exact .int _
        · unfold rngN at hl
          rw [List.length_map, List.length_range] at hl
          exact hl
    · cases hf1
  · cases hf1

/-- what is held alone was so before -/
def OwnSub (σ : L2.St) (ρ : Ro) (σ' : L2.St) (ρ' : Ro) : Prop := ∀ (k : Nat) es, ρ'[k]? = some (.ow es) → ρ[k]? = some (.ow es) ∧ σ'[k]? = σ[k]?
theorem OwnSub.trans {σ σ1 σ2 : L2.St} {ρ ρ1 ρ2 : Ro} (a : OwnSub σ ρ σ1 ρ1) (b : OwnSub σ1 ρ1 σ2 ρ2) : OwnSub σ ρ σ2 ρ2 := fun k es h => by
  obtain ⟨h1, h2⟩ := b k es h
  obtain ⟨h3, h4⟩ := a k es h1
  exact ⟨h3, h2.trans h4⟩
theorem OwnSub.set {σ : L2.St} {ρ : Ro} (i : Nat) (v : Option V) (d : D) : OwnSub σ ρ (σ.set i v) (ρ.set i (.fz d)) := fun k es h => by
  have n : i ≠ k := fun z => by
    subst z
    have hi : i < ρ.length := by
      have := (List.getElem?_eq_some_iff.mp h).1
      simpa using this
    rw [List.getElem?_set_self hi] at h
    cases h
  rw [List.getElem?_set_ne n] at h
  exact ⟨h, List.getElem?_set_ne n⟩

/-! ### targets -/
def SemG (K : PySem.W.Frag) (Ps : List Addr) (g : TG) (js : List Nat) (fg : D → Ro → Option Ro) : Prop :=
  ∀ (F0 H0 F H : Hp) (σ : L2.St) (ρ : Ro) (v : V) (d : D) (ρ' : Ro), EnvOk K Ps F0 H0 F H σ ρ → Dp K F v d → fg d ρ = some ρ' → ∀ Q : L2.St → Hp → Prop,
    (∀ σ', EnvOk K Ps F0 H0 F H σ' ρ' → σ'.length = σ.length → (∀ k, k ∉ js → σ'[k]? = σ[k]?) → OwnSub σ ρ σ' ρ' → Q σ' H) → g v σ H Q
def SemGs (K : PySem.W.Frag) (Ps : List Addr) (g : TGs) (js : List Nat) (fg : List D → Ro → Option Ro) : Prop :=
  ∀ (F0 H0 F H : Hp) (σ : L2.St) (ρ : Ro) (vs : List V) (ds : List D) (ρ' : Ro), EnvOk K Ps F0 H0 F H σ ρ → DpAll K F vs ds → fg ds ρ = some ρ' → ∀ Q : L2.St → Hp → Prop,
    (∀ σ', EnvOk K Ps F0 H0 F H σ' ρ' → σ'.length = σ.length → (∀ k, k ∉ js → σ'[k]? = σ[k]?) → OwnSub σ ρ σ' ρ' → Q σ' H) → g vs σ H Q
structure GD (X : Cx) (Ps : List Addr) (tg : Expr) (js : List Nat) (fg : D → Ro → Option Ro) : Prop where
  ex : ∃ g, PG X tg g ∧ SemG X.K Ps g js fg
structure GsD (X : Cx) (Ps : List Addr) (tgs : List Expr) (js : List Nat) (fg : List D → Ro → Option Ro) : Prop where
  ex : ∃ g, PGs X tgs g ∧ SemGs X.K Ps g js fg
def cG (K : PySem.W.Frag) (Ps : List Addr) (js : List Nat) (fg : D → Ro → Option Ro) : TG := fun v σ H Q => ∃ F0 H0 F ρ d ρ', EnvOk K Ps F0 H0 F H σ ρ ∧ Dp K F v d ∧ fg d ρ = some ρ' ∧ (∀ σ', EnvOk K Ps F0 H0 F H σ' ρ' → σ'.length = σ.length → (∀ k, k ∉ js → σ'[k]? = σ[k]?) → OwnSub σ ρ σ' ρ' → Q σ' H)
theorem GD.can {js : List Nat} {fg : D → Ro → Option Ro} (h : GD X Ps tg js fg) : PG X tg (cG X.K Ps js fg) := by
  obtain ⟨t, p, s⟩ := h.ex
  exact ⟨fun pins s0 σ H v u Q I r ⟨F0, H0, F, ρ, d, ρ', hE, hd, hf, q⟩ => p.run pins s0 σ H v u Q I r (s F0 H0 F H σ ρ v d ρ' hE hd hf Q q)⟩
theorem cG_sem {K : PySem.W.Frag} {js : List Nat} {fg : D → Ro → Option Ro} : SemG K Ps (cG K Ps js fg) js fg := fun F0 H0 F H σ ρ v d ρ' hE hd hf Q q => ⟨F0, H0, F, ρ, d, ρ', hE, hd, hf, q⟩
def gN (i : Nat) : D → Ro → Option Ro := fun d ρ => some (ρ.set i (.fz d))
theorem gd_name {i : Nat} {x : Str} (hN : X.N.Nodup) (hi : X.N[i]? = some x) (hx : Loc X.env.scope x) (hf : X.fn x = true ∨ X.env.scope.names.lookup x = some .local := by first | exact .inl rfl | exact .inr rfl | assumption) : GD X Ps (.Name x pos) [i] (gN i) :=
  ⟨_, pg_name hN hi hx hf, fun F0 H0 F H σ ρ v d ρ' hE hd hf Q q => by
    cases hf
    exact q _ (hE.set hd) (by simp) (fun k hk => List.getElem?_set_ne (fun z => hk (by simp [z]))) (OwnSub.set i _ _)⟩
def gsN : List D → Ro → Option Ro
  | [], ρ => some ρ
  | _ :: _, _ => none
theorem gsd_nil : GsD X Ps [] [] gsN := ⟨_, pgs_nil, fun F0 H0 F H σ ρ vs ds ρ' hE hd hf Q q => by
  cases ds with
  | nil =>
    cases hd
    cases hf
    exact ⟨rfl, q σ hE rfl (fun _ _ => rfl) fun _ _ h => ⟨h, rfl⟩⟩
  | cons _ _ => cases hf⟩
def gsC (g : D → Ro → Option Ro) (gs : List D → Ro → Option Ro) : List D → Ro → Option Ro
  | [], _ => none
  | d :: ds, ρ => (g d ρ).bind fun ρ1 => gs ds ρ1
theorem gsd_cons {js js' : List Nat} {fg : D → Ro → Option Ro} {fgs : List D → Ro → Option Ro} (p : GD X Ps e js fg) (r : GsD X Ps es js' fgs) (hs : (assignEach (e :: es) X.env).map (·.2) = assign e X.env :: (assignEach es X.env).map (·.2) := by rfl) : GsD X Ps (e :: es) (js ++ js') (gsC fg fgs) := by
  obtain ⟨t, p1, s1⟩ := p.ex
  obtain ⟨u, p2, s2⟩ := r.ex
  refine ⟨_, pgs_cons p1 p2 hs, fun F0 H0 F H σ ρ vs ds ρ' hE hd hf Q q => ?_⟩
  cases hd with
  | nil => cases hf
  | @cons v vs d ds h1 h2 =>
    obtain ⟨ρ1, e1, hf1⟩ := Option.bind_eq_some_iff.mp hf
    refine ⟨v, vs, rfl, s1 F0 H0 F H σ ρ v d ρ1 hE h1 e1 _ fun σ1 hE1 l1 k1 w1 => ?_⟩
    exact s2 F0 H0 F H σ1 ρ1 vs ds ρ' hE1 h2 hf1 Q fun σ2 hE2 l2 k2 w2 => q σ2 hE2 (l2.trans l1) (fun k hk => by
      rw [List.mem_append, not_or] at hk
      exact (k2 k hk.2).trans (k1 k hk.1)) (w1.trans w2)
def gT (n : Nat) (gs : List D → Ro → Option Ro) : D → Ro → Option Ro
  | .tuple ds, ρ => if ds.length = n then gs ds ρ else none
  | _, _ => none
theorem gd_tup {k n : Nat} {js : List Nat} {fgs : List D → Ro → Option Ro} (hc : X.calm = true) (p : GsD X Ps es js fgs) (hn : (assignEach es X.env).length = n := by rfl) (hst : (assignEach es X.env).findIdx? (·.1) = none := by rfl) : GD X Ps (.Tuple es k pos) js (gT n fgs) := by
  obtain ⟨t, p1, s1⟩ := p.ex
  refine ⟨_, pg_tup hc p1 hn hst, fun F0 H0 F H σ ρ v d ρ' hE hd hf Q q => ?_⟩
  cases d with
  | tuple ds =>
    cases hd with
    | @tup a vs _ hs ha =>
      have hf : (if ds.length = n then fgs ds ρ else none) = some ρ' := hf
      split at hf
      · rename_i hl
        exact ⟨a, vs, rfl, sqT_sub hE.ok.sub hs, (dpAll_len ha).trans hl, s1 F0 H0 F H σ ρ vs ds ρ' hE ha hf Q q⟩
      · cases hf
  | _ => cases hf
def fAsg (fg : D → Ro → Option Ro) (f : Ro → Option D) : Ro → Option Out := fun ρ => (f ρ).bind fun d => (fg d ρ).map .nx
theorem sd_asg {js : List Nat} {fg : D → Ro → Option Ro} (p : PD X Ps e f) (pg : GD X Ps tg js fg) (hs : swapsWithSole [tg] e pos.line X.env = pure false := by rfl) (hw : swappedStores [tg] e X.env = pure none := by rfl)
    (h1 : (assignEach [tg] X.env).map (·.2) = [assign tg X.env] := by rfl) : SD X Ps (.Assign [tg] e pos) (fAsg fg f) := by
  obtain ⟨t, p1, s1⟩ := p.ex
  obtain ⟨u, p2, s2⟩ := pg.ex
  refine ⟨_, ps_asg p1 p2 hs hw h1, fun F0 H0 F H σ ρ o E hE hf q => ?_⟩
  obtain ⟨d, e1, hf1⟩ := Option.bind_eq_some_iff.mp hf
  obtain ⟨ρ1, e2, rfl⟩ := Option.map_eq_some_iff.mp hf1
  exact s1 F0 H0 F H σ ρ d hE e1 _ fun v F1 H1 m1 d1 => s2 F0 H0 F1 H1 σ ρ v d ρ1 (hE.move m1) d1 e2 _ fun σ' hE' _ _ _ => q F1 H1 σ' hE' m1.grow

/-! ### for, while -/
def loopF (fg : D → Ro → Option Ro) (fb : Ro → Option Out) : List D → Ro → Option Out
  | [], ρ => some (.nx ρ)
  | d :: ds, ρ => (fg d ρ).bind fun ρ1 => (fb ρ1).bind fun o => match o with
    | .nx ρ2 => loopF fg fb ds ρ2
    | .ct ρ2 => loopF fg fb ds ρ2
    | .bk ρ2 => some (.nx ρ2)
    | .rt d => some (.rt d)
def fFor (fs : Ro → Option (List D)) (fg : D → Ro → Option Ro) (fb : Ro → Option Out) : Ro → Option Out := fun ρ => (fs ρ).bind fun ds => loopF fg fb ds ρ
theorem sd_for {js : List Nat} {fg : D → Ro → Option Ro} {fb : Ro → Option Out} {body : List Stmt} (hp : PassesOwn (model X.prog X.w) X.A X.env X.xe) (hc : X.calm = true) (pi : ID X Ps tg e fs) (pg : GD X Ps tg js fg) (pb : BD X Ps body fb)
    (hs : ∀ x, foldedSetIterable e X.env x = pure x := by intro _; rfl) : SD X Ps (.For tg e body [] pos) (fFor fs fg fb) := by
  obtain ⟨wi, p1, s1⟩ := pi.ex
  obtain ⟨tg', p2, s2⟩ := pg.ex
  obtain ⟨tb, p3, s3⟩ := pb.ex
  refine ⟨_, ps_for hp hc p1 p2 p3 hs, fun F0 H0 F H σ ρ o E hE hf q => ?_⟩
  obtain ⟨ds, e1, hf1⟩ := Option.bind_eq_some_iff.mp hf
  refine s1 F0 H0 F H σ ρ ds hE e1 _ fun J F1 H1 m1 wk => ?_
  refine ⟨fun i m σ' H' => m = ds.length - i ∧ i ≤ ds.length ∧ ∃ F' ρ', EnvOk X.K Ps F0 H0 F' H' σ' ρ' ∧ Same F1 F' ∧ loopF fg fb (ds.drop i) ρ' = some o, ⟨_, rfl, Nat.zero_le _, F1, ρ, hE.move m1, Same.refl _, hf1⟩, ?_⟩
  rintro i m σ' H' ⟨rfl, hi, F', ρ', hE', g', hl⟩
  obtain ⟨hgo, hst⟩ := wk i F0 H0 F' H' hE'.ok g'
  by_cases hlt : i < ds.length
  · have hd : ds[i]? = some ds[i] := List.getElem?_eq_getElem hlt
    obtain ⟨go, yl⟩ := hgo _ hd
    rw [List.drop_eq_getElem_cons hlt] at hl
    obtain ⟨ρ1, e2, hl1⟩ := Option.bind_eq_some_iff.mp hl
    obtain ⟨o1, e3, hl2⟩ := Option.bind_eq_some_iff.mp hl1
    refine .inr ⟨go, fun σ2 H2 => ∃ F2 ρ2, EnvOk X.K Ps F0 H0 F2 H2 σ2 ρ2 ∧ Same F1 F2 ∧ loopF fg fb (ds.drop (i + 1)) ρ2 = some o, fun σ2 H2 w => ⟨ds.length - (i + 1), by omega, rfl, hlt, w⟩, fun x H3 y => ?_⟩
    obtain ⟨F3, m3, d3⟩ := yl x H3 y
    refine s2 F0 H0 F3 H3 σ' ρ' x _ ρ1 (hE'.move m3) d3 e2 _ fun σ4 hE4 _ _ _ => ?_
    have g3 : Same F1 F3 := g'.trans m3.grow
    refine s3 F0 H0 F3 H3 σ4 ρ1 o1 _ hE4 e3 ?_
    cases o1 with
    | nx ρ2 => exact fun F5 H5 σ5 hE5 g5 => ⟨F5, ρ2, hE5, g3.trans g5, hl2⟩
    | ct ρ2 => exact fun F5 H5 σ5 hE5 g5 => ⟨F5, ρ2, hE5, g3.trans g5, hl2⟩
    | bk ρ2 =>
      cases hl2
      exact fun F5 H5 σ5 hE5 g5 => q F5 H5 σ5 hE5 ((m1.grow.trans g3).trans g5)
    | rt d =>
      cases hl2
      exact q
  · have e : i = ds.length := by omega
    subst e
    rw [List.drop_length] at hl
    cases hl
    exact .inl ⟨hst (Nat.le_refl _), q F' H' σ' hE' (m1.grow.trans g')⟩
def whileF (ft : Ro → Option Bool) (fb : Ro → Option Out) : Nat → Ro → Option Out
  | 0, _ => none
  | n + 1, ρ => (ft ρ).bind fun b => if b = true then (fb ρ).bind fun o => match o with
      | .nx ρ2 => whileF ft fb n ρ2
      | .ct ρ2 => whileF ft fb n ρ2
      | .bk ρ2 => some (.nx ρ2)
      | .rt d => some (.rt d)
    else some (.nx ρ)
theorem sd_while {fb : Ro → Option Out} {body : List Stmt} (n : Nat) (hp : PassesOwn (model X.prog X.w) X.A X.env X.xe) (pc : TD X Ps c ft) (pb : BD X Ps body fb) : SD X Ps (.While c body [] pos) (whileF ft fb n) := by
  obtain ⟨tc, p1, s1⟩ := pc.ex
  obtain ⟨tb, p3, s3⟩ := pb.ex
  refine ⟨_, ps_while hp p1 p3, fun F0 H0 F H σ ρ o E hE hf q => ?_⟩
  refine ⟨fun m σ' H' => ∃ F' ρ', EnvOk X.K Ps F0 H0 F' H' σ' ρ' ∧ Same F F' ∧ whileF ft fb m ρ' = some o, ⟨n, F, ρ, hE, Same.refl _, hf⟩, ?_⟩
  rintro m σ' H' ⟨F', ρ', hE', g', hl⟩
  cases m with
  | zero => cases hl
  | succ m =>
    obtain ⟨b, e1, hl1⟩ := Option.bind_eq_some_iff.mp hl
    refine s1 F0 H0 F' H' σ' ρ' b hE' e1 _ fun F1 H1 m1 => ?_
    cases b with
    | true =>
      rw [if_pos rfl] at hl1 ⊢
      obtain ⟨o1, e3, hl2⟩ := Option.bind_eq_some_iff.mp hl1
      refine ⟨fun σ2 H2 => ∃ F2 ρ2, EnvOk X.K Ps F0 H0 F2 H2 σ2 ρ2 ∧ Same F F2 ∧ whileF ft fb m ρ2 = some o, fun σ2 H2 w => ⟨m, Nat.lt_succ_self m, w⟩, ?_⟩
      refine s3 F0 H0 F1 H1 σ' ρ' o1 _ (hE'.move m1) e3 ?_
      have g1 : Same F F1 := g'.trans m1.grow
      cases o1 with
      | nx ρ2 => exact fun F5 H5 σ5 hE5 g5 => ⟨F5, ρ2, hE5, g1.trans g5, hl2⟩
      | ct ρ2 => exact fun F5 H5 σ5 hE5 g5 => ⟨F5, ρ2, hE5, g1.trans g5, hl2⟩
      | bk ρ2 =>
        cases hl2
        exact fun F5 H5 σ5 hE5 g5 => q F5 H5 σ5 hE5 (g1.trans g5)
      | rt d =>
        cases hl2
        exact q
    | false =>
      rw [if_neg Bool.false_ne_true] at hl1 ⊢
      cases hl1
      exact q F1 H1 σ' (hE'.move m1) (g'.trans m1.grow)
end
end FL
set_option maxHeartbeats 4000000
/-! FL5: comprehensions, the rule of a def. -/
namespace FL
open PySem PySem.Spec PyProof.Rows L2

theorem wipe_in {σ : L2.St} {k : Nat} : ∀ {vs : List Nat}, k ∈ vs → k < σ.length → (wipe σ vs)[k]? = some none
  | v :: vs, h, hk => by
    unfold wipe
    by_cases q : v = k
    · subst q
      exact List.getElem?_set_self (by rw [wipe_length]; exact hk)
    · rw [List.getElem?_set_ne q]
      rcases List.mem_cons.mp h with z | z
      · exact absurd z.symm q
      · exact wipe_in z hk
theorem wipe_same {σ σ2 : L2.St} {vs js : List Nat} (hj : ∀ j ∈ js, j ∈ vs) (hl : σ2.length = σ.length) (hk : ∀ k, k ∉ js → σ2[k]? = (wipe σ vs)[k]?) : wipe σ2 vs = wipe σ vs := by
  apply List.ext_getElem?
  intro k
  by_cases h : k ∈ vs
  · by_cases hlt : k < σ.length
    · rw [wipe_in h hlt, wipe_in h (by rw [hl]; exact hlt)]
    · rw [List.getElem?_eq_none (by rw [wipe_length, hl]; omega), List.getElem?_eq_none (by rw [wipe_length]; omega)]
  · rw [wipe_out h]
    exact hk k fun z => h (hj k z)

def NotOwn (A : Addr) (σ : L2.St) (ρ : Ro) : Prop := ∀ (k : Nat) es, ρ[k]? = some (.ow es) → σ[k]? ≠ some (some (.ref A))
theorem NotOwn.sub {A : Addr} {σ σ' : L2.St} {ρ ρ' : Ro} (h : NotOwn A σ ρ) (w : OwnSub σ ρ σ' ρ') : NotOwn A σ' ρ' := fun k es e => by
  obtain ⟨h1, h2⟩ := w k es e
  rw [h2]
  exact h k es h1
theorem EnvOk.notOwn {K : PySem.W.Frag} {Ps : List Addr} {F0 H0 F H : Hp} {σ : L2.St} {ρ : Ro} (h : EnvOk K Ps F0 H0 F H σ ρ) {A : Addr} (hA : H A = none) : NotOwn A σ ρ := fun k es e z => by
  obtain ⟨a, vs, e1, _, _, e2, _⟩ := h.getO e
  rw [z] at e1
  cases e1
  rw [hA] at e2
  cases e2
theorem EnvOk.mutOut {K : PySem.W.Frag} {Ps : List Addr} {F0 H0 F H : Hp} {σ : L2.St} {ρ : Ro} (h : EnvOk K Ps F0 H0 F H σ ρ) {A : Addr} {xs ys : List V} (h0 : H0 A = none) (f0 : F A = none) (e : H A = some (.lst xs)) (no : NotOwn A σ ρ) : EnvOk K Ps F0 H0 F (upd H A (.lst ys)) σ ρ where
  ok := h.ok.mut h0 f0 e
  len := h.len
  dis := h.dis
  slot := fun i s en hs he => by
    have r := h.slot i s en hs he
    cases en with
    | no => exact True.intro
    | fz d => exact r
    | ow ds =>
      obtain ⟨b, ws, e5, h5, f5, e6, d5⟩ := r
      refine ⟨b, ws, e5, h5, f5, ?_, d5⟩
      have z : b ≠ A := fun z => by
        subst z
        rw [e5] at hs
        exact no i ds he hs
      rw [upd_ne z]
      exact e6

def TsD (X : Cx) (Ps : List Addr) (ifs : List Expr) (ft : Ro → Option Bool) : Prop := PTs X ifs (cT X.K Ps ft)
section
variable {X : Cx} {Ps : List Addr} {e a b c tg : Expr} {es : List Expr} {f f1 f3 : Ro → Option D} {fl fs : Ro → Option (List D)} {ft fu : Ro → Option Bool} {g h : Ro → Option Out} {pos : Pos}
def fYes : Ro → Option Bool := fun _ => some true
theorem tsd_nil : TsD X Ps [] fYes := ⟨fun pins s σ H Q I ⟨F0, H0, F, ρ, d, hE, hf, q⟩ => by cases hf; exact pts_nil.run pins s σ H Q I (q F H hE.ok.refl)⟩
theorem tsd_one (p : TD X Ps e ft) : TsD X Ps [e] ft := pts_one p.c

def lcF (fg : D → Ro → Option Ro) (ft : Ro → Option Bool) (fe : Ro → Option D) (ρ0 : Ro) : List D → List D → Option (List D)
  | [], acc => some acc
  | x :: xs, acc => (fg x ρ0).bind fun ρ1 => (ft ρ1).bind fun b => if b = true then (fe ρ1).bind fun d => if acc.length < 1000000 then lcF fg ft fe ρ0 xs (acc ++ [d]) else none else lcF fg ft fe ρ0 xs acc
def fLc (vs : List Nat) (fs : Ro → Option (List D)) (fg : D → Ro → Option Ro) (ft : Ro → Option Bool) (fe : Ro → Option D) : Ro → Option (List D) := fun ρ => (fs ρ).bind fun ds => lcF fg ft fe (wipeR ρ vs) ds []
theorem lt_size {n : Nat} (h : n < 1000000) : n < sizeLine := Nat.lt_of_lt_of_le h (by decide)
theorem sem_lc {K : PySem.W.Frag} {vs js : List Nat} {wi : TI} {fg : D → Ro → Option Ro} {fe : Ro → Option D} (hj : ∀ j ∈ js, j ∈ vs) (s1 : SemI K Ps wi fs) : SemL K Ps (tLc wi (cG K Ps js fg) (cT K Ps ft) (cE K Ps fe) vs) (fLc vs fs fg ft fe) := by
  intro F0 H0 F H σ ρ res hE hf Q q
  obtain ⟨ds, e1, hf1⟩ := Option.bind_eq_some_iff.mp hf
  refine s1 F0 H0 F H σ ρ ds hE e1 _ fun J F1 H1 m1 wk A hA => ?_
  have hE1 := hE.move m1
  have m2 := m1.new_ow hA (.lst [])
  have fA : F1 A = none := fno_new m1 hA
  refine ⟨fun i m H' => m = ds.length - i ∧ i ≤ ds.length ∧ ∃ F' vs' acc, Ok Ps F1 H1 F' H' ∧ F' A = none ∧ H' A = some (.lst vs') ∧ DpAll K F' vs' acc ∧ lcF fg ft fe (wipeR ρ vs) (ds.drop i) acc = some res, ⟨_, rfl, Nat.zero_le _, F1, [], [], m2, fA, upd_same, .nil, hf1⟩, ?_⟩
  rintro i m H' ⟨rfl, hi, F', vs', acc, o', f', e', d', hl⟩
  have hE' := hE1.move o'
  obtain ⟨hgo, hst⟩ := wk i F0 H0 F' H' hE'.ok o'.grow
  by_cases hlt : i < ds.length
  · have hd : ds[i]? = some ds[i] := List.getElem?_eq_getElem hlt
    obtain ⟨go, yl⟩ := hgo _ hd
    rw [List.drop_eq_getElem_cons hlt] at hl
    obtain ⟨ρ1, e2, hl1⟩ := Option.bind_eq_some_iff.mp hl
    obtain ⟨b, e3, hl2⟩ := Option.bind_eq_some_iff.mp hl1
    refine .inr ⟨go, fun H2 => ∃ F' vs' acc, Ok Ps F1 H1 F' H2 ∧ F' A = none ∧ H2 A = some (.lst vs') ∧ DpAll K F' vs' acc ∧ lcF fg ft fe (wipeR ρ vs) (ds.drop (i + 1)) acc = some res, fun H2 w => ⟨ds.length - (i + 1), by omega, rfl, hlt, w⟩, fun x H3 y => ?_⟩
    obtain ⟨F3, m3, d3⟩ := yl x H3 y
    have hE3 := (hE'.move m3).wipe vs
    refine cG_sem F0 H0 F3 H3 _ _ x _ ρ1 hE3 d3 e2 _ fun σ4 hE4 l4 k4 w4 => ⟨wipe_same hj (by rw [l4, wipe_length]) k4, ?_⟩
    refine cT_sem F0 H0 F3 H3 σ4 ρ1 b hE4 e3 _ fun F5 H5 m5 => ?_
    have o3 := o'.trans (m3.trans m5)
    obtain ⟨f5, e5⟩ := o'.keepO (m3.trans m5) f' e'
    have d5 := dpAll_mono (m3.grow.trans m5.grow) _ _ d'
    cases b with
    | true =>
      rw [if_pos rfl] at hl2 ⊢
      obtain ⟨dd, e6, hl3⟩ := Option.bind_eq_some_iff.mp hl2
      split at hl3
      · rename_i hz
        refine cE_sem F0 H0 F5 H5 σ4 ρ1 dd (hE4.move m5) e6 _ fun v F7 H7 m7 d7 => ?_
        obtain ⟨f7, e7⟩ := o3.keepO m7 f5 e5
        have d8 := dpAll_mono m7.grow _ _ d5
        refine ⟨vs', e7, lt_size (by rw [dpAll_len d8]; exact hz), F7, vs' ++ [v], acc ++ [dd], (o3.trans m7).mut hA f7 e7, f7, upd_same, dpAll_app d8 (dpAll_one d7), hl3⟩
      · cases hl3
    | false =>
      rw [if_neg Bool.false_ne_true] at hl2 ⊢
      exact ⟨F5, vs', acc, o3, f5, e5, d5, hl2⟩
  · have e : i = ds.length := by omega
    subst e
    rw [List.drop_length] at hl
    cases hl
    exact .inl ⟨hst (Nat.le_refl _), q A vs' F' H' (m1.trans o') (m1.none0 hA) f' e' d'⟩
theorem ld_lc {elt : Expr} {ifs : List Expr} {scope : Scope} {own : List (Str × Nat)} {js : List Nat} {fg : D → Ro → Option Ro} {fe : Ro → Option D} (hc : X.calm = true) (hN : X.N.Nodup) (pi : ID X Ps tg e fs) (ok : BlkOk X.N X.env.scope scope own) (hj : ∀ j ∈ js, j ∈ own.map (·.2))
    (pg : ∀ (s : Shared) (H : Hp) (C : Addr) (cl : List (Str × Addr)) (fp : List Addr), GD (X.blk s H scope (compEnvC scope cl C X.env) fp) Ps tg js fg) (pt : ∀ (s : Shared) (H : Hp) (C : Addr) (cl : List (Str × Addr)) (fp : List Addr), TsD (X.blk s H scope (compEnvC scope cl C X.env) fp) Ps ifs ft)
    (pe : ∀ (s : Shared) (H : Hp) (C : Addr) (cl : List (Str × Addr)) (fp : List Addr), PD (X.blk s H scope (compEnvC scope cl C X.env) fp) Ps elt fe) (hs : ∀ x, foldedSetIterable e X.env x = pure x := by intro _; rfl) :
    LD X Ps (.ListComp elt [⟨tg, e, ifs, 0⟩] scope pos) (fLc (own.map (·.2)) fs fg ft fe) := by
  obtain ⟨wi, p1, s1⟩ := pi.ex
  exact ⟨_, pe_lc (g := cG X.K Ps js fg) (tt := cT X.K Ps ft) (te := cE X.K Ps fe) hc hN p1 ok (fun s H C cl fp => (pg s H C cl fp).can) (fun s H C cl fp => pt s H C cl fp) (fun s H C cl fp => (pe s H C cl fp).c) hs, sem_lc hj s1⟩
/-- y = [..] -/
theorem sd_setLc {elt : Expr} {ifs : List Expr} {scope : Scope} {own : List (Str × Nat)} {js : List Nat} {fg : D → Ro → Option Ro} {fe : Ro → Option D} {i : Nat} {y : Str} {py spos : Pos} (hc : X.calm = true) (hN : X.N.Nodup) (hy : X.N[i]? = some y) (hyl : X.env.scope.names.lookup y = some .local)
    (hsw : swapsWith (.ListComp elt [⟨tg, e, ifs, 0⟩] scope pos) (some (.Name y py)) spos.line X.env = pure true) (pi : ID X Ps tg e fs) (ok : BlkOk X.N X.env.scope scope own) (hj : ∀ j ∈ js, j ∈ own.map (·.2))
    (pg : ∀ (s : Shared) (H : Hp) (C : Addr) (cl : List (Str × Addr)) (fp : List Addr), GD (X.blk s H scope (compEnvC scope cl C X.env) fp) Ps tg js fg) (pt : ∀ (s : Shared) (H : Hp) (C : Addr) (cl : List (Str × Addr)) (fp : List Addr), TsD (X.blk s H scope (compEnvC scope cl C X.env) fp) Ps ifs ft)
    (pe : ∀ (s : Shared) (H : Hp) (C : Addr) (cl : List (Str × Addr)) (fp : List Addr), PD (X.blk s H scope (compEnvC scope cl C X.env) fp) Ps elt fe) (hs : ∀ x, foldedSetIterable e X.env x = pure x := by intro _; rfl) :
    SD X Ps (.Assign [.Name y py] (.ListComp elt [⟨tg, e, ifs, 0⟩] scope pos) spos) (fSetO i (fLc (own.map (·.2)) fs fg ft fe)) := by
  obtain ⟨wi, p1, s1⟩ := pi.ex
  refine ⟨_, ps_setLc (g := cG X.K Ps js fg) (tt := cT X.K Ps ft) (te := cE X.K Ps fe) hc hN hy hyl hsw p1 ok (fun s H C cl fp => (pg s H C cl fp).can) (fun s H C cl fp => pt s H C cl fp) (fun s H C cl fp => (pe s H C cl fp).c) hs, fun F0 H0 F H σ ρ o E hE hf q => ?_⟩
  obtain ⟨d, e1, hf1⟩ := Option.map_eq_some_iff.mp hf
  subst hf1
  exact sem_lc hj s1 F0 H0 F H σ ρ d hE e1 _ fun a vs F1 H1 m1 hn hf ha d1 => q F1 H1 _ (hE.setO m1 hn hf ha d1) m1.grow

/-! two clauses -/
def lcF2 (fg : D → Ro → Option Ro) (ft : Ro → Option Bool) (fs1 : Ro → Option (List D)) (vs1 : List Nat) (fg1 : D → Ro → Option Ro) (ft1 : Ro → Option Bool) (fe : Ro → Option D) (ρ0 : Ro) : List D → List D → Option (List D)
  | [], acc => some acc
  | x :: xs, acc => (fg x ρ0).bind fun ρ1 => (ft ρ1).bind fun b => if b = true then (fs1 ρ1).bind fun ys => (lcF fg1 ft1 fe (wipeR ρ1 vs1) ys acc).bind fun acc' => lcF2 fg ft fs1 vs1 fg1 ft1 fe ρ0 xs acc' else lcF2 fg ft fs1 vs1 fg1 ft1 fe ρ0 xs acc
def fLc2 (vs vs1 : List Nat) (fs : Ro → Option (List D)) (fg : D → Ro → Option Ro) (ft : Ro → Option Bool) (fs1 : Ro → Option (List D)) (fg1 : D → Ro → Option Ro) (ft1 : Ro → Option Bool) (fe : Ro → Option D) : Ro → Option (List D) := fun ρ => (fs ρ).bind fun ds => lcF2 fg ft fs1 vs1 fg1 ft1 fe (wipeR ρ vs) ds []
theorem sem_lc2 {K : PySem.W.Frag} {vs vs1 js js1 : List Nat} {wi : TI} {fg fg1 : D → Ro → Option Ro} {fe : Ro → Option D} {fs1 : Ro → Option (List D)} {ft1 : Ro → Option Bool} (hj : ∀ j ∈ js, j ∈ vs) (hj1 : ∀ j ∈ js1, j ∈ vs1) (s1 : SemI K Ps wi fs) :
    SemL K Ps (tLc2 wi (cG K Ps js fg) (cT K Ps ft) (cI K Ps fs1) (cG K Ps js1 fg1) (cT K Ps ft1) (cE K Ps fe) vs vs1) (fLc2 vs vs1 fs fg ft fs1 fg1 ft1 fe) := by
  intro F0 H0 F H σ ρ res hE hf Q q
  obtain ⟨ds, e1, hf1⟩ := Option.bind_eq_some_iff.mp hf
  refine s1 F0 H0 F H σ ρ ds hE e1 _ fun J F1 H1 m1 wk A hA => ?_
  have hE1 := hE.move m1
  have m2 := m1.new_ow hA (.lst [])
  have fA : F1 A = none := fno_new m1 hA
  refine ⟨fun i m H' => m = ds.length - i ∧ i ≤ ds.length ∧ ∃ F' vs' acc, Ok Ps F1 H1 F' H' ∧ F' A = none ∧ H' A = some (.lst vs') ∧ DpAll K F' vs' acc ∧ lcF2 fg ft fs1 vs1 fg1 ft1 fe (wipeR ρ vs) (ds.drop i) acc = some res, ⟨_, rfl, Nat.zero_le _, F1, [], [], m2, fA, upd_same, .nil, hf1⟩, ?_⟩
  rintro i m H' ⟨rfl, hi, F', vs', acc, o', f', e', d', hl⟩
  have hE' := hE1.move o'
  obtain ⟨hgo, hst⟩ := wk i F0 H0 F' H' hE'.ok o'.grow
  by_cases hlt : i < ds.length
  · have hd : ds[i]? = some ds[i] := List.getElem?_eq_getElem hlt
    obtain ⟨go, yl⟩ := hgo _ hd
    rw [List.drop_eq_getElem_cons hlt] at hl
    obtain ⟨ρ1, e2, hl1⟩ := Option.bind_eq_some_iff.mp hl
    obtain ⟨b, e3, hl2⟩ := Option.bind_eq_some_iff.mp hl1
    refine .inr ⟨go, fun H2 => ∃ F' vs' acc, Ok Ps F1 H1 F' H2 ∧ F' A = none ∧ H2 A = some (.lst vs') ∧ DpAll K F' vs' acc ∧ lcF2 fg ft fs1 vs1 fg1 ft1 fe (wipeR ρ vs) (ds.drop (i + 1)) acc = some res, fun H2 w => ⟨ds.length - (i + 1), by omega, rfl, hlt, w⟩, fun x H3 y => ?_⟩
    obtain ⟨F3, m3, d3⟩ := yl x H3 y
    have hE3 := (hE'.move m3).wipe vs
    refine cG_sem F0 H0 F3 H3 _ _ x _ ρ1 hE3 d3 e2 _ fun σ4 hE4 l4 k4 w4 => ⟨wipe_same hj (by rw [l4, wipe_length]) k4, ?_⟩
    refine cT_sem F0 H0 F3 H3 σ4 ρ1 b hE4 e3 _ fun F5 H5 m5 => ?_
    have o3 := o'.trans (m3.trans m5)
    obtain ⟨f5, e5⟩ := o'.keepO (m3.trans m5) f' e'
    have d5 := dpAll_mono (m3.grow.trans m5.grow) _ _ d'
    cases b with
    | true =>
      rw [if_pos rfl] at hl2 ⊢
      obtain ⟨ys, e6, hl3⟩ := Option.bind_eq_some_iff.mp hl2
      obtain ⟨acc', e7, hl4⟩ := Option.bind_eq_some_iff.mp hl3
      refine cI_sem F0 H0 F5 H5 σ4 ρ1 ys (hE4.move m5) e6 _ fun J1 F6 H6 m6 wk1 => ?_
      have hE6 := (hE4.move m5).move m6
      have no4 : NotOwn A σ4 ρ1 := ((hE1.wipe vs).notOwn hA).sub w4
      have o6 := o3.trans m6
      obtain ⟨f6, e6'⟩ := o3.keepO m6 f5 e5
      have d6 := dpAll_mono m6.grow _ _ d5
      refine ⟨fun j k H' => k = ys.length - j ∧ j ≤ ys.length ∧ ∃ F' vs' ac, Ok Ps F1 H1 F' H' ∧ Same F6 F' ∧ F' A = none ∧ H' A = some (.lst vs') ∧ DpAll K F' vs' ac ∧ EnvOk K Ps F0 H0 F' H' σ4 ρ1 ∧ lcF fg1 ft1 fe (wipeR ρ1 vs1) (ys.drop j) ac = some acc', ⟨_, rfl, Nat.zero_le _, F6, vs', acc, o6, Same.refl _, f6, e6', d6, hE6, e7⟩, ?_⟩
      · rintro j k H8 ⟨rfl, hj', F8, vs8, ac, o8, o8', f8, e8, d8, hE8, hl8⟩
        obtain ⟨hgo1, hst1⟩ := wk1 j F0 H0 F8 H8 hE8.ok o8'
        by_cases hlt1 : j < ys.length
        · have hd1 : ys[j]? = some ys[j] := List.getElem?_eq_getElem hlt1
          obtain ⟨go1, yl1⟩ := hgo1 _ hd1
          rw [List.drop_eq_getElem_cons hlt1] at hl8
          obtain ⟨ρ2, e9, hl9⟩ := Option.bind_eq_some_iff.mp hl8
          obtain ⟨b1, e10, hl10⟩ := Option.bind_eq_some_iff.mp hl9
          refine .inr ⟨go1, fun H2 => ∃ F' vs' ac, Ok Ps F1 H1 F' H2 ∧ Same F6 F' ∧ F' A = none ∧ H2 A = some (.lst vs') ∧ DpAll K F' vs' ac ∧ EnvOk K Ps F0 H0 F' H2 σ4 ρ1 ∧ lcF fg1 ft1 fe (wipeR ρ1 vs1) (ys.drop (j + 1)) ac = some acc', fun H2 w => ⟨ys.length - (j + 1), by omega, rfl, hlt1, w⟩, fun x1 H11 y1 => ?_⟩
          obtain ⟨F11, m11, d11⟩ := yl1 x1 H11 y1
          have hE11 := (hE8.move m11).wipe vs1
          refine cG_sem F0 H0 F11 H11 _ _ x1 _ ρ2 hE11 d11 e9 _ fun σ12 hE12 l12 k12 w12 => ⟨wipe_same hj1 (by rw [l12, wipe_length]) k12, ?_⟩
          refine cT_sem F0 H0 F11 H11 σ12 ρ2 b1 hE12 e10 _ fun F13 H13 m13 => ?_
          have mm := m11.trans m13
          obtain ⟨f13, e13⟩ := o8.keepO mm f8 e8
          have d13 := dpAll_mono mm.grow _ _ d8
          cases b1 with
          | true =>
            rw [if_pos rfl] at hl10 ⊢
            obtain ⟨dd, e14, hl14⟩ := Option.bind_eq_some_iff.mp hl10
            split at hl14
            · rename_i hz
              refine cE_sem F0 H0 F13 H13 σ12 ρ2 dd (hE12.move m13) e14 _ fun v F15 H15 m15 d15 => ?_
              have mm2 := mm.trans m15
              obtain ⟨f15, e15⟩ := o8.keepO mm2 f8 e8
              have d16 := dpAll_mono m15.grow _ _ d13
              refine ⟨vs8, e15, lt_size (by rw [dpAll_len d16]; exact hz), F15, vs8 ++ [v], ac ++ [dd], (o8.trans mm2).mut hA f15 e15, o8'.trans mm2.grow, f15, upd_same, dpAll_app d16 (dpAll_one d15), ?_, hl14⟩
              exact (hE8.move mm2).mutOut (hE1.ok.none0 hA) f15 e15 no4
            · cases hl14
          | false =>
            rw [if_neg Bool.false_ne_true] at hl10 ⊢
            exact ⟨F13, vs8, ac, o8.trans mm, o8'.trans mm.grow, f13, e13, d13, hE8.move mm, hl10⟩
        · have e : j = ys.length := by omega
          subst e
          rw [List.drop_length] at hl8
          cases hl8
          exact .inl ⟨hst1 (Nat.le_refl _), F8, vs8, _, o8, f8, e8, d8, hl4⟩
    | false =>
      rw [if_neg Bool.false_ne_true] at hl2 ⊢
      exact ⟨F5, vs', acc, o3, f5, e5, d5, hl2⟩
  · have e : i = ds.length := by omega
    subst e
    rw [List.drop_length] at hl
    cases hl
    exact .inl ⟨hst (Nat.le_refl _), q A vs' F' H' (m1.trans o') (m1.none0 hA) f' e' d'⟩
end
end FL
set_option maxHeartbeats 4000000
/-! FL6: two clauses, defs, operators by data. -/
namespace FL
open PySem PySem.Spec PyProof.Rows L2
section
variable {X : Cx} {Ps : List Addr} {e e1 a b c tg tg1 : Expr} {es : List Expr} {f f1 f3 : Ro → Option D} {fl fs fs1 : Ro → Option (List D)} {ft ft1 fu : Ro → Option Bool} {g h : Ro → Option Out} {pos : Pos}
theorem ld_lc2 {elt : Expr} {ifs ifs1 : List Expr} {scope : Scope} {own : List (Str × Nat)} {vs1 js js1 : List Nat} {fg fg1 : D → Ro → Option Ro} {fe : Ro → Option D} (hc : X.calm = true) (hN : X.N.Nodup) (pi : ID X Ps tg e fs) (ok : BlkOk X.N X.env.scope scope own) (hv : ∀ i ∈ vs1, i ∈ own.map (·.2)) (hj : ∀ j ∈ js, j ∈ own.map (·.2)) (hj1 : ∀ j ∈ js1, j ∈ vs1)
    (pg : ∀ (s : Shared) (H : Hp) (C : Addr) (cl : List (Str × Addr)) (fp : List Addr), GD (X.blk s H scope (compEnvC scope cl C X.env) fp) Ps tg js fg) (pt : ∀ (s : Shared) (H : Hp) (C : Addr) (cl : List (Str × Addr)) (fp : List Addr), TsD (X.blk s H scope (compEnvC scope cl C X.env) fp) Ps ifs ft)
    (pi1 : ∀ (s : Shared) (H : Hp) (C : Addr) (cl : List (Str × Addr)) (fp : List Addr), ID (X.blk s H scope (compEnvC scope cl C X.env) fp) Ps tg1 e1 fs1)
    (pg1 : ∀ (s : Shared) (H : Hp) (C : Addr) (cl : List (Str × Addr)) (fp : List Addr), GD (X.blk s H scope (compEnvC scope cl C X.env) fp) Ps tg1 js1 fg1) (pt1 : ∀ (s : Shared) (H : Hp) (C : Addr) (cl : List (Str × Addr)) (fp : List Addr), TsD (X.blk s H scope (compEnvC scope cl C X.env) fp) Ps ifs1 ft1)
    (pe : ∀ (s : Shared) (H : Hp) (C : Addr) (cl : List (Str × Addr)) (fp : List Addr), PD (X.blk s H scope (compEnvC scope cl C X.env) fp) Ps elt fe) (hs : ∀ x, foldedSetIterable e X.env x = pure x := by intro _; rfl) (hs1 : ∀ env x, foldedSetIterable e1 env x = pure x := by intro _ _; rfl) :
    LD X Ps (.ListComp elt [⟨tg, e, ifs, 0⟩, ⟨tg1, e1, ifs1, 0⟩] scope pos) (fLc2 (own.map (·.2)) vs1 fs fg ft fs1 fg1 ft1 fe) := by
  obtain ⟨wi, p1, s1⟩ := pi.ex
  exact ⟨_, pe_lc2 (g := cG X.K Ps js fg) (tt := cT X.K Ps ft) (te := cE X.K Ps fe) (wi1 := cI X.K Ps fs1) (g1 := cG X.K Ps js1 fg1) (tt1 := cT X.K Ps ft1) hc hN p1 ok hv (fun s H C cl fp => (pg s H C cl fp).can) (fun s H C cl fp => pt s H C cl fp) (fun s H C cl fp => (pi1 s H C cl fp).c)
    (fun s H C cl fp => (pg1 s H C cl fp).can) (fun s H C cl fp => pt1 s H C cl fp) (fun s H C cl fp => (pe s H C cl fp).c) hs hs1, sem_lc2 hj hj1 s1⟩
theorem sd_setLc2 {elt : Expr} {ifs ifs1 : List Expr} {scope : Scope} {own : List (Str × Nat)} {vs1 js js1 : List Nat} {fg fg1 : D → Ro → Option Ro} {fe : Ro → Option D} {i : Nat} {y : Str} {py spos : Pos} (hc : X.calm = true) (hN : X.N.Nodup) (hy : X.N[i]? = some y) (hyl : X.env.scope.names.lookup y = some .local)
    (hsw : swapsWith (.ListComp elt [⟨tg, e, ifs, 0⟩, ⟨tg1, e1, ifs1, 0⟩] scope pos) (some (.Name y py)) spos.line X.env = pure true) (pi : ID X Ps tg e fs) (ok : BlkOk X.N X.env.scope scope own) (hv : ∀ i ∈ vs1, i ∈ own.map (·.2)) (hj : ∀ j ∈ js, j ∈ own.map (·.2)) (hj1 : ∀ j ∈ js1, j ∈ vs1)
    (pg : ∀ (s : Shared) (H : Hp) (C : Addr) (cl : List (Str × Addr)) (fp : List Addr), GD (X.blk s H scope (compEnvC scope cl C X.env) fp) Ps tg js fg) (pt : ∀ (s : Shared) (H : Hp) (C : Addr) (cl : List (Str × Addr)) (fp : List Addr), TsD (X.blk s H scope (compEnvC scope cl C X.env) fp) Ps ifs ft)
    (pi1 : ∀ (s : Shared) (H : Hp) (C : Addr) (cl : List (Str × Addr)) (fp : List Addr), ID (X.blk s H scope (compEnvC scope cl C X.env) fp) Ps tg1 e1 fs1)
    (pg1 : ∀ (s : Shared) (H : Hp) (C : Addr) (cl : List (Str × Addr)) (fp : List Addr), GD (X.blk s H scope (compEnvC scope cl C X.env) fp) Ps tg1 js1 fg1) (pt1 : ∀ (s : Shared) (H : Hp) (C : Addr) (cl : List (Str × Addr)) (fp : List Addr), TsD (X.blk s H scope (compEnvC scope cl C X.env) fp) Ps ifs1 ft1)
    (pe : ∀ (s : Shared) (H : Hp) (C : Addr) (cl : List (Str × Addr)) (fp : List Addr), PD (X.blk s H scope (compEnvC scope cl C X.env) fp) Ps elt fe) (hs : ∀ x, foldedSetIterable e X.env x = pure x := by intro _; rfl) (hs1 : ∀ env x, foldedSetIterable e1 env x = pure x := by intro _ _; rfl) :
    SD X Ps (.Assign [.Name y py] (.ListComp elt [⟨tg, e, ifs, 0⟩, ⟨tg1, e1, ifs1, 0⟩] scope pos) spos) (fSetO i (fLc2 (own.map (·.2)) vs1 fs fg ft fs1 fg1 ft1 fe)) := by
  obtain ⟨wi, p1, s1⟩ := pi.ex
  refine ⟨_, ps_setLc2 (g := cG X.K Ps js fg) (tt := cT X.K Ps ft) (te := cE X.K Ps fe) (wi1 := cI X.K Ps fs1) (g1 := cG X.K Ps js1 fg1) (tt1 := cT X.K Ps ft1) hc hN hy hyl hsw p1 ok hv (fun s H C cl fp => (pg s H C cl fp).can) (fun s H C cl fp => pt s H C cl fp) (fun s H C cl fp => (pi1 s H C cl fp).c)
    (fun s H C cl fp => (pg1 s H C cl fp).can) (fun s H C cl fp => pt1 s H C cl fp) (fun s H C cl fp => (pe s H C cl fp).c) hs hs1, fun F0 H0 F H σ ρ o E hE hf q => ?_⟩
  obtain ⟨d, e1, hf1⟩ := Option.map_eq_some_iff.mp hf
  subst hf1
  exact sem_lc2 hj hj1 s1 F0 H0 F H σ ρ d hE e1 _ fun a vs F1 H1 m1 hn hf ha d1 => q F1 H1 _ (hE.setO m1 hn hf ha d1) m1.grow
end

/-! ### the rule of a def -/
def startR (N : List Str) (ds : List D) : Ro := ds.map .fz ++ List.replicate (N.length - ds.length) .no
theorem env_start {K : PySem.W.Frag} {Ps : List Addr} {F H : Hp} {N : List Str} {vs : List V} {ds : List D} (o : Ok Ps F H F H) (h : DpAll K F vs ds) : EnvOk K Ps F H F H (L2.start N vs) (startR N ds) := by
  have hl := dpAll_len h
  refine ⟨o, by unfold L2.start startR; simp [hl], fun i s e hs he => ?_, fun i j ds' es a h1 => ?_⟩
  · unfold L2.start at hs
    unfold startR at he
    by_cases hi : i < ds.length
    · rw [List.getElem?_append_left (by simpa using hi), List.getElem?_map] at he
      rw [List.getElem?_append_left (by rw [List.length_map]; omega), List.getElem?_map] at hs
      obtain ⟨d, ed, rfl⟩ := Option.map_eq_some_iff.mp he
      obtain ⟨v, ev, dv⟩ := dpAll_get' h ed
      rw [ev] at hs
      cases hs
      exact ⟨v, rfl, dv⟩
    · rw [List.getElem?_append_right (by simpa using hi), List.getElem?_replicate] at he
      split at he
      · cases he; exact True.intro
      · cases he
  · unfold startR at h1
    by_cases hi : i < ds.length
    · rw [List.getElem?_append_left (by simpa using hi), List.getElem?_map] at h1
      obtain ⟨d, ed, q⟩ := Option.map_eq_some_iff.mp h1
      cases q
    · rw [List.getElem?_append_right (by simpa using hi), List.getElem?_replicate] at h1
      split at h1 <;> cases h1
/-- what a body gives back -/
def Gives (o : Option Out) (d : D) : Prop := o = some (.rt d) ∨ ∃ ρ, o = some (.nx ρ) ∧ d = .none
theorem def_ok {P : Program} {w : World} {K : PySem.W.Frag} {mg : Str → Option Value} {base : Heap} {x qual : Str} {st : Stmt} {fa : Addr} {fd : FuncData} {N ps : List Str} {k : Nat} {Ps : List Addr} {g : List D → Option D} {fb : Nat → Ro → Option Out} (F : Fun K x qual st fa fd) (S : FnScope N ps (defScope st))
    (hb : ∀ (n : Nat) (cdv : Value) (A : Around) (outer : List Env) (s : Shared) (H : Hp) (E : XK), Room k (A.deeper (envOfC qual (defScope st) s.heap.objs.size fa cdv)) → PySem.W.codeIn K cdv qual = true → BD (cxOf CX0 P w K mg base N qual (defScope st) fa cdv A outer s H E).nox Ps (defBody st) (fb n))
    (hg : ∀ ds d, ds.length = ps.length → g ds = some d → ∃ n, Gives (fb n (startR N ds)) d) : FnOk P w K mg base CX0 (k + 1) fa fd ps (spD K Ps ps.length g) := by
  obtain ⟨oc, od, kV, doc, pm, an, cdv, ct, osl, rfl, lk, hcd⟩ := F.ex
  refine fn_of lk hcd S (fun vs H Q E h => h.1) fun A outer s H vs Q E hr hsp => ?_
  obtain ⟨hl, F1, ds, d, o, hd, e, q⟩ := hsp
  obtain ⟨n, hn⟩ := hg ds d ((dpAll_len hd).symm.trans hl) e
  obtain ⟨t, p, sm⟩ := (hb n cdv A outer s H E hr hcd).ex
  refine ⟨t, p.nox, ?_⟩
  rcases hn with h | ⟨ρ, h, rfl⟩
  · exact sm F1 H F1 H _ _ _ _ (env_start o hd) h fun F' H' v m dv => q v F' H' m dv
  · exact sm F1 H F1 H _ _ _ _ (env_start o hd) h fun F' H' σ hE _ => q .non F' H' hE.ok .non

/-! ### operators by data -/
section
variable {K : PySem.W.Frag} {Ps : List Addr} {X : Cx}
def gI (C : Int → Int → Bool) (u : Int → Int → Int) : D → D → Option D
  | .int i, .int j => if C i j = true then some (.int (u i j)) else none
  | _, _ => none
def gI0 (u : Int → Int → Int) : D → D → Option D
  | .int i, .int j => some (.int (u i j))
  | _, _ => none
def gIB (u : Int → Int → Bool) : D → D → Option D
  | .int i, .int j => some (.bool (u i j))
  | _, _ => none
theorem sem_I0 {u : Int → Int → Int} : Sem2 K Ps (rI0 fun i j => .int (u i j)) (gI0 u) := fun F H x y d e z o hx hy hg Q q => by
  unfold gI0 at hg
  split at hg
  · cases hg
    cases hx
    cases hy
    exact ⟨_, _, rfl, rfl, q _ F H o (.int _)⟩
  · cases hg
theorem sem_IB {u : Int → Int → Bool} : Sem2 K Ps (rI0 fun i j => .bl (u i j)) (gIB u) := fun F H x y d e z o hx hy hg Q q => by
  unfold gIB at hg
  split at hg
  · cases hg
    cases hx
    cases hy
    exact ⟨_, _, rfl, rfl, q _ F H o (.bl _)⟩
  · cases hg
theorem sem_I {C : Int → Int → Prop} {Cb : Int → Int → Bool} {u : Int → Int → Int} (hC : ∀ i j, Cb i j = true → C i j) : Sem2 K Ps (rI C fun i j => .int (u i j)) (gI Cb u) := fun F H x y d e z o hx hy hg Q q => by
  unfold gI at hg
  split at hg
  · split at hg
    · rename_i h
      cases hg
      cases hx
      cases hy
      exact ⟨_, _, rfl, rfl, hC _ _ h, q _ F H o (.int _)⟩
    · cases hg
  · cases hg
abbrev gAdd := gI0 fun i j => i + j
abbrev gSub := gI0 fun i j => i - j
def cMul (i j : Int) : Bool := decide (-(2 ^ 64) < i ∧ i < 2 ^ 64) || decide (-(2 ^ 64) < j ∧ j < 2 ^ 64)
abbrev gMul := gI cMul fun i j => i * j
def cMod (_ j : Int) : Bool := decide (0 < j)
abbrev gMod := gI cMod fun i j => i % j
def cDiv (_ j : Int) : Bool := decide (0 < j ∧ j < 1073741824)
abbrev gDiv := gI cDiv fun i j => i / j
def cPow (i j : Int) : Bool := decide (0 ≤ j ∧ j ≤ 1000000 ∧ i.natAbs < 2 ^ 64)
abbrev gPow := gI cPow fun i j => i ^ j.toNat
theorem sem_add : Sem2 K Ps (rI0 fun i j => .int (i + j)) gAdd := sem_I0
theorem sem_sub : Sem2 K Ps (rI0 fun i j => .int (i - j)) gSub := sem_I0
theorem sem_mul : Sem2 K Ps (rI CMul fun i j => .int (i * j)) gMul := sem_I fun i j h => by
  unfold cMul at h
  simp only [Bool.or_eq_true, decide_eq_true_eq] at h
  exact h
theorem sem_mod : Sem2 K Ps (rI (fun _ j => 0 < j) fun i j => .int (i % j)) gMod := sem_I fun i j h => of_decide_eq_true h
theorem sem_div : Sem2 K Ps (rI CDiv fun i j => .int (i / j)) gDiv := sem_I fun i j h => by
  unfold cDiv at h
  show 0 < j ∧ j < 1073741824
  exact of_decide_eq_true h
theorem sem_pow : Sem2 K Ps (rI CPow fun i j => .int (i ^ j.toNat)) gPow := sem_I fun i j h => by
  unfold cPow at h
  show 0 ≤ j ∧ j ≤ 1000000 ∧ i.natAbs < 2 ^ 64
  exact of_decide_eq_true h
theorem sem_lt : Sem2 K Ps (rI0 fun i j => .bl (decide (i < j))) (gIB fun i j => decide (i < j)) := sem_IB
theorem sem_le : Sem2 K Ps (rI0 fun i j => .bl (decide (i ≤ j))) (gIB fun i j => decide (i ≤ j)) := sem_IB
theorem sem_gt : Sem2 K Ps (rI0 fun i j => .bl (decide (j < i))) (gIB fun i j => decide (j < i)) := sem_IB
theorem sem_ge : Sem2 K Ps (rI0 fun i j => .bl (decide (j ≤ i))) (gIB fun i j => decide (j ≤ i)) := sem_IB
/-- == of any data -/
def gEq (d e : D) : Option D := if SeqAt.shaped d = true ∧ SeqAt.shaped e = true then some (.bool (PyData.eqv d e)) else none
def gNe (d e : D) : Option D := if SeqAt.shaped d = true ∧ SeqAt.shaped e = true then some (.bool (!PyData.eqv d e)) else none
theorem sem_eq : Sem2 K Ps (rEqD K) gEq := fun F H x y d e z o hx hy hg Q q => by
  unfold gEq at hg
  split at hg
  · rename_i h
    cases hg
    exact ⟨d, e, dp_mono o.sub _ _ hx, dp_mono o.sub _ _ hy, h.1, h.2, q _ F H o (.bl _)⟩
  · cases hg
theorem sem_ne : Sem2 K Ps (rNeD K) gNe := fun F H x y d e z o hx hy hg Q q => by
  unfold gNe at hg
  split at hg
  · rename_i h
    cases hg
    exact ⟨d, e, dp_mono o.sub _ _ hx, dp_mono o.sub _ _ hy, h.1, h.2, q _ F H o (.bl _)⟩
  · cases hg
/-- < of alike data -/
def notNone : D → Bool
  | .none => false
  | _ => true
def rLtD (K : PySem.W.Frag) : R2 := fun x y H Q => ∃ d e, Dp K H x d ∧ Dp K H y e ∧ PySem.W.alike d e = true ∧ notNone d = true ∧ d.depth ≤ 64 ∧ Q (.bl (PySem.W.dataLt d e)) H
theorem op_ltD (hu : X.A.units + 64 < cLine) : OpR X (compareOp .Lt) (rLtD X.K) := by
  intro pins s σ H x y v u Q I rx ry h
  obtain ⟨d, e, hd, he, al, nn, dd, q⟩ := h
  obtain ⟨as, r1⟩ := Dp.reads I d x v hd rx
  obtain ⟨bs, r2⟩ := Dp.reads I e y u he ry
  exact PySem.W.lt_data r1 r2 al (fun z => by subst z; cases nn) (PySem.W.room_datum dd hu) ⟨.bl _, H, I, rfl, q⟩
def gLt (d e : D) : Option D := if PySem.W.alike d e = true ∧ notNone d = true ∧ d.depth ≤ 64 then some (.bool (PySem.W.dataLt d e)) else none
theorem sem_ltD : Sem2 K Ps (rLtD K) gLt := fun F H x y d e z o hx hy hg Q q => by
  unfold gLt at hg
  split at hg
  · rename_i h
    cases hg
    exact ⟨d, e, dp_mono o.sub _ _ hx, dp_mono o.sub _ _ hy, h.1, h.2.1, h.2.2, q _ F H o (.bl _)⟩
  · cases hg
/-- is, is not, of bools -/
def gIs : D → D → Option D
  | .bool a, .bool b => some (.bool (decide (a = b)))
  | _, _ => none
def gIsNot : D → D → Option D
  | .bool a, .bool b => some (.bool (!decide (a = b)))
  | _, _ => none
theorem sem_is : Sem2 K Ps rIsB gIs := fun F H x y d e z o hx hy hg Q q => by
  unfold gIs at hg
  split at hg
  · cases hg
    cases hx
    cases hy
    exact ⟨_, _, rfl, rfl, q _ F H o (.bl _)⟩
  · cases hg
theorem sem_isnot : Sem2 K Ps rNotB gIsNot := fun F H x y d e z o hx hy hg Q q => by
  unfold gIsNot at hg
  split at hg
  · cases hg
    cases hx
    cases hy
    exact ⟨_, _, rfl, rfl, q _ F H o (.bl _)⟩
  · cases hg
/-- is None, is not None, of anything -/
def gIsN (d e : D) : Option D := match e with
  | .none => some (.bool (!notNone d))
  | _ => none
def gNotN (d e : D) : Option D := match e with
  | .none => some (.bool (notNone d))
  | _ => none
theorem isn_v {F : Hp} {x : V} {d : D} (h : Dp K F x d) : decide (x = .non) = !notNone d := by cases h <;> rfl
theorem sem_isN : Sem2 K Ps (fun x y H Q => y = .non ∧ Q (.bl (decide (x = .non))) H) gIsN := fun F H x y d e z o hx hy hg Q q => by
  unfold gIsN at hg
  split at hg
  · cases hg
    cases hy
    exact ⟨rfl, by rw [isn_v hx]; exact q _ F H o (.bl _)⟩
  · cases hg
theorem sem_notN : Sem2 K Ps (fun x y H Q => y = .non ∧ Q (.bl (!decide (x = .non))) H) gNotN := fun F H x y d e z o hx hy hg Q q => by
  unfold gNotN at hg
  split at hg
  · cases hg
    cases hy
    exact ⟨rfl, by rw [isn_v hx, Bool.not_not]; exact q _ F H o (.bl _)⟩
  · cases hg
/-- one sign in a text -/
def gInS : D → D → Option D
  | .str ⟨⟨[c]⟩⟩, .str z => some (.bool (decide (c ∈ z.cps.toList)))
  | _, _ => none
theorem sem_inS : Sem2 K Ps (fun x y H Q => ∃ (c : Nat) (z : Str), x = .str ⟨#[c]⟩ ∧ y = .str z ∧ Q (.bl (decide (c ∈ z.cps.toList))) H) gInS := fun F H x y d e z o hx hy hg Q q => by
  unfold gInS at hg
  split at hg
  · cases hg
    cases hx
    cases hy
    exact ⟨_, _, rfl, rfl, q _ F H o (.bl _)⟩
  · cases hg
/-- x[i], any sign -/
def gIx : D → D → Option D
  | .list ds, .int i => atI ds i
  | .tuple ds, .int i => atI ds i
  | .str z, .int i => if z.length ≤ 1000000 then (atI z.cps.toList i).map fun c => .str ⟨#[c]⟩ else none
  | _, _ => none
theorem dp_at {F : Hp} {vs : List V} {ds : List D} {i : Int} {d : D} (h : DpAll K F vs ds) (e : atI ds i = some d) : ∃ v, atI vs i = some v ∧ Dp K F v d := by
  unfold atI at e ⊢
  rw [dpAll_len h]
  obtain ⟨j, e1, e2⟩ := Option.bind_eq_some_iff.mp e
  obtain ⟨v, e3, dv⟩ := dpAll_get' h e2
  exact ⟨v, by rw [e1]; exact e3, dv⟩
theorem sem_ix : Sem2 K Ps (rIx K) gIx := fun F H x y d e z o hx hy hg Q q => by
  unfold gIx at hg
  split at hg
  · cases hy
    cases hx with
    | lst hs ha =>
      obtain ⟨v, ev, dv⟩ := dp_at ha hg
      exact .inl ⟨_, _, _, v, rfl, rfl, o.sub.seq hs, ev, q v F H o dv⟩
  · cases hy
    cases hx with
    | tup hs ha =>
      obtain ⟨v, ev, dv⟩ := dp_at ha hg
      exact .inr (.inl ⟨_, _, _, v, rfl, rfl, sqT_sub o.sub hs, ev, q v F H o dv⟩)
  · split at hg
    · rename_i hz
      obtain ⟨c, ec, rfl⟩ := Option.map_eq_some_iff.mp hg
      cases hy
      cases hx
      exact .inr (.inr ⟨_, _, c, rfl, rfl, small_size hz, ec, q _ F H o (.str _)⟩)
    · cases hg
  · cases hg
/-- text + text, list + list, tuple + tuple -/
def gCatS : D → D → Option D
  | .str a, .str b => if a.length + b.length ≤ 1000000 then some (.str (a ++ b)) else none
  | _, _ => none
theorem sem_catS : Sem2 K Ps (fun x y H Q => ∃ i j, x = .str i ∧ y = .str j ∧ i.length + j.length ≤ sizeLine ∧ Q (.str (i ++ j)) H) gCatS := fun F H x y d e z o hx hy hg Q q => by
  unfold gCatS at hg
  split at hg
  · split at hg
    · rename_i hz
      cases hg
      cases hx
      cases hy
      exact ⟨_, _, rfl, rfl, small_size hz, q _ F H o (.str _)⟩
    · cases hg
  · cases hg
def gCatT : D → D → Option D
  | .tuple a, .tuple b => if a.length + b.length ≤ 1000000 then some (.tuple (a ++ b)) else none
  | _, _ => none
theorem sem_catT : Sem2 K Ps (rCatA K) gCatT := fun F H x y d e z o hx hy hg Q q => by
  unfold gCatT at hg
  split at hg
  · split at hg
    · rename_i hz
      cases hg
      cases hx with
      | @tup a xs ds hs ha =>
        cases hy with
        | @tup b ys es hs2 ha2 =>
          refine ⟨a, b, xs, ys, rfl, rfl, sqT_sub o.sub hs, sqT_sub o.sub hs2, by rw [dpAll_len ha, dpAll_len ha2]; exact small_size hz, fun h => ?_, fun _ h => ?_, fun _ _ p hp => ?_⟩
          · subst h
            cases ha
            exact q _ F H o (.tup hs2 ha2)
          · subst h
            cases ha2
            rw [List.append_nil] at q
            exact q _ F H o (.tup hs ha)
          · have m := o.new_fz hp (.tup (xs ++ ys))
            exact q _ _ _ m (.tup (.inl (.inl upd_same)) (dpAll_mono m.grow _ _ (dpAll_app ha ha2)))
    · cases hg
  · cases hg
end
end FL
set_option maxHeartbeats 4000000
/-! FL7: built-in calls, slices, methods of texts, by data. -/
namespace FL
open PySem PySem.Spec PyProof.Rows L2
section
variable {K : PySem.W.Frag} {Ps : List Addr} {X : Cx}
/-! len -/
def gLen : List D → Option D
  | [.list ds] => some (.int ds.length)
  | [.tuple ds] => some (.int ds.length)
  | [.str z] => if z.length ≤ 1000000 then some (.int z.length) else none
  | _ => none
theorem sem_len : SemC K Ps (fun xs H Q => ∃ x n, xs = [x] ∧ LenV K x H n ∧ Q (.int n) H) gLen := fun F H xs ds z o hx hg Q q => by
  unfold gLen at hg
  split at hg
  · cases hg
    cases hx with
    | cons h1 h2 =>
      cases h2
      cases h1 with
      | lst hs ha => exact ⟨_, _, rfl, .inl ⟨_, o.sub.seq hs, rfl⟩, by rw [dpAll_len ha]; exact q _ F H o (.int _)⟩
  · cases hg
    cases hx with
    | cons h1 h2 =>
      cases h2
      cases h1 with
      | tup hs ha => exact ⟨_, _, rfl, .inr ⟨_, sqT_sub o.sub hs, rfl⟩, by rw [dpAll_len ha]; exact q _ F H o (.int _)⟩
  · split at hg
    · rename_i hz
      cases hg
      cases hx with
      | cons h1 h2 =>
        cases h2
        cases h1
        exact ⟨_, _, rfl, ⟨small_size hz, rfl⟩, q _ F H o (.int _)⟩
    · cases hg
  · cases hg
/-! int(n), int(flag) -/
def gInt : List D → Option D
  | [.int i] => some (.int i)
  | [.bool k] => some (.int (if k then 1 else 0))
  | _ => none
theorem sem_int : SemC K Ps (fun xs H Q => (∃ i, xs = [.int i] ∧ Q (.int i) H) ∨ ∃ k, xs = [.bl k] ∧ Q (.int (if k then 1 else 0)) H) gInt := fun F H xs ds z o hx hg Q q => by
  unfold gInt at hg
  split at hg
  · cases hg
    cases hx with
    | cons h1 h2 => cases h2; cases h1; exact .inl ⟨_, rfl, q _ F H o (.int _)⟩
  · cases hg
    cases hx with
    | cons h1 h2 => cases h2; cases h1; exact .inr ⟨_, rfl, q _ F H o (.int _)⟩
  · cases hg
/-! tuple(list), tuple(tuple) -/
def gTupOf : List D → Option D
  | [.list ds] => some (.tuple ds)
  | [.tuple ds] => some (.tuple ds)
  | _ => none
theorem sem_tupOf : SemC K Ps (fun xs H Q => ∃ p ys, xs = [.ref p] ∧ ((SqL K H p ys ∧ ∀ l, H l = none → Q (.ref l) (upd H l (.tup ys))) ∨ (SqT K H p ys ∧ Q (.ref p) H))) gTupOf := fun F H xs ds z o hx hg Q q => by
  unfold gTupOf at hg
  split at hg
  · cases hg
    cases hx with
    | cons h1 h2 =>
      cases h2
      cases h1 with
      | @lst a vs _ hs ha =>
        refine ⟨a, vs, rfl, .inl ⟨o.sub.seq hs, fun l hl => ?_⟩⟩
        have m := o.new_fz hl (.tup vs)
        exact q _ _ _ m (.tup (.inl (.inl upd_same)) (dpAll_mono m.grow _ _ ha))
  · cases hg
    cases hx with
    | cons h1 h2 =>
      cases h2
      cases h1 with
      | @tup a vs _ hs ha => exact ⟨a, vs, rfl, .inr ⟨sqT_sub o.sub hs, q _ F H o (.tup hs ha)⟩⟩
  · cases hg
/-! min, max of two -/
def gMin2 : List D → Option D
  | [.int i, .int j] => some (.int (if j < i then j else i))
  | _ => none
theorem sem_min2 : SemC K Ps (fun xs H Q => ∃ i j, xs = [.int i, .int j] ∧ Q (.int (if j < i then j else i)) H) gMin2 := fun F H xs ds z o hx hg Q q => by
  unfold gMin2 at hg
  split at hg
  · cases hg
    cases hx with
    | cons h1 h2 =>
      cases h2 with
      | cons h3 h4 => cases h4; cases h1; cases h3; exact ⟨_, _, rfl, q _ F H o (.int _)⟩
  · cases hg
def gMax2 : List D → Option D
  | [.int i, .int j] => some (.int (if j > i then j else i))
  | _ => none
theorem sem_max2 : SemC K Ps (fun xs H Q => ∃ i j, xs = [.int i, .int j] ∧ Q (.int (if j > i then j else i)) H) gMax2 := fun F H xs ds z o hx hg Q q => by
  unfold gMax2 at hg
  split at hg
  · cases hg
    cases hx with
    | cons h1 h2 =>
      cases h2 with
      | cons h3 h4 => cases h4; cases h1; cases h3; exact ⟨_, _, rfl, q _ F H o (.int _)⟩
  · cases hg
/-! max of a list of ints -/
def intsOf : List D → Option (List Int)
  | [] => some []
  | .int i :: ds => (intsOf ds).map (i :: ·)
  | _ :: _ => none
theorem intsOf_eq : ∀ {ds : List D} {ns : List Int}, intsOf ds = some ns → ds = ns.map .int
  | [], _, h => by cases h; rfl
  | d :: ds, ns, h => by
    cases d with
    | int i =>
      obtain ⟨ms, e, rfl⟩ := Option.map_eq_some_iff.mp (show (intsOf ds).map (i :: ·) = some ns from h)
      rw [List.map_cons, ← intsOf_eq e]
    | _ => cases h
def maxI (x : Int) (xs : List Int) : Int := xs.foldl (fun a y => if a < y then y else a) x
def gMaxL : List D → Option D
  | [.list ds] => (intsOf ds).bind fun ns => match ns with
    | [] => none
    | n :: ns => some (.int (maxI n ns))
  | _ => none
theorem maxD_int (x : Int) : ∀ xs : List Int, PySem.W.maxD (.int x) (xs.map .int) = .int (maxI x xs) := fun xs => by
  unfold PySem.W.maxD maxI
  induction xs generalizing x with
  | nil => rfl
  | cons y ys ih =>
    rw [List.map_cons, List.foldl_cons, List.foldl_cons, ← ih]
    have e : PySem.W.dataLt (.int x) (.int y) = decide (x < y) := PySem.W.dataLt_int x y
    (try dsimp only)
    rw [e]
    by_cases h : x < y
    · rw [if_pos h, if_pos (decide_eq_true h)]
    · rw [if_neg h, if_neg (by simp [h])]
theorem depthAll_ints : ∀ ns : List Int, PyData.depthAll (ns.map PyData.int) = 0
  | [] => rfl
  | n :: ns => by
    rw [List.map_cons]
    simp only [PyData.depthAll, PyData.depth, depthAll_ints ns, Nat.max_self]
def rMaxL (K : PySem.W.Frag) : List V → Hp → VK → Prop := fun xs H Q => ∃ p n ns, xs = [.ref p] ∧ SqL K H p ((n :: ns).map V.int) ∧ Q (.int (maxI n ns)) H
theorem dpAll_ints {H : Hp} : ∀ ns : List Int, DpAll K H (ns.map V.int) (ns.map PyData.int)
  | [] => .nil
  | n :: ns => .cons (.int n) (dpAll_ints ns)
theorem dpAll_ints' {H : Hp} : ∀ {ns : List Int} {vs : List V}, DpAll K H vs (ns.map PyData.int) → vs = ns.map V.int
  | [], _, h => by cases h; rfl
  | n :: ns, _, h => by
    cases h with
    | cons h1 h2 => cases h1; rw [dpAll_ints' h2, List.map_cons]
theorem call_maxL (hc : X.calm = true) (hu : X.A.units + 1 < cLine) : CallR X (.builtin "max") (rMaxL X.K) := by
  intro pins s σ H xs us Q I r h
  obtain ⟨p, n, ns, rfl, hs, q⟩ := h
  obtain ⟨u, rfl, rx⟩ := vals1 r
  cases rx
  obtain ⟨its, rv, pl, hz⟩ := I.list hs
  obtain ⟨as, ra⟩ := Dp.readsAll I ((n :: ns).map PyData.int) _ its (dpAll_ints (K := X.K) (H := H) (n :: ns)) rv
  refine PySem.W.max_list_data (x := .int n) (xs := ns.map .int) (I.ok.hd hc) pl.isList ra ?_ ?_ fun i v h' tk bs hi hr hk => ?_
  · have e : (PyData.int n :: ns.map PyData.int) = (n :: ns).map PySem.W.Datum.toD := rfl
    rw [e]
    exact PySem.W.alikeAll_datum (n :: ns)
  · have e := depthAll_ints (n :: ns)
    rw [List.map_cons] at e
    rw [e]
    exact hu
  · rw [maxD_int] at hr
    cases hr
    exact ⟨.int _, H, I.kept hk, ⟨_, rfl⟩, q⟩
theorem sem_maxL : SemC K Ps (rMaxL K) gMaxL := fun F H xs ds z o hx hg Q q => by
  unfold gMaxL at hg
  split at hg
  · obtain ⟨ns, e, hg1⟩ := Option.bind_eq_some_iff.mp hg
    cases ns with
    | nil => cases hg1
    | cons n ns =>
      cases hg1
      cases hx with
      | cons h1 h2 =>
        cases h2
        cases h1 with
        | @lst a vs _ hs ha =>
          rw [intsOf_eq e] at ha
          rw [dpAll_ints' ha] at hs
          exact ⟨a, n, ns, rfl, o.sub.seq hs, q _ F H o (.int _)⟩
  · cases hg
end

/-! ### isinstance(e, T), T a built-in class -/
def tyName : D → String
  | .none => "NoneType"
  | .bool _ => "bool"
  | .int _ => "int"
  | .str _ => "str"
  | .list _ => "list"
  | .tuple _ => "tuple"
  | .dict _ => "dict"
/-- what isinstance says by the names of the classes -/
def isTy (T : String) (d : D) : Bool := tyName d == T || (T == "int" && tyName d == "bool")
theorem kit_table : ∀ a ∈ ["NoneType", "bool", "int", "str", "list", "tuple", "dict"], ∀ T ∈ ["str", "tuple", "int", "bool", "list", "dict"], kitB a T = some (a == T || (T == "int" && a == "bool")) := by decide +kernel
theorem tyx_of {K : PySem.W.Frag} {H : Hp} {x : V} {d : D} (h : Dp K H x d) : TyX K H x (.type (tyName d)) := by
  cases h with
  | non => exact .base .non
  | bl b => exact .base (.bl b)
  | int i => exact .base (.int i)
  | str z => exact .base (.str z)
  | lst hs ha =>
    rcases hs with (h | ⟨o, h⟩) | ⟨o, its, n, h, c, _⟩
    · exact .base (.lst h)
    · exact .base (.frz h)
    · exact .kList h c
  | tup hs ha =>
    rcases hs with (h | ⟨o, h⟩) | ⟨o, its, n, h, c, _⟩
    · exact .base (.tup h)
    · exact .fTuple h
    · exact .kTuple h c
section
variable {X : Cx} {Ps : List Addr} {e a b c : Expr} {es : List Expr} {f f1 f3 : Ro → Option D} {fl : Ro → Option (List D)} {pos : Pos}
def fIsi (T : String) (f : Ro → Option D) : Ro → Option D := fun ρ => (f ρ).map fun d => .bool (isTy T d)
theorem pd_isi {p p2 : Pos} {x : Str} (T : String) (hT : T ∈ ["str", "tuple", "int", "bool", "list", "dict"]) (hg : Gl X "isinstance") (hm : X.mg "isinstance" = none) (hv : bootBuiltins "isinstance" = some (.builtin "isinstance")) (hg2 : Gl X x) (hm2 : X.mg x = none) (hv2 : bootBuiltins x = some (.type T)) (pe : PD X Ps e f) (hn2 : x ≠ "__name__" := by decide) (hd2 : (x == ("__debug__" : Str)) = false := by decide)
    (hs1 : starEach [e, .Name x p2] X.env = (false, eval e X.env) :: starEach [.Name x p2] X.env := by rfl) (hs2 : starEach [.Name x p2] X.env = (false, eval (.Name x p2) X.env) :: starEach [] X.env := by rfl) (hpl : (backTo pos (starEach [.Name x p2] X.env)).any (·.1) = false := by rfl) :
    PD X Ps (.Call (.Name "isinstance" p) [e, .Name x p2] [] pos) (fIsi T f) := by
  obtain ⟨t, p1, s1⟩ := pe.ex
  refine ⟨_, pe_callB call_isi hg hm hv (pa_cons p1 (pa_cons (pe_bltn (v := .ty T) hg2 hm2 hv2 rfl hn2 hd2) pa_nil hs2) hs1) (by decide) (by decide) hs1 hpl, fun F0 H0 F H σ ρ d hE hf Q q => ?_⟩
  obtain ⟨d1, e1, rfl⟩ := Option.map_eq_some_iff.mp hf
  refine s1 F0 H0 F H σ ρ d1 hE e1 _ fun v F1 H1 m1 dv => ?_
  refine ⟨v, .ty T, _, _, isTy T d1, rfl, .ty T, tyx_of (dp_mono m1.sub _ _ dv), kit_ty ?_, q _ F1 H1 m1 (.bl _)⟩
  refine kit_table _ ?_ T hT
  cases d1 <;> simp [tyName]

/-! ### the list that a slot alone holds: len -/
def fLenO (i : Nat) : Ro → Option D := fun ρ => match ρ[i]? with
  | some (.ow ds) => some (.int ds.length)
  | some (.fz d) => gLen [d]
  | _ => none
theorem pd_lenO (i : Nat) {x : Str} {p p0 : Pos} (hg : Gl X "len") (hm : X.mg "len" = none) (hN : X.N[i]? = some x := by rfl) (hv : Vis X.env.scope x := by first | exact Or.inl rfl | exact Or.inr (Or.inl rfl) | exact Or.inr (Or.inr rfl)) (hd : (x == ("__debug__" : Str)) = false := by decide) (hcd : (x == ("__classdict__" : Str)) = false := by decide)
    (he : starEach [.Name x p0] X.env = (false, eval (.Name x p0) X.env) :: starEach [] X.env := by rfl) (hpl : (backTo pos (starEach [] X.env)).any (·.1) = false := by rfl) : PD X Ps (.Call (.Name "len" p) [.Name x p0] [] pos) (fLenO i) := by
  refine ⟨_, pe_callB call_len hg hm PySem.boot_len (pa_cons (pe_var hN hv hd hcd) pa_nil he) (by decide) (by decide) he hpl, fun F0 H0 F H σ ρ d hE hf Q q => ?_⟩
  unfold fLenO at hf
  split at hf
  · rename_i ds e0
    cases hf
    obtain ⟨a, vs, e2, h0, f0, e3, d3⟩ := hE.getO e0
    exact ⟨_, e2, _, _, rfl, .inl ⟨vs, SqL.of e3, rfl⟩, by rw [dpAll_len d3]; exact q _ F H hE.ok.refl (.int _)⟩
  · rename_i d' e0
    obtain ⟨v, e2, d2⟩ := hE.get e0
    refine ⟨v, e2, ?_⟩
    exact sem_len F H [v] [d'] d hE.ok.refl (.cons d2 .nil) hf Q q
  · cases hf

/-! ### slices -/
/-- parts of a slice: left out, or an int -/
def fNo : Ro → Option (Option Int) := fun _ => some none
def fPt (f : Ro → Option D) : Ro → Option (Option Int) := fun ρ => (f ρ).bind fun d => match d with
  | .int i => some (some i)
  | _ => none
def SemO (K : PySem.W.Frag) (Ps : List Addr) (t : TO) (f : Ro → Option (Option Int)) : Prop :=
  ∀ (F0 H0 F H : Hp) (σ : L2.St) (ρ : Ro) (o : Option Int), EnvOk K Ps F0 H0 F H σ ρ → f ρ = some o → ∀ Q : Option Int → Hp → Prop, (∀ F' H', Ok Ps F H F' H' → Q o H') → t σ H Q
structure OD (X : Cx) (Ps : List Addr) (e : Option Expr) (f : Ro → Option (Option Int)) : Prop where
  ex : ∃ t, PO X e t ∧ SemO X.K Ps t f
theorem od_none : OD X Ps none fNo := ⟨_, po_none, fun F0 H0 F H σ ρ o hE hf Q q => by cases hf; exact q F H hE.ok.refl⟩
theorem od_some (p : PD X Ps e f) : OD X Ps (some e) (fPt f) := by
  obtain ⟨t, p1, s1⟩ := p.ex
  refine ⟨_, po_some p1, fun F0 H0 F H σ ρ o hE hf Q q => ?_⟩
  obtain ⟨d, e1, hf1⟩ := Option.bind_eq_some_iff.mp hf
  cases d with
  | int i =>
    cases hf1
    refine s1 F0 H0 F H σ ρ _ hE e1 _ fun v F1 H1 m1 d1 => ?_
    cases d1
    exact ⟨i, rfl, q F1 H1 m1⟩
  | _ => cases hf1
def cutD (xs : List D) (lo hi : Option Int) : List D := (xs.drop (HT.sIx xs.length 0 lo)).take (HT.sIx xs.length xs.length hi - HT.sIx xs.length 0 lo)
theorem dpAll_drop {K : PySem.W.Frag} {H : Hp} : ∀ {ds : List D} {vs : List V} (n : Nat), DpAll K H vs ds → DpAll K H (vs.drop n) (ds.drop n)
  | _, _, 0, h => h
  | [], _, n + 1, h => by cases h; exact .nil
  | _ :: _, _, n + 1, h => by
    cases h with
    | cons h1 h2 => exact dpAll_drop n h2
theorem dpAll_take {K : PySem.W.Frag} {H : Hp} : ∀ {ds : List D} {vs : List V} (n : Nat), DpAll K H vs ds → DpAll K H (vs.take n) (ds.take n)
  | [], _, 0, h => by cases h; exact .nil
  | _ :: _, _, 0, h => by cases h; exact .nil
  | [], _, n + 1, h => by cases h; exact .nil
  | _ :: _, _, n + 1, h => by
    cases h with
    | cons h1 h2 => exact .cons h1 (dpAll_take n h2)
theorem dpAll_rev {K : PySem.W.Frag} {H : Hp} : ∀ {ds : List D} {vs : List V}, DpAll K H vs ds → DpAll K H vs.reverse ds.reverse
  | [], _, h => by cases h; exact .nil
  | d :: ds, _, h => by
    cases h with
    | cons h1 h2 =>
      rw [List.reverse_cons, List.reverse_cons]
      exact dpAll_app (dpAll_rev h2) (dpAll_one h1)
def fSlL (f : Ro → Option D) (lo hi : Ro → Option (Option Int)) : Ro → Option (List D) := fun ρ => (f ρ).bind fun d => (lo ρ).bind fun l => (hi ρ).bind fun h => match d with
  | .list ds => some (cutD ds l h)
  | _ => none
theorem ld_sliceL {lo hi : Option Expr} {p2 : Pos} {flo fhi : Ro → Option (Option Int)} (p : PD X Ps e f) (pl : OD X Ps lo flo) (ph : OD X Ps hi fhi) : LD X Ps (.Subscript e (.Slice lo hi none p2) pos) (fSlL f flo fhi) := by
  obtain ⟨t, p1, s1⟩ := p.ex
  obtain ⟨u, p2, s2⟩ := pl.ex
  obtain ⟨w, p3, s3⟩ := ph.ex
  refine ⟨_, pe_slice sl_list p1 p2 p3, fun F0 H0 F H σ ρ ds hE hf Q q => ?_⟩
  obtain ⟨d, e1, hf1⟩ := Option.bind_eq_some_iff.mp hf
  obtain ⟨l, e2, hf2⟩ := Option.bind_eq_some_iff.mp hf1
  obtain ⟨h, e3, hf3⟩ := Option.bind_eq_some_iff.mp hf2
  cases d with
  | list ds' =>
    cases hf3
    refine s1 F0 H0 F H σ ρ _ hE e1 _ fun v F1 H1 m1 d1 => ?_
    refine s2 F0 H0 F1 H1 σ ρ l (hE.move m1) e2 _ fun F2 H2 m2 => ?_
    refine s3 F0 H0 F2 H2 σ ρ h ((hE.move m1).move m2) e3 _ fun F3 H3 m3 => ?_
    have mm := (m1.trans m2).trans m3
    cases d1 with
    | @lst a vs _ hs ha =>
      refine ⟨a, vs, rfl, mm.sub.seq ((m2.grow.trans m3.grow).seq hs), fun p hp => ?_⟩
      refine q p _ F3 _ (mm.trans (mm.new_ow hp (.lst (cutV vs l h)))) (mm.none0 hp) (fno_new mm hp) upd_same ?_
      unfold cutV cutD
      rw [dpAll_len ha]
      exact dpAll_take _ (dpAll_drop _ (dpAll_mono (m2.grow.trans m3.grow) _ _ ha))
  | _ => cases hf3
/-- xs[::-1] -/
def fRevL (f : Ro → Option D) : Ro → Option (List D) := fun ρ => (f ρ).bind fun d => match d with
  | .list ds => some ds.reverse
  | _ => none
theorem ld_revL {k : Nat} {p1 p2 p3 : Pos} (p : PD X Ps e f) : LD X Ps (.Subscript e (.Slice none none (some (.UnaryOp .USub (.Constant (.int 1) k p1) p2)) p3) pos) (fRevL f) := by
  obtain ⟨t, p1, s1⟩ := p.ex
  refine ⟨_, pe_revL p1, fun F0 H0 F H σ ρ ds hE hf Q q => ?_⟩
  obtain ⟨d, e1, hf1⟩ := Option.bind_eq_some_iff.mp hf
  cases d with
  | list ds' =>
    cases hf1
    refine s1 F0 H0 F H σ ρ _ hE e1 _ fun v F1 H1 m1 d1 => ?_
    cases d1 with
    | @lst a vs _ hs ha =>
      refine ⟨a, vs, rfl, m1.sub.seq hs, fun p hp => ?_⟩
      exact q p _ F1 _ (m1.trans (m1.new_ow hp (.lst vs.reverse))) (m1.none0 hp) (fno_new m1 hp) upd_same (dpAll_rev ha)
  | _ => cases hf1
/-- s[a:b] -/
def fSlS (f : Ro → Option D) (lo hi : Ro → Option (Option Int)) : Ro → Option D := fun ρ => (f ρ).bind fun d => (lo ρ).bind fun l => (hi ρ).bind fun h => match d with
  | .str z => if z.length ≤ 1000000 then some (.str (cutS z l h)) else none
  | _ => none
theorem pd_sliceS {lo hi : Option Expr} {p2 : Pos} {flo fhi : Ro → Option (Option Int)} (p : PD X Ps e f) (pl : OD X Ps lo flo) (ph : OD X Ps hi fhi) : PD X Ps (.Subscript e (.Slice lo hi none p2) pos) (fSlS f flo fhi) := by
  obtain ⟨t, p1, s1⟩ := p.ex
  obtain ⟨u, p2, s2⟩ := pl.ex
  obtain ⟨w, p3, s3⟩ := ph.ex
  refine ⟨_, pe_slice sl_str p1 p2 p3, fun F0 H0 F H σ ρ ds hE hf Q q => ?_⟩
  obtain ⟨d, e1, hf1⟩ := Option.bind_eq_some_iff.mp hf
  obtain ⟨l, e2, hf2⟩ := Option.bind_eq_some_iff.mp hf1
  obtain ⟨h, e3, hf3⟩ := Option.bind_eq_some_iff.mp hf2
  cases d with
  | str z =>
    simp only at hf3
    split at hf3
    · rename_i hz
      cases hf3
      refine s1 F0 H0 F H σ ρ _ hE e1 _ fun v F1 H1 m1 d1 => ?_
      refine s2 F0 H0 F1 H1 σ ρ l (hE.move m1) e2 _ fun F2 H2 m2 => ?_
      refine s3 F0 H0 F2 H2 σ ρ h ((hE.move m1).move m2) e3 _ fun F3 H3 m3 => ?_
      cases d1
      exact ⟨z, rfl, small_size hz, q _ F3 H3 ((m1.trans m2).trans m3) (.str _)⟩
    · cases hf3
  | _ => cases hf3
/-! ### methods of texts with one text as the argument -/
def fMt1 (g : Str → Str → Option D) (f1 f3 : Ro → Option D) : Ro → Option D := fun ρ => (f1 ρ).bind fun x => (f3 ρ).bind fun y => match x, y with
  | .str a, .str b => g a b
  | _, _ => none
theorem pd_mt1 {name : Str} {id : String} {apos : Pos} {r : V → List V → Hp → VK → Prop} {g : Str → Str → Option D} (pa : PlainAttrs "str") (slot : Slot "str" name id) (hty : typeOf (.builtin id) = pure (.type "method_descriptor")) (hm : MtR X id r)
    (hr : ∀ (F H : Hp) (x y : Str) (z : D), Ok Ps F H F H → g x y = some z → ∀ Q : VK, (∀ v F' H', Ok Ps F H F' H' → Dp X.K F' v z → Q v H') → r (.str x) [.str y] H Q) (p : PD X Ps a f1) (p' : PD X Ps b f3)
    (hbase : attributeBase a name X.env (eval a X.env) = eval a X.env := by rfl)
    (hfew : ((backTo pos (starEach [b] X.env)).all (fun x => !x.1) && (backToKw pos (keywordEach [] X.env)).all (fun x => x.1.isSome) && decide ([b].length + ([] : List Keyword).length + (if ([] : List Keyword).isEmpty then 0 else 1) < 30)) = true := by rfl)
    (hline : (apos.endLine == pos.line) = true := by rfl) (hs : starEach [b] X.env = (false, eval b X.env) :: starEach [] X.env := by rfl) (hplain : (backTo pos (starEach [] X.env)).any (·.1) = false := by rfl) :
    PD X Ps (.Call (.Attribute a name apos) [b] [] pos) (fMt1 g f1 f3) := by
  obtain ⟨t, p1, s1⟩ := p.ex
  obtain ⟨u, p2, s2⟩ := p'.ex
  refine ⟨_, pe_bm pa slot hty hm p1 (pa_cons p2 pa_nil hs) hbase hfew hline hs hplain, fun F0 H0 F H σ ρ d hE hf Q q => ?_⟩
  obtain ⟨x, e1, hf1⟩ := Option.bind_eq_some_iff.mp hf
  obtain ⟨y, e2, hf2⟩ := Option.bind_eq_some_iff.mp hf1
  split at hf2
  · refine s1 F0 H0 F H σ ρ _ hE e1 _ fun v F1 H1 m1 d1 => ?_
    cases d1
    refine ⟨rfl, ?_⟩
    refine s2 F0 H0 F1 H1 σ ρ _ (hE.move m1) e2 _ fun v F2 H2 m2 d2 => ?_
    cases d2
    exact hr F2 H2 _ _ d (m1.trans m2).refl hf2 Q fun v F3 H3 m3 d3 => q v F3 H3 ((m1.trans m2).trans m3) d3
  · cases hf2
def gStarts (a b : Str) : Option D := some (.bool (Txt.startswith a b))
theorem sem_starts {K : PySem.W.Frag} : ∀ (F H : Hp) (x y : Str) (z : D), Ok Ps F H F H → gStarts x y = some z → ∀ Q : VK, (∀ v F' H', Ok Ps F H F' H' → Dp K F' v z → Q v H') → ∃ a b, V.str x = .str a ∧ [V.str y] = [.str b] ∧ Q (.bl (Txt.startswith a b)) H := fun F H x y z o hg Q q => by
  cases hg
  exact ⟨x, y, rfl, rfl, q _ F H o (.bl _)⟩
def gPart (a b : Str) : Option D := if a.length ≤ 1000000 ∧ (b.length == 0) = false then some (.tuple [.str (Txt.partition a b).1, .str (Txt.partition a b).2.1, .str (Txt.partition a b).2.2]) else none
theorem sem_part {K : PySem.W.Frag} : ∀ (F H : Hp) (x y : Str) (z : D), Ok Ps F H F H → gPart x y = some z → ∀ Q : VK, (∀ v F' H', Ok Ps F H F' H' → Dp K F' v z → Q v H') →
    ∃ a b, V.str x = .str a ∧ [V.str y] = [.str b] ∧ (b.length == 0) = false ∧ a.length ≤ sizeLine ∧ ∀ p, H p = none → Q (.ref p) (upd H p (.tup [.str (Txt.partition a b).1, .str (Txt.partition a b).2.1, .str (Txt.partition a b).2.2])) := fun F H x y z o hg Q q => by
  unfold gPart at hg
  split at hg
  · rename_i hz
    cases hg
    refine ⟨x, y, rfl, rfl, hz.2, small_size hz.1, fun p hp => ?_⟩
    have m := o.new_fz hp (.tup [.str (Txt.partition x y).1, .str (Txt.partition x y).2.1, .str (Txt.partition x y).2.2])
    exact q _ _ _ m (.tup (.inl (.inl upd_same)) (.cons (.str _) (.cons (.str _) (.cons (.str _) .nil))))
  · cases hg
end
end FL
set_option maxHeartbeats 4000000
/-! FL8: formatted texts, defs by the head's facts, all over a text's signs. -/
namespace FL
open PySem PySem.Spec PyProof.Rows L2
section
variable {X : Cx} {Ps : List Addr} {e a b c : Expr} {es : List Expr} {f f1 f3 : Ro → Option D} {fl : Ro → Option (List D)} {pos : Pos}
def gFmt : D → Option D
  | .str z => if z.length ≤ 1000000 then some (.str z) else none
  | .int i => if i.natAbs.log2 < 1920 then some (.str (toString i)) else none
  | _ => none
theorem pd_fmt (p : PD X Ps e f) : PD X Ps (.FormattedValue e (-1) none pos) (fun ρ => (f ρ).bind gFmt) := by
  obtain ⟨t, p1, s1⟩ := p.ex
  refine ⟨_, pe_fmt p1, fun F0 H0 F H σ ρ d hE hf Q q => ?_⟩
  obtain ⟨x, e1, hf1⟩ := Option.bind_eq_some_iff.mp hf
  refine s1 F0 H0 F H σ ρ _ hE e1 _ fun v F1 H1 m1 d1 => ?_
  unfold gFmt at hf1
  split at hf1
  · split at hf1
    · rename_i hz
      cases hf1
      cases d1
      exact .inl ⟨_, rfl, small_size hz, q _ F1 H1 m1 (.str _)⟩
    · cases hf1
  · split at hf1
    · rename_i hz
      cases hf1
      cases d1
      exact .inr ⟨_, rfl, hz, q _ F1 H1 m1 (.str _)⟩
    · cases hf1
  · cases hf1
/-- the parts of a formatted text -/
structure JD (X : Cx) (Ps : List Addr) (es : List Expr) (g : Str → Ro → Option Str) : Prop where
  ex : ∃ ts, PJ X es ts ∧ ∀ (acc : Str) (F0 H0 F H : Hp) (σ : L2.St) (ρ : Ro) (out : Str), EnvOk X.K Ps F0 H0 F H σ ρ → g acc ρ = some out → ∀ Q : Str → Hp → Prop, (∀ F' H', Ok Ps F H F' H' → Q out H') → tJs ts acc σ H Q
def jNil : Str → Ro → Option Str := fun acc _ => some acc
theorem jd_nil : JD X Ps [] jNil := ⟨[], .nil, fun acc F0 H0 F H σ ρ out hE hf Q q => by cases hf; exact q F H hE.ok.refl⟩
def jCons (f : Ro → Option D) (g : Str → Ro → Option Str) : Str → Ro → Option Str := fun acc ρ => (f ρ).bind fun d => match d with
  | .str y => if (acc ++ y).length ≤ 1000000 then g (acc ++ y) ρ else none
  | _ => none
theorem jd_cons {g : Str → Ro → Option Str} (p : PD X Ps e f) (r : JD X Ps es g) : JD X Ps (e :: es) (jCons f g) := by
  obtain ⟨t, p1, s1⟩ := p.ex
  obtain ⟨ts, p2, s2⟩ := r.ex
  refine ⟨t :: ts, .cons p1 p2, fun acc F0 H0 F H σ ρ out hE hf Q q => ?_⟩
  obtain ⟨x, e1, hf1⟩ := Option.bind_eq_some_iff.mp hf
  refine s1 F0 H0 F H σ ρ _ hE e1 _ fun v F1 H1 m1 d1 => ?_
  cases x with
  | str y =>
    simp only at hf1
    split at hf1
    · rename_i hz
      cases d1
      exact ⟨y, rfl, small_size hz, s2 _ F0 H0 F1 H1 σ ρ out (hE.move m1) hf1 Q fun F2 H2 m2 => q F2 H2 (m1.trans m2)⟩
    · cases hf1
  | _ => cases hf1
theorem pd_joined {v1 v2 : Expr} {rest : List Expr} {g : Str → Ro → Option Str} (p : JD X Ps (v1 :: v2 :: rest) g) : PD X Ps (.JoinedStr (v1 :: v2 :: rest) pos) (fun ρ => (g Str.empty ρ).map .str) := by
  obtain ⟨ts, p1, s1⟩ := p.ex
  refine ⟨_, pe_joined p1, fun F0 H0 F H σ ρ d hE hf Q q => ?_⟩
  obtain ⟨out, e1, rfl⟩ := Option.map_eq_some_iff.mp hf
  exact s1 _ F0 H0 F H σ ρ out hE e1 _ fun F1 H1 m1 => q _ F1 H1 m1 (.str _)
end

/-! ### the rule of a def, by the head's facts -/
abbrev FnP (K : PySem.W.Frag) (x : Str) (st : Stmt) (f : Addr) (fd : FuncData) : Prop := FunD K x x (defArgs st) (defBody st) (defScope st) [] [] f fd
theorem def_okD {P : Program} {w : World} {K : PySem.W.Frag} {mg : Str → Option Value} {base : Heap} {x : Str} {st : Stmt} {fa : Addr} {fd : FuncData} {N ps : List Str} {k : Nat} {Ps : List Addr} {g : List D → Option D} {fb : Nat → Ro → Option Out} (F : FnP K x st fa fd) (S : FnScope N ps (defScope st))
    (hb : ∀ (n : Nat) (cdv : Value) (A : Around) (outer : List Env) (s : Shared) (H : Hp) (E : XK), Room k (A.deeper (envOfC x (defScope st) s.heap.objs.size fa cdv)) → fd.code = cdv → BD (cxOf CX0 P w K mg base N x (defScope st) fa cdv A outer s H E).nox Ps (defBody st) (fb n))
    (hg : ∀ ds d, ds.length = ps.length → g ds = some d → ∃ n, Gives (fb n (startR N ds)) d) : FnOk P w K mg base CX0 (k + 1) fa fd ps (spD K Ps ps.length g) := by
  obtain ⟨oc, od, dV, kV, doc, pm, an, cdv, ct, osl, rfl, lk, hcd, _, _⟩ := F.ex
  refine fn_of lk hcd S (fun vs H Q E h => h.1) fun A outer s H vs Q E hr hsp => ?_
  obtain ⟨hl, F1, ds, d, o, hd, e, q⟩ := hsp
  obtain ⟨n, hn⟩ := hg ds d ((dpAll_len hd).symm.trans hl) e
  obtain ⟨t, p, sm⟩ := (hb n cdv A outer s H E hr rfl).ex
  refine ⟨t, p.nox, ?_⟩
  rcases hn with h | ⟨ρ, h, rfl⟩
  · exact sm F1 H F1 H _ _ _ _ (env_start o hd) h fun F' H' v m dv => q v F' H' m dv
  · exact sm F1 H F1 H _ _ _ _ (env_start o hd) h fun F' H' σ hE _ => q .non F' H' hE.ok .non
/-- a def's code object -/
theorem code_of {K : PySem.W.Frag} {x : Str} {st : Stmt} {p : Str × Option Str} {fd : FuncData} (F : FnP K x st (He.fAd K p) fd) : fd.code = .ref (He.codeOf K p) := by
  obtain ⟨oc, od, dV, kV, doc, pm, an, cdv, ct, osl, rfl, lk, hcd, _, _⟩ := F.ex
  obtain ⟨c, rfl⟩ := He.codeIn_ref hcd
  rw [He.codeOf_eq lk rfl]
theorem binds_of {K : PySem.W.Frag} {x : Str} {st : Stmt} {f : Addr} {fd : FuncData} {ps : List Str} (F : FnP K x st f fd)
    (h : ∀ (kV doc pm : Value) (an : Option Addr) (cdv ct : Value) (us : List Value), us.length = ps.length → bindArgs (PySem.W.fnOf x x (defArgs st) (defBody st) (defScope st) .none kV doc pm an cdv ct) ⟨us, []⟩ = pure (ps.zip us)) : Binds K fd ps [] := F.bindsN h
end FL
set_option maxHeartbeats 4000000
/-! FL9: all(test of the sign, with the module's names, for x in a text). -/
namespace FL
open PySem PySem.Spec PyProof.Rows L2 GxR

/-- the element is a test of the sign that may read the module's names -/
def SignTest (X : Cx) (scope : Scope) (x : Str) (elt : Expr) (pb : Nat → Bool) : Prop :=
  ∀ (ce : Env) (B : Around) (E : Value → Shared → Prop) (c : Nat) (t : Tok) (s : Shared) (m : Str → Option Value), ce.scope = scope → s.heap.Ns ce.globals X.mg → s.heap.Ns ce.locals m → m x = some (.str ⟨#[c]⟩ t) →
    wpAny (model X.prog X.w) B (eval elt ce) (fun y s' => y = .bool (pb c) ∧ Keeps s s') E s
/-- x in NAME, NAME a text of the module -/
theorem sign_in {X : Cx} {scope : Scope} {x n z : Str} {t : Tok} {p1 p2 p3 : Pos} (hk : scope.kind = .function) (hl : scope.names.lookup x = some .local) (hg : scope.names.lookup n = some .globalImplicit) (hm : X.mg n = some (.str z t))
    (hd : (x == ("__debug__" : Str)) = false := by decide) (hd2 : (n == ("__debug__" : Str)) = false := by decide) : SignTest X scope x (.Compare (.Name x p1) [.In] [.Name n p2] p3) (fun c => decide (c ∈ z.cps.toList)) := by
  intro ce B E c u s m hs hG hn hx
  refine wpAny_Compare1 ?_ (by rfl)
  refine wpAny_Name (wpAny_loadName_local (by rw [hs]; exact hk) (show ce.scope.names.lookup x = some .local by rw [hs]; exact hl) hn hx ?_) hd
  refine Calls.Name_function_global (by rw [hs]; exact hk) (show ce.scope.names.lookup n = some .globalImplicit by rw [hs]; exact hg) (Calls.loadGlobal_global hG hm ?_) hd2
  refine PyProof.Rows.in_str ⟨?_, keeps_refl _⟩
  exact congrArg Value.bool (PySem.StrLaws.found_one z c)

section
variable {X : Cx} {pins : List (Addr × Obj)} {σ : L2.St} {H : Hp} {s : Shared}
/-- the code object of a generator expression is found or made: what follows may lean on a heap that is kept but for the table at P -/
theorem gen_code {c P : Addr} {gpos : Pos} {qn : Str} {scope : Scope} {ps : Array Value} {Q : Value → Shared → Prop} (TB : TabB X.base X.mg c P) (hcode : X.env.code = .ref c) (I : L2.Inv X pins σ H s) (hP : H P = some (.tbl ps)) (ht : TriplesOk ps.toList) (o : Obj)
    (k : ∀ (code : Value) (h3 : Heap) (tk : Nat) (more : Array Value), Heap.ExtBut P (s.heap.push o) h3 → (s.heap.push o).objs.size ≤ h3.objs.size → h3.get? P = some { cls := .none, data := .fields (ps ++ more) } → TriplesOk (ps ++ more).toList → Q code { s with heap := h3, toks := tk }) :
    wpAny (model X.prog X.w) X.A (genexprCode X.env gpos qn scope) Q X.xe { s with heap := s.heap.push o } := by
  have hPs : s.heap.get? P = some { cls := .none, data := .fields ps } := I.hok P _ hP
  have hP2 : (s.heap.push o).get? P = some { cls := .none, data := .fields ps } := Heap.get?_push_of_some _ hPs
  have cd : PySem.W.CodeHd (s.heap.push o) c P := TB.code.keeps fun b u e => Heap.get?_push_of_some _ (I.bk b u e)
  cases hf : codeAmong gpos ps.toList with
  | none =>
    refine wpAny_genexprCodeX hcode (cd.code hP2 ht) (cd.tab hP2) hf fun c' h' tk hx hge hlt hco' _ htab' _ => ?_
    obtain ⟨_, _, _, _, _, _, _, _, _, _, _, _, _, _, _, _, _, _, _, htr, _⟩ := hco'
    exact k _ h' tk _ hx (Nat.le_trans hge (Nat.le_of_lt hlt)) htab'.2 htr
  | some cv =>
    refine wpAny_genexprCode_hit hcode (cd.code hP2 ht) hf ?_
    have e : ps ++ (#[] : Array Value) = ps := by simp
    exact k cv (s.heap.push o) s.toks #[] (Heap.ExtBut.refl _ _) (Nat.le_refl _) (by rw [e]; exact hP2) (by rw [e]; exact ht)
/-- the generator stands ready over the signs of a -/
theorem gen_signs {c P : Addr} {elt iter : Expr} {x : Str} {px gpos : Pos} {scope : Scope} {pb : Nat → Bool} {te : TE} {k : Nat} {Q' : Value → Shared → Prop} {R : Str → Hp → Prop}
    (hr : Room k X.A) (TB : TabB X.base X.mg c P) (hcode : X.env.code = .ref c) (S : GenS X.env scope x) (hi : PE X iter te) (hel : SignTest X scope x elt pb) (hs : ∀ v, genFold iter X.env v = pure v) (I : L2.Inv X pins σ H s)
    (h : te σ H fun v H1 => ∃ a : Str, v = .str a ∧ TabG H1 P ∧ R a H1) (hQ : ∀ a H1 g s5, R a H1 → Ready X pins σ H1 P a pb g s5 → Q' (.ref g) s5) :
    wpAny (model X.prog X.w) X.A (eval (.GeneratorExp elt [⟨.Name x px, iter, [], 0⟩] scope gpos) X.env) Q' X.xe s := by
  refine wpAny_GeneratorExp_walksQ hr.hd S.co (closure_ok S.free) S.cell S.dot S.loc S.kind (by have := hr.dp; omega) (thn (hi.run pins s σ H _ I h) fun xv s1 ⟨v, H1, I1, r1, q1⟩ => ?_) hs
  obtain ⟨a, rfl, ⟨ps, hP, ht⟩, q1⟩ := q1
  obtain ⟨t, rfl⟩ := _root_.id r1
  refine wpAny_pyIter_str fun o St W hst => ⟨I1.nolimit.push o, gen_code TB hcode I1 hP ht o fun code h3 tk more hx hsz hP3 ht3 => ?_⟩
  have hPs : s1.heap.get? P = some { cls := .none, data := .fields ps } := I1.hok P _ hP
  have hPlt : P < s1.heap.objs.size := Heap.lt_size hPs
  have gl : h3.Ns mainGlobals X.mg := ((I1.mod.glob.keeps I1.bk).push o).extBut hx TB.gP
  have hcP : cStatics ≠ P := fun e => by
    obtain ⟨_, hns, _⟩ := I1.nolimit
    obtain ⟨_, _, _, ho, hd, _⟩ := hns
    rw [e, hPs] at ho
    cases ho
    cases hd
  have hcl : cStatics < s1.heap.objs.size := let ⟨_, hns, _⟩ := I1.nolimit; hns.lt
  have sz2 : (s1.heap.push o).objs.size = s1.heap.objs.size + 1 := Heap.size_push ..
  have keep3 : ∀ b u, b ≠ P → s1.heap.get? b = some u → h3.get? b = some u := fun b u hb e => hx b u hb (Heap.get?_push_of_some _ e)
  obtain ⟨bm, ob, e1, e2, e3, e4, e5, e6, e7, e8⟩ := TB.bm
  refine wpAny_builtinsFor (m := X.mg) (by rw [I1.ok.glob]; exact gl) e1 e2 (keep3 _ _ e4 (I1.bk _ _ e5)) e6 e7 e8 ?_
  refine ⟨s1.heap.objs.size, [s1.heap.objs.size], [s1.heap.objs.size], a.cps.size, SignAt a, St, (fun _ => true), (fun i y => ∃ cc, a.cps[i]? = some cc ∧ y = .bool (pb cc)), rfl, W, ?_, ?_, (I1.nolimit.push o).extBut hx hcP, ?_, ?_, ?_⟩
  · exact (W X.A hr.hd).frame _ _ _ hst fun b hb u e => hx b u (by
      rw [List.mem_singleton] at hb
      rw [hb]
      exact Nat.ne_of_gt hPlt) e
  · intro b hb
    rw [List.mem_singleton] at hb
    rw [hb]
    show s1.heap.objs.size < h3.objs.size
    omega
  · intro z
    rw [List.mem_singleton] at z
    exact Nat.ne_of_lt hcl z
  · intro href hhref
    refine ⟨fun B E i v s₂ m₂ hA hPv hn hm hk => ?_, fun B E i v s₂ m₂ hA hPv hp hn hm hk => ?_⟩
    · simp only [List.forIn_nil]
      exact wpAny_pure ⟨rfl, keeps_refl _⟩
    · obtain ⟨cc, u, hcc, rfl⟩ := hPv
      have g2 : s₂.heap.Ns mainGlobals X.mg := by
        obtain ⟨og, es, ep, ho, hd, r⟩ := gl
        have hlt : (mainGlobals : Nat) < h3.objs.size := Heap.lt_size ho
        refine ⟨og, es, ep, hk mainGlobals (List.mem_range.mpr hlt) (fun z => ?_) og (hhref _ _ ho), hd, r⟩
        rw [List.mem_singleton] at z
        obtain ⟨o', _, _, ho', _⟩ := I1.mod.glob.keeps I1.bk
        exact absurd (Heap.lt_size ho') (by rw [z]; exact Nat.lt_irrefl _)
      exact wpAny_mono (hel _ B E cc u s₂ m₂ rfl (by show s₂.heap.Ns X.env.globals X.mg; rw [I1.ok.glob]; exact g2) hn hm) (fun y s3 r => ⟨⟨cc, hcc, r.1⟩, r.2⟩) fun _ _ e => e
  · intro g h5 tk5 gs hgb hag hsz5 hk5 W5 hat
    simp only [GxR.passing_true, List.length_range] at W5
    refine hQ a H1 g _ q1 ⟨_, _, _, _, _, W5.in4_1, hat, fun j y sj Qj Ej hy hQj => ?_, fun s' hm => ?_⟩
    · obtain ⟨i, hij, cc, hcc, rfl⟩ := hy
      obtain ⟨hj, ej⟩ := List.getElem?_eq_some_iff.mp hij
      rw [List.getElem_range] at ej
      subst ej
      have e9 : a.cps.toList[j]? = some cc := by rw [Array.getElem?_toList]; exact hcc
      have hQ2 : Qj (trF pb a.cps.toList j) sj := hQj
      rw [trF_some e9] at hQ2
      exact wpAny_truthy_bool hQ2
    · have nwr : ∀ b u, s1.heap.get? b = some u → b ∉ h3.objs.size :: [s1.heap.objs.size] := fun b u e hb => by
        have hl : (b : Nat) < s1.heap.objs.size := Heap.lt_size e
        simp only [List.mem_cons, List.not_mem_nil, or_false] at hb
        rcases hb with z | z
        · have h9 : h3.objs.size < s1.heap.objs.size := by rw [← z]; exact hl
          omega
        · have h9 : s1.heap.objs.size < s1.heap.objs.size := by
            have h8 := hl
            rw [z] at h8
            exact h8
          exact Nat.lt_irrefl _ h9
      have J := inv_tab (more := more) (h' := s'.heap) (g' := s'.gens) (d' := s'.drawn) (t' := s'.toks) I1 hP (fun b u hb e => hm.heap b u (nwr b u e) (hk5 b u (keep3 b u hb e)))
        (hm.heap P _ (nwr P _ hPs) (hk5 P _ hP3)) (AllBare.movedS (I1.bare.push hgb) hm)
      rw [sh_eta s1 s' hm.os] at J
      exact ⟨upd H1 P (.tbl (ps ++ more)), ⟨⟨ps ++ more, upd_same, ht3⟩, fun b hb => upd_ne hb⟩, J⟩
end
/-- all(test for x in a text), the def's table at P -/
def tAllG (P : Addr) (pb : Nat → Bool) (te : TE) : TE := fun σ H Q => te σ H fun v H1 => ∃ a : Str, v = .str a ∧ TabG H1 P ∧ ∀ H2, Tabbed P H1 H2 → Q (.bl (a.cps.toList.all pb)) H2
theorem pe_allG {X : Cx} {c P : Addr} {elt iter : Expr} {x : Str} {px p pos gpos : Pos} {scope : Scope} {pb : Nat → Bool} {te : TE} {k : Nat}
    (hr : Room k X.A) (hg : Gl X "all") (hm : X.mg "all" = none) (hb : bootBuiltins "all" = some (.builtin "all")) (TB : TabB X.base X.mg c P) (hcode : X.env.code = .ref c) (S : GenS X.env scope x) (hi : PE X iter te) (hel : SignTest X scope x elt pb)
    (hs : ∀ v, genFold iter X.env v = pure v) (he : starEach [.GeneratorExp elt [⟨.Name x px, iter, [], 0⟩] scope gpos] X.env = (false, eval (.GeneratorExp elt [⟨.Name x px, iter, [], 0⟩] scope gpos) X.env) :: starEach [] X.env := by rfl) :
    PE X (.Call (.Name "all" p) [.GeneratorExp elt [⟨.Name x px, iter, [], 0⟩] scope gpos] [] pos) (tAllG P pb te) := by
  refine ⟨fun pins s σ H Q I h => wpAny_Call_Name_kw (ld_blt I hg hm hb (PyProof.Rows.callWith_builtin1 ?_ he (by rfl)))⟩
  rw [he]
  show wpAny _ _ (spliced ((false, eval (.GeneratorExp elt [⟨.Name x px, iter, [], 0⟩] scope gpos) X.env) :: backTo pos (starEach [] X.env))) _ _ s
  refine Calls.spliced_cons (gen_signs (R := fun a H1 => ∀ H2, Tabbed P H1 H2 → Q (.bl (a.cps.toList.all pb)) H2) hr TB hcode S hi hel hs I h fun a H1 g s5 hR hG => ?_)
  obtain ⟨fp, wr, G, F, S', W, hst, htr, hI⟩ := hG
  refine Calls.spliced_nil (call_all_walkS (W.self 0 _ _ _ hst ⟨g, fp, wr, G, _, F, S', _, rfl, W, hst, htr, fun s' hmv => ?_⟩))
  obtain ⟨H2, hT, J⟩ := hI s' hmv
  exact ⟨.bl _, H2, J, rfl, by rw [all_signs a pb]; exact hR H2 hT⟩
def fAllG (pb : Nat → Bool) (f : Ro → Option D) : Ro → Option D := fun ρ => (f ρ).bind fun d => match d with
  | .str a => some (.bool (a.cps.toList.all pb))
  | _ => none
/-- the table at P grows -/
theorem Ok.tabbed {Ps F0 H0 F H H'} (h : Ok Ps F0 H0 F H) {P : Addr} (hP : P ∈ Ps) (t : Tabbed P H H') : Ok Ps F H F H' where
  sub := fun b o e => by
    have n : b ≠ P := fun z => by rw [z, h.fno P hP] at e; cases e
    rw [t.2 b n]; exact h.sub b o e
  grow := Same.refl _
  new := fun _ e => .inl e
  ext := fun b o e hp => by
    have n : b ≠ P := fun z => hp (by rw [z]; exact hP)
    rw [t.2 b n]; exact e
  tab := fun p hp => by
    by_cases q : p = P
    · rw [q]; exact t.1
    · obtain ⟨ps, e, tr⟩ := h.tab p hp
      exact ⟨ps, by rw [t.2 p q]; exact e, tr⟩
  fno := h.fno
theorem pd_allG {X : Cx} {Ps : List Addr} {c P : Addr} {elt iter : Expr} {x : Str} {px p pos gpos : Pos} {scope : Scope} {pb : Nat → Bool} {f : Ro → Option D} {k : Nat} (hP : P ∈ Ps)
    (hr : Room k X.A) (hg : Gl X "all") (hm : X.mg "all" = none) (TB : TabB X.base X.mg c P) (hcode : X.env.code = .ref c) (S : GenS X.env scope x) (hi : PD X Ps iter f) (hel : SignTest X scope x elt pb) (hb : bootBuiltins "all" = some (.builtin "all") := by decide +kernel)
    (hs : ∀ v, genFold iter X.env v = pure v := by intro _; rfl) (he : starEach [.GeneratorExp elt [⟨.Name x px, iter, [], 0⟩] scope gpos] X.env = (false, eval (.GeneratorExp elt [⟨.Name x px, iter, [], 0⟩] scope gpos) X.env) :: starEach [] X.env := by rfl) :
    PD X Ps (.Call (.Name "all" p) [.GeneratorExp elt [⟨.Name x px, iter, [], 0⟩] scope gpos] [] pos) (fAllG pb f) := by
  obtain ⟨t, p1, s1⟩ := hi.ex
  refine ⟨_, pe_allG hr hg hm hb TB hcode S p1 hel hs he, fun F0 H0 F H σ ρ d hE hf Q q => ?_⟩
  obtain ⟨y, e1, hf1⟩ := Option.bind_eq_some_iff.mp hf
  cases y with
  | str a =>
    cases hf1
    refine s1 F0 H0 F H σ ρ _ hE e1 _ fun v F1 H1 m1 d1 => ?_
    cases d1
    exact ⟨a, rfl, m1.tab P hP, fun H2 tb => q _ F1 H2 (m1.trans (m1.tabbed hP tb)) (.bl _)⟩
  | _ => cases hf1
end FL
set_option maxHeartbeats 4000000
/-! FL10: list + list, numbers of arguments, the end. -/
namespace FL
open PySem PySem.Spec PyProof.Rows L2

theorem list_add_any (l b : Addr) (items items2 : Array Value) (n n2 : Nat) (dd dd2 : Option Addr) (sl sl2 : Array (Option Value)) (hz : items.size + items2.size ≤ sizeLine) :
    Meets (Builtin.«list.__add__» ⟨[.ref l, .ref b], []⟩) (fun _ R s => s.heap.get? l = some { cls := .type "list", dict := dd, data := .seq items n, slots := sl } ∧ s.heap.get? b = some { cls := .type "list", dict := dd2, data := .seq items2 n2, slots := sl2 } ∧
      R (.ok (.ret (Value.ref s.heap.objs.size))) { s with heap := s.heap.push { cls := Value.type "list", data := Data.seq (items ++ items2) }, toks := s.toks }) :=
  .of_wp fun prog w A R s h => by
    obtain ⟨hp, g, d, tk, os⟩ := s; obtain ⟨hl, hb, h⟩ := h
    have f1 := AutoSeq1.idx_int; have f2 := AutoSeq1.sub_tuple_tuple; have f3 := AutoSeq1.sub_list_list; have f4 := AutoSeq1.sub_tuple_list; have f5 := AutoSeq1.sub_list_tuple
    wp_walk using AutoSeq1.wpAny_loadPart' hl, AutoSeq1.wpAny_loadPart' hb
    exact ⟨_, rfl, h⟩
def rCatL (K : PySem.W.Frag) : R2 := fun x y H Q => ∃ a b xs ys, x = .ref a ∧ y = .ref b ∧ SqL K H a xs ∧ SqL K H b ys ∧ xs.length + ys.length ≤ sizeLine ∧ ∀ p, H p = none → Q (.ref p) (upd H p (.lst (xs ++ ys)))
theorem op_catL {X : Cx} : OpR X (binaryOp .Add) (rCatL X.K) := by
  intro pins s σ H x y v u Q I rx ry h
  obtain ⟨a, b, xs, ys, rfl, rfl, ha, hb, hz, q⟩ := h
  cases rx
  cases ry
  obtain ⟨its, r, ⟨⟨c1, d1, t1, l1⟩, n1, e1, hc1, hd1, hs1⟩, _⟩ := I.list ha
  obtain ⟨its2, r2, ⟨⟨c2, d2, t2, l2⟩, n2, e2, hc2, hd2, hs2⟩, _⟩ := I.list hb
  simp only at hc1 hd1 hs1 hc2 hd2 hs2
  subst hc1 hd1 hs1 hc2 hd2 hs2
  have z1 := r.length
  have z2 := r2.length
  have ea : its.toArray ++ its2.toArray = (its ++ its2).toArray := by simp
  refine concat_meets ⟨_, e1, rfl⟩ ⟨_, e2, rfl⟩ noFill_list_add seq_list_add PySem.F.slot_list_add PySem.F.entry_list_add (PySem.F.args_list_add_2 _ _) (list_add_any a b its.toArray its2.toArray n1 n2 none none l1 l2 (by rw [List.size_toArray, List.size_toArray]; omega)) ⟨e1, e2, ?_⟩
  rw [ea]
  exact ⟨.ref _, _, I.lnew (t' := s.toks) (r.append r2) (by rw [List.length_append]; omega), rfl, q _ I.fresh⟩
section
variable {X : Cx} {Ps : List Addr} {e a b c : Expr} {es : List Expr} {f f1 f3 : Ro → Option D} {fl : Ro → Option (List D)} {pos : Pos}
def fCatL (f1 f3 : Ro → Option D) : Ro → Option (List D) := fun ρ => (f1 ρ).bind fun x => (f3 ρ).bind fun y => match x, y with
  | .list xs, .list ys => if xs.length + ys.length ≤ 1000000 then some (xs ++ ys) else none
  | _, _ => none
theorem ld_catL (pa : PD X Ps a f1) (pb : PD X Ps b f3) : LD X Ps (.BinOp a .Add b pos) (fCatL f1 f3) := by
  obtain ⟨t, p1, s1⟩ := pa.ex
  obtain ⟨u, p2, s2⟩ := pb.ex
  refine ⟨_, pe_op op_catL p1 p2, fun F0 H0 F H σ ρ ds hE hf Q q => ?_⟩
  obtain ⟨x, e1, hf1⟩ := Option.bind_eq_some_iff.mp hf
  obtain ⟨y, e2, hf2⟩ := Option.bind_eq_some_iff.mp hf1
  split at hf2
  · split at hf2
    · rename_i hz
      cases hf2
      refine s1 F0 H0 F H σ ρ _ hE e1 _ fun v F1 H1 m1 d1 => ?_
      refine s2 F0 H0 F1 H1 σ ρ _ (hE.move m1) e2 _ fun u F2 H2 m2 d2 => ?_
      have mm := m1.trans m2
      cases d1 with
      | @lst a xs _ hs ha =>
        cases d2 with
        | @lst b ys _ hs2 ha2 =>
          have ha' := dpAll_mono m2.grow _ _ ha
          refine ⟨a, b, xs, ys, rfl, rfl, mm.sub.seq (m2.grow.seq hs), mm.sub.seq hs2, by rw [dpAll_len ha, dpAll_len ha2]; exact small_size hz, fun p hp => ?_⟩
          exact q p _ F2 _ (mm.trans (mm.new_ow hp (.lst (xs ++ ys)))) (mm.none0 hp) (fno_new mm hp) upd_same (dpAll_app ha' ha2)
    · cases hf2
  · cases hf2
def LenIs (n : Nat) (fl : Ro → Option (List D)) : Prop := ∀ ρ ds, fl ρ = some ds → ds.length = n
theorem len_nil : LenIs 0 (fun _ => some []) := fun ρ ds h => by cases h; rfl
theorem len_cons {n : Nat} (h : LenIs n fl) : LenIs (n + 1) (fCons f fl) := fun ρ ds e => by
  obtain ⟨x, e1, h1⟩ := Option.bind_eq_some_iff.mp e
  obtain ⟨xs, e2, h2⟩ := Option.bind_eq_some_iff.mp h1
  cases h2
  rw [List.length_cons, h ρ xs e2]
end
end FL
namespace FL
open PySem PySem.Spec PyProof.Rows L2
/-! ### a def as the function that its body runs -/
def outD : Option Out → Option D
  | some (.rt d) => some d
  | some (.nx _) => some .none
  | _ => none
def runF (N : List Str) (k : Nat) (f : Ro → Option Out) : List D → Option D := fun ds => if ds.length = k then outD (f (startR N ds)) else none
theorem runF_gives {N : List Str} {k : Nat} {f : Ro → Option Out} {ds : List D} {d : D} (h : runF N k f ds = some d) : Gives (f (startR N ds)) d := by
  unfold runF at h
  split at h
  · unfold outD at h
    split at h
    · cases h
      rename_i e
      exact .inl e
    · cases h
      rename_i ρ e
      exact .inr ⟨ρ, e, rfl⟩
    · cases h
  · cases h
theorem hg_run {N : List Str} {k n : Nat} {f : Nat → Ro → Option Out} : ∀ ds d, ds.length = k → runF N k (f n) ds = some d → ∃ n, Gives (f n (startR N ds)) d := fun ds d _ e => ⟨n, runF_gives e⟩
end FL
set_option maxHeartbeats 4000000
/-! FL11: mathematics of data: loops, equal data, values. -/
namespace FL
open PySem PySem.Spec PyProof.Rows L2

/-! ### loops by an invariant -/
theorem loop_inv {fg : D → Ro → Option Ro} {fb : Ro → Option Out} (P : Ro → Prop) : ∀ (ds : List D), (∀ d ∈ ds, ∀ ρ, P ρ → ∃ ρ1 ρ2, fg d ρ = some ρ1 ∧ (fb ρ1 = some (.nx ρ2) ∨ fb ρ1 = some (.ct ρ2)) ∧ P ρ2) → ∀ ρ, P ρ → ∃ ρ', loopF fg fb ds ρ = some (.nx ρ') ∧ P ρ'
  | [], _, ρ, hp => ⟨ρ, rfl, hp⟩
  | d :: ds, h, ρ, hp => by
    obtain ⟨ρ1, ρ2, e1, e2, p2⟩ := h d List.mem_cons_self ρ hp
    obtain ⟨ρ', e3, p3⟩ := loop_inv P ds (fun x hx => h x (List.mem_cons_of_mem _ hx)) ρ2 p2
    refine ⟨ρ', ?_, p3⟩
    unfold loopF
    rw [e1]
    rcases e2 with e2 | e2
    · simp only [Option.bind_some, e2]; exact e3
    · simp only [Option.bind_some, e2]; exact e3
/-- by the items that are behind -/
theorem loop_ix {fg : D → Ro → Option Ro} {fb : Ro → Option Out} (all : List D) (P : List D → Ro → Prop) (h : ∀ pre d post ρ, all = pre ++ d :: post → P pre ρ → ∃ ρ1 ρ2, fg d ρ = some ρ1 ∧ (fb ρ1 = some (.nx ρ2) ∨ fb ρ1 = some (.ct ρ2)) ∧ P (pre ++ [d]) ρ2) :
    ∀ (ds pre : List D), all = pre ++ ds → ∀ ρ, P pre ρ → ∃ ρ', loopF fg fb ds ρ = some (.nx ρ') ∧ P all ρ'
  | [], pre, e, ρ, hp => ⟨ρ, rfl, by rw [e, List.append_nil]; exact hp⟩
  | d :: ds, pre, e, ρ, hp => by
    obtain ⟨ρ1, ρ2, e1, e2, p2⟩ := h pre d ds ρ e hp
    obtain ⟨ρ', e3, p3⟩ := loop_ix all P h ds (pre ++ [d]) (by rw [e, List.append_assoc]; rfl) ρ2 p2
    refine ⟨ρ', ?_, p3⟩
    unfold loopF
    rw [e1]
    rcases e2 with e2 | e2
    · simp only [Option.bind_some, e2]; exact e3
    · simp only [Option.bind_some, e2]; exact e3
/-! ### comprehensions whose turns all give -/
theorem lc_all {fg : D → Ro → Option Ro} {ft : Ro → Option Bool} {fe : Ro → Option D} {ρ0 : Ro} (P : D → Prop) : ∀ (xs acc : List D), (∀ x ∈ xs, ∃ ρ1 d, fg x ρ0 = some ρ1 ∧ ft ρ1 = some true ∧ fe ρ1 = some d ∧ P d) → acc.length + xs.length ≤ 1000000 → ∃ ds, lcF fg ft fe ρ0 xs acc = some (acc ++ ds) ∧ ds.length = xs.length ∧ ∀ d ∈ ds, P d
  | [], acc, _, _ => ⟨[], by rw [List.append_nil]; rfl, rfl, fun _ h => by cases h⟩
  | x :: xs, acc, h, hl => by
    obtain ⟨ρ1, d, e1, e2, e3, pd⟩ := h x List.mem_cons_self
    rw [List.length_cons] at hl
    obtain ⟨ds, e4, l4, p4⟩ := lc_all P xs (acc ++ [d]) (fun y hy => h y (List.mem_cons_of_mem _ hy)) (by rw [List.length_append, List.length_singleton]; omega)
    refine ⟨d :: ds, ?_, by rw [List.length_cons, List.length_cons, l4], fun z hz => ?_⟩
    · unfold lcF
      rw [e1, Option.bind_some, e2, Option.bind_some, if_pos rfl, e3, Option.bind_some, if_pos (by omega), e4, List.append_assoc]
      rfl
    · rcases List.mem_cons.mp hz with z1 | z1
      · rw [z1]; exact pd
      · exact p4 z z1

/-! ### equal data -/
mutual
def same : D → D → Bool
  | .none, .none => true
  | .bool a, .bool b => a == b
  | .int a, .int b => decide (a = b)
  | .str a, .str b => decide (a = b)
  | .list a, .list b => sameAll a b
  | .tuple a, .tuple b => sameAll a b
  | _, _ => false
def sameAll : List D → List D → Bool
  | [], [] => true
  | x :: xs, y :: ys => same x y && sameAll xs ys
  | _, _ => false
end
mutual
theorem same_eq : ∀ (a b : D), same a b = true → a = b
  | .none, b, h => by cases b <;> simp_all [same]
  | .bool a, b, h => by cases b <;> simp_all [same]
  | .int a, b, h => by cases b <;> simp_all [same]
  | .str a, b, h => by cases b <;> simp_all [same]
  | .list a, b, h => by
    cases b with
    | list b => rw [sameAll_eq a b (by simpa [same] using h)]
    | _ => simp [same] at h
  | .tuple a, b, h => by
    cases b with
    | tuple b => rw [sameAll_eq a b (by simpa [same] using h)]
    | _ => simp [same] at h
  | .dict a, b, h => by cases b <;> simp [same] at h
theorem sameAll_eq : ∀ (a b : List D), sameAll a b = true → a = b
  | [], b, h => by cases b <;> simp_all [sameAll]
  | x :: xs, b, h => by
    cases b with
    | nil => simp [sameAll] at h
    | cons y ys =>
      rw [sameAll, Bool.and_eq_true] at h
      rw [same_eq x y h.1, sameAll_eq xs ys h.2]
end
/-- the answer is this datum -/
def gives (d : D) : Option D → Bool
  | some e => same e d
  | none => false
theorem gives_eq {d : D} {o : Option D} (h : gives d o = true) : o = some d := by
  cases o with
  | none => cases h
  | some e => rw [same_eq e d h]

/-! ### values as data: tuples of texts and tuples of values -/
mutual
def isV : D → Bool
  | .tuple [.str _] => true
  | .tuple [.str _, .tuple vs] => isVs vs
  | _ => false
def isVs : List D → Bool
  | [] => true
  | v :: vs => isV v && isVs vs
end
end FL
namespace FL
open PySem PySem.Spec PyProof.Rows L2
mutual
theorem alike_V : ∀ (a b : D), isV a = true → isV b = true → PySem.W.alike a b = true
  | .tuple [.str x], b, _, hb => by
    cases b with
    | tuple bs =>
      match bs, hb with
      | [.str y], _ => simp [PySem.W.alike, PySem.W.alikeAll]
      | [.str y, .tuple ws], _ => simp [PySem.W.alike, PySem.W.alikeAll]
    | _ => simp [isV] at hb
  | .tuple [.str x, .tuple vs], b, ha, hb => by
    cases b with
    | tuple bs =>
      match bs, hb with
      | [.str y], _ => simp [PySem.W.alike, PySem.W.alikeAll]
      | [.str y, .tuple ws], hb =>
        have h1 : isVs vs = true := by simpa [isV] using ha
        have h2 : isVs ws = true := by simpa [isV] using hb
        have h3 := alike_Vs vs ws h1 h2
        simp [PySem.W.alike, PySem.W.alikeAll, h3]
    | _ => simp [isV] at hb
  | .none, _, h, _ => by simp [isV] at h
  | .bool _, _, h, _ => by simp [isV] at h
  | .int _, _, h, _ => by simp [isV] at h
  | .str _, _, h, _ => by simp [isV] at h
  | .list _, _, h, _ => by simp [isV] at h
  | .dict _, _, h, _ => by simp [isV] at h
  | .tuple [], _, h, _ => by simp [isV] at h
  | .tuple (.none :: _), _, h, _ => by simp [isV] at h
  | .tuple (.bool _ :: _), _, h, _ => by simp [isV] at h
  | .tuple (.int _ :: _), _, h, _ => by simp [isV] at h
  | .tuple (.list _ :: _), _, h, _ => by simp [isV] at h
  | .tuple (.tuple _ :: _), _, h, _ => by simp [isV] at h
  | .tuple (.dict _ :: _), _, h, _ => by simp [isV] at h
  | .tuple (.str _ :: .none :: _), _, h, _ => by simp [isV] at h
  | .tuple (.str _ :: .bool _ :: _), _, h, _ => by simp [isV] at h
  | .tuple (.str _ :: .int _ :: _), _, h, _ => by simp [isV] at h
  | .tuple (.str _ :: .str _ :: _), _, h, _ => by simp [isV] at h
  | .tuple (.str _ :: .list _ :: _), _, h, _ => by simp [isV] at h
  | .tuple (.str _ :: .dict _ :: _), _, h, _ => by simp [isV] at h
  | .tuple (.str _ :: .tuple _ :: _ :: _), _, h, _ => by simp [isV] at h
theorem alike_Vs : ∀ (a b : List D), isVs a = true → isVs b = true → PySem.W.alikeAll a b = true
  | [], _, _, _ => by simp [PySem.W.alikeAll]
  | _ :: _, [], _, _ => by simp [PySem.W.alikeAll]
  | x :: xs, y :: ys, ha, hb => by
    simp only [isVs, Bool.and_eq_true] at ha hb
    simp only [PySem.W.alikeAll, alike_V x y ha.1 hb.1, alike_Vs xs ys ha.2 hb.2, Bool.and_self]
end
mutual
def txt : D → Bool
  | .str _ => true
  | .tuple vs => txts vs
  | _ => false
def txts : List D → Bool
  | [] => true
  | v :: vs => txt v && txts vs
end
mutual
theorem eqv_txt : ∀ (a b : D), txt a = true → txt b = true → PyData.eqv a b = true → a = b
  | .str x, b, _, hb, h => by
    cases b with
    | str y =>
      have e : x = y := by simpa [PyData.eqv] using h
      rw [e]
    | tuple ys => simp [PyData.eqv] at h
    | _ => simp [txt] at hb
  | .tuple xs, b, ha, hb, h => by
    cases b with
    | tuple ys => rw [eqv_txts xs ys (by simpa [txt] using ha) (by simpa [txt] using hb) (by simpa [PyData.eqv] using h)]
    | str y => simp [PyData.eqv] at h
    | _ => simp [txt] at hb
  | .none, _, h, _, _ => by simp [txt] at h
  | .bool _, _, h, _, _ => by simp [txt] at h
  | .int _, _, h, _, _ => by simp [txt] at h
  | .list _, _, h, _, _ => by simp [txt] at h
  | .dict _, _, h, _, _ => by simp [txt] at h
theorem eqv_txts : ∀ (a b : List D), txts a = true → txts b = true → PyData.eqvAll a b = true → a = b
  | [], b, _, _, h => by
    cases b with
    | nil => rfl
    | cons y ys => simp [PyData.eqvAll] at h
  | x :: xs, b, ha, hb, h => by
    cases b with
    | nil => simp [PyData.eqvAll] at h
    | cons y ys =>
      simp only [txts, Bool.and_eq_true] at ha hb
      simp only [PyData.eqvAll, Bool.and_eq_true] at h
      rw [eqv_txt x y ha.1 hb.1 h.1, eqv_txts xs ys ha.2 hb.2 h.2]
end
mutual
theorem eqv_self : ∀ (a : D), txt a = true → PyData.eqv a a = true
  | .str x, _ => by simp [PyData.eqv]
  | .tuple xs, h => by
    simp only [PyData.eqv]
    exact eqv_selfs xs (by simpa [txt] using h)
  | .none, h => by simp [txt] at h
  | .bool _, h => by simp [txt] at h
  | .int _, h => by simp [txt] at h
  | .list _, h => by simp [txt] at h
  | .dict _, h => by simp [txt] at h
theorem eqv_selfs : ∀ (a : List D), txts a = true → PyData.eqvAll a a = true
  | [], _ => by simp [PyData.eqvAll]
  | x :: xs, h => by
    simp only [txts, Bool.and_eq_true] at h
    simp only [PyData.eqvAll, eqv_self x h.1, eqv_selfs xs h.2, Bool.and_self]
end
/-! ### more fuel -/
theorem whileF_more {ft : Ro → Option Bool} {fb : Ro → Option Out} : ∀ (n k : Nat) (ρ : Ro) (o : Out), whileF ft fb n ρ = some o → whileF ft fb (n + k) ρ = some o
  | 0, k, ρ, o, h => by cases h
  | n + 1, k, ρ, o, h => by
    rw [show n + 1 + k = (n + k) + 1 by omega]
    unfold whileF at h ⊢
    obtain ⟨b, e1, h1⟩ := Option.bind_eq_some_iff.mp h
    rw [e1, Option.bind_some]
    cases b with
    | true =>
      rw [if_pos rfl] at h1 ⊢
      obtain ⟨o1, e2, h2⟩ := Option.bind_eq_some_iff.mp h1
      rw [e2, Option.bind_some]
      cases o1 with
      | nx ρ2 => exact whileF_more n k ρ2 o h2
      | ct ρ2 => exact whileF_more n k ρ2 o h2
      | bk ρ2 => exact h2
      | rt d => exact h2
    | false =>
      rw [if_neg Bool.false_ne_true] at h1 ⊢
      exact h1
def isB (b : Bool) : Option D → Bool
  | some (.bool c) => c == b
  | _ => false
theorem isB_eq {b : Bool} {o : Option D} (h : isB b o = true) : o = some (.bool b) := by
  unfold isB at h
  split at h
  · rw [beq_iff_eq] at h; rw [h]
  · cases h
def bothSame (a b : Option D) : Bool := match a, b with
  | some x, some y => same x y
  | _, _ => false
theorem bothSame_eq {a b : Option D} (h : bothSame a b = true) : ∃ x, a = some x ∧ b = some x := by
  unfold bothSame at h
  split at h
  · exact ⟨_, rfl, by rw [same_eq _ _ h]⟩
  · cases h
end FL
namespace FL
theorem fSeq_nx {g h : Ro → Option Out} {ρ ρ' : Ro} (e : g ρ = some (.nx ρ')) : fSeq g h ρ = h ρ' := by
  unfold fSeq
  rw [e]
  rfl
theorem fSeq_rt {g h : Ro → Option Out} {ρ : Ro} {d : D} (e : g ρ = some (.rt d)) : fSeq g h ρ = some (.rt d) := by
  unfold fSeq
  rw [e]
  rfl
theorem runF_of {N : List PySem.Str} {k : Nat} {f : Ro → Option Out} {ds : List D} {d : D} (hl : ds.length = k) (e : f (startR N ds) = some (.rt d)) : runF N k f ds = some d := by
  unfold runF
  rw [if_pos hl, e]
  rfl
theorem fFrz_ow {i : Nat} {g : Ro → Option Out} {ρ : Ro} {ds : List D} (e : ρ[i]? = some (.ow ds)) : fFrz i g ρ = g (ρ.set i (.fz (.list ds))) := by
  unfold fFrz
  rw [e]
end FL
namespace FL
theorem seqR_nat (m : Nat) (h : m ≤ 1000000) : seqR [.int (m : Int)] = some (rngN (m : Int)) := by
  show (if -1000000 ≤ (m : Int) ∧ (m : Int) ≤ 1000000 then some (rngN (m : Int)) else none) = _
  exact if_pos ⟨by omega, by omega⟩
theorem fRng_of {fl : Ro → Option (List D)} {ρ : Ro} {m : Nat} (e : fl ρ = some [.int (m : Int)]) (h : m ≤ 1000000) : fRng fl ρ = some (rngN (m : Int)) := by
  unfold fRng
  rw [e, Option.bind_some, seqR_nat m h]
end FL
set_option maxHeartbeats 4000000
namespace K01
open PySem PySem.Spec PyProof.Rows L2 FL
def top (i : Nat) : Stmt := PySem.Challenge.pw_everytarget_k01_values_and_depths.main.body.getD i (.Pass ⟨0, 0, 0, 0⟩)
abbrev s_is_name : Stmt := top 5
def N_is_name : List Str := ["value"]
theorem sc_is_name : FnScope N_is_name ["value"] (defScope s_is_name) := ⟨rfl, rfl, rfl, by decide +kernel, rfl, by decide +kernel, by decide +kernel⟩
abbrev s_is_variable : Stmt := top 6
def N_is_variable : List Str := ["value"]
theorem sc_is_variable : FnScope N_is_variable ["value"] (defScope s_is_variable) := ⟨rfl, rfl, rfl, by decide +kernel, rfl, by decide +kernel, by decide +kernel⟩
abbrev s_is_constant : Stmt := top 7
def N_is_constant : List Str := ["value"]
theorem sc_is_constant : FnScope N_is_constant ["value"] (defScope s_is_constant) := ⟨rfl, rfl, rfl, by decide +kernel, rfl, by decide +kernel, by decide +kernel⟩
abbrev s_is_free : Stmt := top 8
def N_is_free : List Str := ["value"]
theorem sc_is_free : FnScope N_is_free ["value"] (defScope s_is_free) := ⟨rfl, rfl, rfl, by decide +kernel, rfl, by decide +kernel, by decide +kernel⟩
abbrev s_is_rule_number : Stmt := top 9
def N_is_rule_number : List Str := ["text"]
theorem sc_is_rule_number : FnScope N_is_rule_number ["text"] (defScope s_is_rule_number) := ⟨rfl, rfl, rfl, by decide +kernel, rfl, by decide +kernel, by decide +kernel⟩
abbrev s_is_label : Stmt := top 10
def N_is_label : List Str := ["value", "number", "_", "variable"]
theorem sc_is_label : FnScope N_is_label ["value"] (defScope s_is_label) := ⟨rfl, rfl, rfl, by decide +kernel, rfl, by decide +kernel, by decide +kernel⟩
abbrev s_is_made_but_for_values : Stmt := top 11
def N_is_made_but_for_values : List Str := ["value"]
theorem sc_is_made_but_for_values : FnScope N_is_made_but_for_values ["value"] (defScope s_is_made_but_for_values) := ⟨rfl, rfl, rfl, by decide +kernel, rfl, by decide +kernel, by decide +kernel⟩
abbrev s_is_value : Stmt := top 12
def N_is_value : List Str := ["value", "waiting", "part"]
theorem sc_is_value : FnScope N_is_value ["value"] (defScope s_is_value) := ⟨rfl, rfl, rfl, by decide +kernel, rfl, by decide +kernel, by decide +kernel⟩
abbrev s_made_ones : Stmt := top 13
def N_made_ones : List Str := ["values", "value"]
theorem sc_made_ones : FnScope N_made_ones ["values"] (defScope s_made_ones) := ⟨rfl, rfl, rfl, by decide +kernel, rfl, by decide +kernel, by decide +kernel⟩
abbrev s_depth : Stmt := top 14
def N_depth : List Str := ["value", "many", "unknowns", "unknown", "part"]
theorem sc_depth : FnScope N_depth ["value"] (defScope s_depth) := ⟨rfl, rfl, rfl, by decide +kernel, rfl, by decide +kernel, by decide +kernel⟩
abbrev s_value_key : Stmt := top 15
def N_value_key : List Str := ["value"]
theorem sc_value_key : FnScope N_value_key ["value"] (defScope s_value_key) := ⟨rfl, rfl, rfl, by decide +kernel, rfl, by decide +kernel, by decide +kernel⟩
abbrev s_made : Stmt := top 16
def N_made : List Str := ["rule", "variable", "values"]
theorem sc_made : FnScope N_made ["rule", "variable", "values"] (defScope s_made) := ⟨rfl, rfl, rfl, by decide +kernel, rfl, by decide +kernel, by decide +kernel⟩
abbrev s_d_law_cell : Stmt := top 18
def N_d_law_cell : List Str := ["script", "k"]
theorem sc_d_law_cell : FnScope N_d_law_cell ["script", "k"] (defScope s_d_law_cell) := ⟨rfl, rfl, rfl, by decide +kernel, rfl, by decide +kernel, by decide +kernel⟩
abbrev s_d_law_digits : Stmt := top 19
def N_d_law_digits : List Str := ["cell", "bases", "digits", "rest", "base", "mixed"]
theorem sc_d_law_digits : FnScope N_d_law_digits ["cell", "bases"] (defScope s_d_law_digits) := ⟨rfl, rfl, rfl, by decide +kernel, rfl, by decide +kernel, by decide +kernel⟩
abbrev s_d_law_value : Stmt := top 20
def N_d_law_value : List Str := ["cell", "most", "digits", "value", "k", "label", "inner"]
theorem sc_d_law_value : FnScope N_d_law_value ["cell", "most"] (defScope s_d_law_value) := ⟨rfl, rfl, rfl, by decide +kernel, rfl, by decide +kernel, by decide +kernel⟩
abbrev s_d_law_depth : Stmt := top 21
def N_d_law_depth : List Str := ["value", "inner"]
theorem sc_d_law_depth : FnScope N_d_law_depth ["value"] (defScope s_d_law_depth) := ⟨rfl, rfl, rfl, by decide +kernel, rfl, by decide +kernel, by decide +kernel⟩
abbrev s_d_law_spoiled : Stmt := top 22
def N_d_law_spoiled : List Str := ["value", "digit", "bad"]
theorem sc_d_law_spoiled : FnScope N_d_law_spoiled ["value", "digit"] (defScope s_d_law_spoiled) := ⟨rfl, rfl, rfl, by decide +kernel, rfl, by decide +kernel, by decide +kernel⟩
abbrev s_d_law_key : Stmt := top 23
def N_d_law_key : List Str := ["value"]
theorem sc_d_law_key : FnScope N_d_law_key ["value"] (defScope s_d_law_key) := ⟨rfl, rfl, rfl, by decide +kernel, rfl, by decide +kernel, by decide +kernel⟩
abbrev s_d_law_other : Stmt := top 24
def N_d_law_other : List Str := ["told", "due"]
theorem sc_d_law_other : FnScope N_d_law_other ["told", "due"] (defScope s_d_law_other) := ⟨rfl, rfl, rfl, by decide +kernel, rfl, by decide +kernel, by decide +kernel⟩
abbrev s_law : Stmt := top 25
def N_law : List Str := ["script", "values", "k", "value", "plain", "spoiled", "other"]
theorem sc_law : FnScope N_law ["script"] (defScope s_law) := ⟨rfl, rfl, rfl, by decide +kernel, rfl, by decide +kernel, by decide +kernel⟩
end K01
set_option maxHeartbeats 4000000
namespace K01
open PySem PySem.Spec PyProof.Rows L2 FL
abbrev fuel : Nat := 100000
def f_is_name_0 (n : Nat) : Ro → Option Out :=
  (fIfS (fOr (fNot (fB (fIsi "str" (fVar 0)))) (fNot (fCh (gIB fun i j => decide (i ≤ j)) (gIB fun i j => decide (i ≤ j)) (fun _ => some (.int 1)) (fCall gLen (fCons (fVar 0) (fun _ => some []))) (fun _ => some (.int 8))))) (fRet (fun _ => some (.bool false))) fNext)
def f_is_name_1 (n : Nat) : Ro → Option Out :=
  (fRet (fAllG (fun c => decide (c ∈ (Str.ofString "abcdefghijklmnopqrstuvwxyz0123456789").cps.toList)) (fVar 0)))
def f_is_name (n : Nat) : Ro → Option Out :=
  (fSeq (f_is_name_0 n)
    (f_is_name_1 n))
def g_is_name : List D → Option D := runF N_is_name 1 (f_is_name fuel)
def f_is_variable (n : Nat) : Ro → Option Out :=
  (fRet (fAndV (fCall g_is_name (fCons (fVar 0) (fun _ => some []))) (fOp gInS (fOp gIx (fVar 0) (fun _ => some (.int 0))) (fun _ => some (.str "abcdefghijklmnopqrstuvwxyz")))))
def g_is_variable : List D → Option D := runF N_is_variable 1 (f_is_variable fuel)
def f_is_constant (n : Nat) : Ro → Option Out :=
  (fRet (fAndV (fIsi "tuple" (fVar 0)) (fAndV (fOp gEq (fCall gLen (fCons (fVar 0) (fun _ => some []))) (fun _ => some (.int 1))) (fCall g_is_name (fCons (fOp gIx (fVar 0) (fun _ => some (.int 0))) (fun _ => some []))))))
def g_is_constant : List D → Option D := runF N_is_constant 1 (f_is_constant fuel)
def f_is_free_0 (n : Nat) : Ro → Option Out :=
  (fIfS (fOr (fNot (fB (fIsi "tuple" (fVar 0)))) (fOr (fB (fOp gNe (fCall gLen (fCons (fVar 0) (fun _ => some []))) (fun _ => some (.int 1)))) (fNot (fB (fIsi "str" (fOp gIx (fVar 0) (fun _ => some (.int 0)))))))) (fRet (fun _ => some (.bool false))) fNext)
def f_is_free_1 (n : Nat) : Ro → Option Out :=
  (fRet (fAndV (fMt1 gStarts (fOp gIx (fVar 0) (fun _ => some (.int 0))) (fun _ => some (.str "?"))) (fCall g_is_name (fCons (fSlS (fOp gIx (fVar 0) (fun _ => some (.int 0))) (fPt (fun _ => some (.int 1))) fNo) (fun _ => some [])))))
def f_is_free (n : Nat) : Ro → Option Out :=
  (fSeq (f_is_free_0 n)
    (f_is_free_1 n))
def g_is_free : List D → Option D := runF N_is_free 1 (f_is_free fuel)
def f_is_rule_number_0 (n : Nat) : Ro → Option Out :=
  (fIfS (fOr (fB (fOp gEq (fVar 0) (fun _ => some (.str "")))) (fNot (fB (fAllG (fun c => decide (c ∈ (Str.ofString "0123456789").cps.toList)) (fVar 0))))) (fRet (fun _ => some (.bool false))) fNext)
def f_is_rule_number_1 (n : Nat) : Ro → Option Out :=
  (fRet (fOrV (fOp gEq (fVar 0) (fun _ => some (.str "0"))) (fOp gNe (fOp gIx (fVar 0) (fun _ => some (.int 0))) (fun _ => some (.str "0")))))
def f_is_rule_number (n : Nat) : Ro → Option Out :=
  (fSeq (f_is_rule_number_0 n)
    (f_is_rule_number_1 n))
def g_is_rule_number : List D → Option D := runF N_is_rule_number 1 (f_is_rule_number fuel)
def f_is_label_0 (n : Nat) : Ro → Option Out :=
  (fIfS (fNot (fB (fIsi "str" (fVar 0)))) (fRet (fun _ => some (.bool false))) fNext)
def f_is_label_1 (n : Nat) : Ro → Option Out :=
  (fAsg (gT 3 (gsC (gN 1) (gsC (gN 2) (gsC (gN 3) gsN)))) (fMt1 gPart (fVar 0) (fun _ => some (.str "."))))
def f_is_label_2 (n : Nat) : Ro → Option Out :=
  (fRet (fAndV (fCall g_is_rule_number (fCons (fVar 1) (fun _ => some []))) (fCall g_is_variable (fCons (fVar 3) (fun _ => some [])))))
def f_is_label (n : Nat) : Ro → Option Out :=
  (fSeq (f_is_label_0 n)
    (fSeq (f_is_label_1 n)
    (f_is_label_2 n)))
def g_is_label : List D → Option D := runF N_is_label 1 (f_is_label fuel)
def f_is_made_but_for_values_0 (n : Nat) : Ro → Option Out :=
  (fIfS (fOr (fNot (fB (fIsi "tuple" (fVar 0)))) (fB (fOp gNe (fCall gLen (fCons (fVar 0) (fun _ => some []))) (fun _ => some (.int 2))))) (fRet (fun _ => some (.bool false))) fNext)
def f_is_made_but_for_values_1 (n : Nat) : Ro → Option Out :=
  (fRet (fAndV (fCall g_is_label (fCons (fOp gIx (fVar 0) (fun _ => some (.int 0))) (fun _ => some []))) (fIsi "tuple" (fOp gIx (fVar 0) (fun _ => some (.int 1))))))
def f_is_made_but_for_values (n : Nat) : Ro → Option Out :=
  (fSeq (f_is_made_but_for_values_0 n)
    (f_is_made_but_for_values_1 n))
def g_is_made_but_for_values : List D → Option D := runF N_is_made_but_for_values 1 (f_is_made_but_for_values fuel)
def f_is_value_0 (n : Nat) : Ro → Option Out :=
  (fSetO 1 (fLst (fCons (fVar 0) (fun _ => some []))))
def f_is_value_body1 (n : Nat) : Ro → Option Out :=
  (fSeq (fPop 1 2)
    (fIfS (fB (fCall g_is_made_but_for_values (fCons (fVar 2) (fun _ => some [])))) (fExt 1 (fOp gIx (fVar 2) (fun _ => some (.int 1)))) (fIfS (fAnd (fNot (fB (fCall g_is_constant (fCons (fVar 2) (fun _ => some []))))) (fNot (fB (fCall g_is_free (fCons (fVar 2) (fun _ => some [])))))) (fRet (fun _ => some (.bool false))) fNext)))
def f_is_value_1 (n : Nat) : Ro → Option Out :=
  (whileF (fTruO 1) (f_is_value_body1 n) n)
def f_is_value_2 (n : Nat) : Ro → Option Out :=
  (fRet (fun _ => some (.bool true)))
def f_is_value (n : Nat) : Ro → Option Out :=
  (fSeq (f_is_value_0 n)
    (fSeq (f_is_value_1 n)
    (f_is_value_2 n)))
def g_is_value : List D → Option D := runF N_is_value 1 (f_is_value fuel)
def f_made_ones (n : Nat) : Ro → Option Out :=
  (fRet (fL (fLc [1] (fSq seqL (fVar 0)) (gN 1) (fB (fOp gEq (fCall gLen (fCons (fVar 1) (fun _ => some []))) (fun _ => some (.int 2)))) (fVar 1))))
def g_made_ones : List D → Option D := runF N_made_ones 1 (f_made_ones fuel)
def f_depth_0 (n : Nat) : Ro → Option Out :=
  (fSet 1 (fun _ => some (.int 0)))
def f_depth_1 (n : Nat) : Ro → Option Out :=
  (fSet 2 (fCall g_made_ones (fCons (fL (fLst (fCons (fVar 0) (fun _ => some [])))) (fun _ => some []))))
def f_depth_body1 (n : Nat) : Ro → Option Out :=
  (fSeq (fAug 1 (fun i j => i + j) (fun _ => some (.int 1)))
    (fSet 2 (fCall g_made_ones (fCons (fL (fLc2 [3, 4] [4] (fSq seqL (fVar 2)) (gN 3) fYes (fSq seqT (fOp gIx (fVar 3) (fun _ => some (.int 1)))) (gN 4) fYes (fVar 4))) (fun _ => some [])))))
def f_depth_2 (n : Nat) : Ro → Option Out :=
  (whileF (fTruO 2) (f_depth_body1 n) n)
def f_depth_3 (n : Nat) : Ro → Option Out :=
  (fRet (fVar 1))
def f_depth (n : Nat) : Ro → Option Out :=
  (fSeq (f_depth_0 n)
    (fSeq (f_depth_1 n)
    (fSeq (f_depth_2 n)
    (f_depth_3 n))))
def g_depth : List D → Option D := runF N_depth 1 (f_depth fuel)
def f_value_key (n : Nat) : Ro → Option Out :=
  (fRet (fTup (fCons (fCall g_depth (fCons (fVar 0) (fun _ => some []))) (fCons (fIf (fB (fCall g_is_constant (fCons (fVar 0) (fun _ => some [])))) (fun _ => some (.int 0)) (fun _ => some (.int 1))) (fCons (fVar 0) (fun _ => some []))))))
def g_value_key : List D → Option D := runF N_value_key 1 (f_value_key fuel)
def f_made (n : Nat) : Ro → Option Out :=
  (fRet (fTup (fCons (fun ρ => ((jCons (fun ρ => ((fVar 0) ρ).bind gFmt) (jCons (fun _ => some (.str ".")) (jCons (fun ρ => ((fVar 1) ρ).bind gFmt) jNil))) Str.empty ρ).map .str) (fCons (fCall gTupOf (fCons (fVar 2) (fun _ => some []))) (fun _ => some [])))))
def g_made : List D → Option D := runF N_made 3 (f_made fuel)
def f_d_law_cell_0 (n : Nat) : Ro → Option Out :=
  (fIfS (fB (fOp (gIB fun i j => decide (i < j)) (fVar 1) (fCall gLen (fCons (fVar 0) (fun _ => some []))))) (fRet (fCall gInt (fCons (fOp gIx (fVar 0) (fVar 1)) (fun _ => some [])))) fNext)
def f_d_law_cell_1 (n : Nat) : Ro → Option Out :=
  (fRet (fun _ => some (.int 0)))
def f_d_law_cell (n : Nat) : Ro → Option Out :=
  (fSeq (f_d_law_cell_0 n)
    (f_d_law_cell_1 n))
def g_d_law_cell : List D → Option D := runF N_d_law_cell 2 (f_d_law_cell fuel)
def f_d_law_digits_0 (n : Nat) : Ro → Option Out :=
  (fSetO 2 (fLst (fun _ => some [])))
def f_d_law_digits_1 (n : Nat) : Ro → Option Out :=
  (fSet 3 (fCall gInt (fCons (fVar 0) (fun _ => some []))))
def f_d_law_digits_body1 (n : Nat) : Ro → Option Out :=
  (fIfS (fB (fOp (gIB fun i j => decide (j ≤ i)) (fVar 0) (fOp gPow (fun _ => some (.int 10)) (fun _ => some (.int 18))))) (fSeq (fApp 2 (fOp gMod (fCall gInt (fCons (fVar 3) (fun _ => some []))) (fVar 4)))
    (fSet 3 (fOp gDiv (fVar 3) (fVar 4)))) (fSeq (fSet 3 (fOp gMod (fOp gAdd (fOp gAdd (fOp gMul (fCall gInt (fCons (fVar 3) (fun _ => some []))) (fun _ => some (.int 48271))) (fOp gMul (fun _ => some (.int 1009)) (fLenO 2))) (fun _ => some (.int 12345))) (fun _ => some (.int 2147483647))))
    (fSeq (fSet 5 (fOp gMod (fOp gMul (fCall gInt (fCons (fVar 3) (fun _ => some []))) (fCall gInt (fCons (fVar 3) (fun _ => some [])))) (fun _ => some (.int 2147483629))))
    (fApp 2 (fOp gMod (fOp gDiv (fCall gInt (fCons (fVar 5) (fun _ => some []))) (fun _ => some (.int 13))) (fVar 4))))))
def f_d_law_digits_2 (n : Nat) : Ro → Option Out :=
  (fFor (fSq seqL (fVar 1)) (gN 4) (f_d_law_digits_body1 n))
def f_d_law_digits_3 (n : Nat) : Ro → Option Out :=
  (fRet (fVar 2))
def f_d_law_digits (n : Nat) : Ro → Option Out :=
  (fSeq (f_d_law_digits_0 n)
    (fSeq (f_d_law_digits_1 n)
    (fSeq (f_d_law_digits_2 n)
    (fFrz 2 (f_d_law_digits_3 n)))))
def g_d_law_digits : List D → Option D := runF N_d_law_digits 2 (f_d_law_digits fuel)
def f_d_law_value_0 (n : Nat) : Ro → Option Out :=
  (fSet 2 (fCall g_d_law_digits (fCons (fVar 0) (fCons (fL (fLst (fCons (fun _ => some (.int 6)) (fCons (fun _ => some (.int 4)) (fCons (fun _ => some (.int 4)) (fCons (fun _ => some (.int 3)) (fCons (fun _ => some (.int 7)) (fCons (fun _ => some (.int 3)) (fun _ => some []))))))))) (fun _ => some [])))))
def f_d_law_value_1 (n : Nat) : Ro → Option Out :=
  (fSet 3 (fOp gIx (fL (fLst (fCons (fTup (fCons (fun _ => some (.str "a")) (fun _ => some []))) (fCons (fTup (fCons (fun _ => some (.str "b7")) (fun _ => some []))) (fCons (fTup (fCons (fun _ => some (.str "?x")) (fun _ => some []))) (fCons (fTup (fCons (fun _ => some (.str "?a")) (fun _ => some []))) (fCons (fTup (fCons (fun _ => some (.str "abcd0123")) (fun _ => some []))) (fCons (fTup (fCons (fun _ => some (.str "0")) (fun _ => some []))) (fun _ => some []))))))))) (fOp gIx (fVar 2) (fun _ => some (.int 0)))))
def f_d_law_value_body1 (n : Nat) : Ro → Option Out :=
  (fIfS (fB (fOp (gIB fun i j => decide (j < i)) (fOp gIx (fVar 2) (fun _ => some (.int 1))) (fVar 4))) (fSeq (fSet 5 (fOp gIx (fL (fLst (fCons (fun _ => some (.str "0.z")) (fCons (fun _ => some (.str "1.z")) (fCons (fun _ => some (.str "0.w")) (fCons (fun _ => some (.str "12.q9")) (fun _ => some []))))))) (fOp gIx (fVar 2) (fun _ => some (.int 2)))))
    (fSeq (fSet 6 (fL (fSlL (fL (fLst (fCons (fVar 3) (fCons (fTup (fCons (fun _ => some (.str "c")) (fun _ => some []))) (fCons (fVar 3) (fun _ => some [])))))) fNo (fPt (fOp gIx (fVar 2) (fun _ => some (.int 3)))))))
    (fSeq (fIfS (fB (fOp gEq (fOp gIx (fVar 2) (fun _ => some (.int 5))) (fun _ => some (.int 0)))) (fSet 6 (fL (fRevL (fVar 6)))) fNext)
    (fSet 3 (fTup (fCons (fVar 5) (fCons (fCall gTupOf (fCons (fVar 6) (fun _ => some []))) (fun _ => some [])))))))) fNext)
def f_d_law_value_2 (n : Nat) : Ro → Option Out :=
  (fFor (fRng (fCons (fVar 1) (fun _ => some []))) (gN 4) (f_d_law_value_body1 n))
def f_d_law_value_3 (n : Nat) : Ro → Option Out :=
  (fRet (fVar 3))
def f_d_law_value (n : Nat) : Ro → Option Out :=
  (fSeq (f_d_law_value_0 n)
    (fSeq (f_d_law_value_1 n)
    (fSeq (f_d_law_value_2 n)
    (f_d_law_value_3 n))))
def g_d_law_value : List D → Option D := runF N_d_law_value 2 (f_d_law_value fuel)
def f_d_law_depth_0 (gj : List D → Option D) (n : Nat) : Ro → Option Out :=
  (fIfS (fB (fOp gEq (fCall gLen (fCons (fVar 0) (fun _ => some []))) (fun _ => some (.int 1)))) (fRet (fun _ => some (.int 0))) fNext)
def f_d_law_depth_1 (gj : List D → Option D) (n : Nat) : Ro → Option Out :=
  (fRet (fOp gAdd (fun _ => some (.int 1)) (fCall gMaxL (fCons (fL (fCatL (fL (fLst (fCons (fun _ => some (.int 0)) (fun _ => some [])))) (fL (fLc [1] (fSq seqT (fOp gIx (fVar 0) (fun _ => some (.int 1)))) (gN 1) fYes (fCall gj (fCons (fVar 1) (fun _ => some []))))))) (fun _ => some [])))))
def f_d_law_depth (gj : List D → Option D) (n : Nat) : Ro → Option Out :=
  (fSeq (f_d_law_depth_0 gj n)
    (f_d_law_depth_1 gj n))
def g_d_law_depth_at : Nat → List D → Option D
  | 0 => fun _ => none
  | j + 1 => runF N_d_law_depth 1 (f_d_law_depth (g_d_law_depth_at j) fuel)
abbrev g_d_law_depth : List D → Option D := g_d_law_depth_at 8
def f_d_law_spoiled_0 (n : Nat) : Ro → Option Out :=
  (fSet 2 (fL (fLst (fCons (fTup (fCons (fun _ => some (.str "")) (fun _ => some []))) (fCons (fTup (fCons (fun _ => some (.str "abcdefghi")) (fun _ => some []))) (fCons (fTup (fCons (fun _ => some (.str "A")) (fun _ => some []))) (fCons (fTup (fCons (fun _ => some (.str "?")) (fun _ => some []))) (fCons (fTup (fCons (fun _ => some (.str "?A")) (fun _ => some []))) (fCons (fTup (fCons (fun _ => some (.str "a b")) (fun _ => some []))) (fCons (fTup (fCons (fun _ => some (.str "a")) (fCons (fun _ => some (.str "b")) (fun _ => some [])))) (fCons (fTup (fun _ => some [])) (fCons (fL (fLst (fCons (fun _ => some (.str "a")) (fun _ => some [])))) (fCons (fun _ => some (.str "a")) (fCons (fun _ => some (.int 5)) (fCons (fun _ => some .none) (fCons (fTup (fCons (fun _ => some (.int 5)) (fun _ => some []))) (fCons (fTup (fCons (fun _ => some (.str "0z")) (fCons (fTup (fun _ => some [])) (fun _ => some [])))) (fCons (fTup (fCons (fun _ => some (.str "00.z")) (fCons (fTup (fun _ => some [])) (fun _ => some [])))) (fCons (fTup (fCons (fun _ => some (.str "0.")) (fCons (fTup (fun _ => some [])) (fun _ => some [])))) (fCons (fTup (fCons (fun _ => some (.str ".z")) (fCons (fTup (fun _ => some [])) (fun _ => some [])))) (fCons (fTup (fCons (fun _ => some (.str "0.z")) (fCons (fL (fLst (fun _ => some []))) (fun _ => some [])))) (fCons (fTup (fCons (fun _ => some (.str "0.z")) (fCons (fTup (fun _ => some [])) (fCons (fTup (fun _ => some [])) (fun _ => some []))))) (fCons (fTup (fCons (fun _ => some (.str "0.Z")) (fCons (fTup (fun _ => some [])) (fun _ => some [])))) (fCons (fTup (fCons (fun _ => some (.str "0.9")) (fCons (fTup (fun _ => some [])) (fun _ => some [])))) (fCons (fTup (fCons (fun _ => some (.str "0.z.z")) (fCons (fTup (fun _ => some [])) (fun _ => some [])))) (fCons (fTup (fCons (fTup (fCons (fun _ => some (.str "a")) (fun _ => some []))) (fun _ => some []))) (fCons (fTup (fCons (fun _ => some (.str "x.z")) (fCons (fTup (fun _ => some [])) (fun _ => some [])))) (fCons (fTup (fCons (fun _ => some (.str "0.z")) (fCons (fTup (fCons (fun _ => some (.str "a")) (fun _ => some []))) (fun _ => some [])))) (fCons (fTup (fCons (fun _ => some (.str "?abcdefghi")) (fun _ => some []))) (fun _ => some []))))))))))))))))))))))))))))))
def f_d_law_spoiled_1 (n : Nat) : Ro → Option Out :=
  (fIfS (fB (fOp gEq (fOp gMod (fVar 1) (fun _ => some (.int 2))) (fun _ => some (.int 0)))) (fRet (fOp gIx (fVar 2) (fOp gMod (fOp gDiv (fVar 1) (fun _ => some (.int 2))) (fCall gLen (fCons (fVar 2) (fun _ => some [])))))) fNext)
def f_d_law_spoiled_2 (n : Nat) : Ro → Option Out :=
  (fRet (fTup (fCons (fun _ => some (.str "0.z")) (fCons (fTup (fCons (fTup (fCons (fun _ => some (.str "b")) (fun _ => some []))) (fCons (fOp gIx (fVar 2) (fOp gMod (fOp gDiv (fVar 1) (fun _ => some (.int 2))) (fCall gLen (fCons (fVar 2) (fun _ => some []))))) (fCons (fVar 0) (fun _ => some []))))) (fun _ => some [])))))
def f_d_law_spoiled (n : Nat) : Ro → Option Out :=
  (fSeq (f_d_law_spoiled_0 n)
    (fSeq (f_d_law_spoiled_1 n)
    (f_d_law_spoiled_2 n)))
def g_d_law_spoiled : List D → Option D := runF N_d_law_spoiled 2 (f_d_law_spoiled fuel)
def f_d_law_key (n : Nat) : Ro → Option Out :=
  (fRet (fTup (fCons (fCall g_d_law_depth (fCons (fVar 0) (fun _ => some []))) (fCons (fOp gIx (fL (fLst (fCons (fun _ => some (.int 1)) (fCons (fun _ => some (.int 0)) (fun _ => some []))))) (fCall gInt (fCons (fAndV (fOp gEq (fCall gLen (fCons (fVar 0) (fun _ => some []))) (fun _ => some (.int 1))) (fOp gNe (fOp gIx (fOp gIx (fVar 0) (fun _ => some (.int 0))) (fun _ => some (.int 0))) (fun _ => some (.str "?")))) (fun _ => some [])))) (fCons (fVar 0) (fun _ => some []))))))
def g_d_law_key : List D → Option D := runF N_d_law_key 1 (f_d_law_key fuel)
def f_d_law_other (n : Nat) : Ro → Option Out :=
  (fRet (fOrV (fNotV (fIsi "bool" (fVar 0))) (fOp gNe (fVar 0) (fVar 1))))
def g_d_law_other : List D → Option D := runF N_d_law_other 2 (f_d_law_other fuel)
def f_law_0 (n : Nat) : Ro → Option Out :=
  (fSetO 1 (fLc [2] (fRng (fCons (fOp gAdd (fun _ => some (.int 1)) (fCall gMin2 (fCons (fCall gLen (fCons (fVar 0) (fun _ => some []))) (fCons (fun _ => some (.int 10)) (fun _ => some []))))) (fun _ => some []))) (gN 2) fYes (fCall g_d_law_value (fCons (fOp gAdd (fCall g_d_law_cell (fCons (fVar 0) (fCons (fVar 2) (fun _ => some [])))) (fVar 2)) (fCons (fun _ => some (.int 4)) (fun _ => some []))))))
def f_law_body1 (n : Nat) : Ro → Option Out :=
  (fSeq (fIfS (fB (fOp gNe (fOp gLt (fCall g_value_key (fCons (fVar 3) (fun _ => some []))) (fCall g_value_key (fCons (fVar 6) (fun _ => some [])))) (fOp gLt (fCall g_d_law_key (fCons (fVar 3) (fun _ => some []))) (fCall g_d_law_key (fCons (fVar 6) (fun _ => some [])))))) (fRet (fun _ => some (.bool false))) fNext)
    (fIfS (fB (fOp gNe (fOp gEq (fCall g_value_key (fCons (fVar 3) (fun _ => some []))) (fCall g_value_key (fCons (fVar 6) (fun _ => some [])))) (fOp gEq (fVar 3) (fVar 6)))) (fRet (fun _ => some (.bool false))) fNext))
def f_law_body2 (n : Nat) : Ro → Option Out :=
  (fSeq (fSet 3 (fOp gIx (fVar 1) (fVar 2)))
    (fSeq (fIfS (fOr (fB (fOp gIsNot (fCall g_is_value (fCons (fVar 3) (fun _ => some []))) (fun _ => some (.bool true)))) (fB (fOp gNe (fCall g_depth (fCons (fVar 3) (fun _ => some []))) (fCall g_d_law_depth (fCons (fVar 3) (fun _ => some [])))))) (fRet (fun _ => some (.bool false))) fNext)
    (fSeq (fSet 4 (fAndV (fOp gEq (fCall gLen (fCons (fVar 3) (fun _ => some []))) (fun _ => some (.int 1))) (fOp gNe (fOp gIx (fOp gIx (fVar 3) (fun _ => some (.int 0))) (fun _ => some (.int 0))) (fun _ => some (.str "?")))))
    (fSeq (fIfS (fB (fCall g_d_law_other (fCons (fCall g_is_constant (fCons (fVar 3) (fun _ => some []))) (fCons (fVar 4) (fun _ => some []))))) (fRet (fun _ => some (.bool false))) fNext)
    (fSeq (fSet 5 (fCall g_d_law_spoiled (fCons (fVar 3) (fCons (fOp gAdd (fCall gInt (fCons (fCall g_d_law_cell (fCons (fVar 0) (fCons (fVar 2) (fun _ => some [])))) (fun _ => some []))) (fOp gMul (fun _ => some (.int 3)) (fVar 2))) (fun _ => some [])))))
    (fSeq (fIfS (fOr (fB (fOp gIsNot (fCall g_is_value (fCons (fVar 5) (fun _ => some []))) (fun _ => some (.bool false)))) (fB (fOp gIsNot (fCall g_is_constant (fCons (fVar 5) (fun _ => some []))) (fun _ => some (.bool false))))) (fRet (fun _ => some (.bool false))) fNext)
    (fFor (fSq seqL (fVar 1)) (gN 6) (f_law_body1 n))))))))
def f_law_1 (n : Nat) : Ro → Option Out :=
  (fFor (fRng (fCons (fCall gLen (fCons (fVar 1) (fun _ => some []))) (fun _ => some []))) (gN 2) (f_law_body2 n))
def f_law_2 (n : Nat) : Ro → Option Out :=
  (fRet (fAndV (fOp gEq (fCall g_made (fCons (fun _ => some (.int 12)) (fCons (fun _ => some (.str "z")) (fCons (fL (fLst (fCons (fTup (fCons (fun _ => some (.str "a")) (fun _ => some []))) (fun _ => some [])))) (fun _ => some []))))) (fTup (fCons (fun _ => some (.str "12.z")) (fCons (fTup (fCons (fTup (fCons (fun _ => some (.str "a")) (fun _ => some []))) (fun _ => some []))) (fun _ => some []))))) (fOp gEq (fCall g_depth (fCons (fTup (fCons (fun _ => some (.str "0.z")) (fCons (fTup (fun _ => some [])) (fun _ => some [])))) (fun _ => some []))) (fun _ => some (.int 1)))))
def f_law (n : Nat) : Ro → Option Out :=
  (fSeq (f_law_0 n)
    (fFrz 1 (fSeq (f_law_1 n)
    (f_law_2 n))))
def g_law : List D → Option D := runF N_law 1 (f_law fuel)
end K01
set_option maxHeartbeats 4000000
namespace K01
open PySem PySem.Spec PyProof.Rows L2 FL
structure Txt (mg : Str → Option Value) (t_DIGITS : Tok) (t_LETTERS : Tok) (t_LONGEST_NAME : Tok) (t_SIGNS : Tok) : Prop where
  all : mg "all" = none
  bool : mg "bool" = none
  int : mg "int" = none
  isinstance : mg "isinstance" = none
  len : mg "len" = none
  max : mg "max" = none
  min : mg "min" = none
  range : mg "range" = none
  str : mg "str" = none
  tuple : mg "tuple" = none
  c_DIGITS : mg "DIGITS" = some (.str "0123456789" t_DIGITS)
  c_LETTERS : mg "LETTERS" = some (.str "abcdefghijklmnopqrstuvwxyz" t_LETTERS)
  c_LONGEST_NAME : mg "LONGEST_NAME" = some (.int 8 t_LONGEST_NAME)
  c_SIGNS : mg "SIGNS" = some (.str "abcdefghijklmnopqrstuvwxyz0123456789" t_SIGNS)
structure Cal (P : Program) (w : World) (K : PySem.W.Frag) (mg : Str → Option Value) (base : Heap) (Ps : List Addr) (x : Str) (ps : List Str) (k n : Nat) (g : List D → Option D) : Prop where
  ex : ∃ fa fd, FnOk P w K mg base CX0 k fa fd ps (spD K Ps n g) ∧ mg x = some (.ref fa) ∧ PySem.W.keepIn K (.ref fa) = true ∧ Binds K fd ps []
section
variable {P : Program} {w : World} {K : PySem.W.Frag} {mg : Str → Option Value} {base : Heap} {Ps : List Addr} {t_DIGITS : Tok} {t_LETTERS : Tok} {t_LONGEST_NAME : Tok} {t_SIGNS : Tok} 
theorem ok_is_name (T : Txt mg t_DIGITS t_LETTERS t_LONGEST_NAME t_SIGNS) {fd : FuncData} (F : FnP K "is_name" s_is_name (He.fAd K ("is_name", none)) fd)
    (hP : (He.cT K ("is_name", none)).2 ∈ Ps) (TB : GxR.TabB base mg (He.cT K ("is_name", none)).1 (He.cT K ("is_name", none)).2)
    (hg : ∀ ds d, ds.length = 1 → g_is_name ds = some d → ∃ n, Gives (f_is_name n (startR N_is_name ds)) d)
    : FnOk P w K mg base CX0 1 (He.fAd K ("is_name", none)) fd ["value"] (spD K Ps 1 g_is_name) := by
  refine def_okD (fb := f_is_name) F sc_is_name (fun n cdv A outer s H E hr hc => ?_) hg
  have hcode : cdv = Value.ref (He.cT K ("is_name", none)).1 := hc.symm.trans (code_of F)
  exact (bd_cons (sd_if (td_w (wd_or (td_not (td_val (pd_isi "str" (by decide) (by rfl) T.isinstance PyProof.Rows.boot_isinstance (by rfl) T.str (by decide +kernel) (pd_var 0)))) (wd_or1 (td_not (td_chain op_le op_le sem_le sem_le pd_int (pd_callB call_len sem_len (by rfl) T.len PySem.boot_len (ad_cons (pd_var 0) ad_nil)) (pd_gint (by rfl) T.c_LONGEST_NAME)))))) (bd_one (sd_ret pd_bl)) bd_nil)
      (bd_one (sd_ret (pd_allG hP hr (by rfl) T.all TB hcode ⟨rfl, rfl, by decide +kernel, rfl, rfl, fun y hy e => absurd e ((by decide +kernel : ∀ y ∈ _, y.2 ≠ NameKind.free) y hy)⟩ (pd_var 0) (sign_in rfl rfl rfl T.c_SIGNS)))))
theorem ok_is_variable (T : Txt mg t_DIGITS t_LETTERS t_LONGEST_NAME t_SIGNS) {fd : FuncData} (F : FnP K "is_variable" s_is_variable (He.fAd K ("is_variable", none)) fd)
    (C_is_name : Cal P w K mg base Ps "is_name" ["value"] 1 1 g_is_name)
    (hg : ∀ ds d, ds.length = 1 → g_is_variable ds = some d → ∃ n, Gives (f_is_variable n (startR N_is_variable ds)) d)
    : FnOk P w K mg base CX0 2 (He.fAd K ("is_variable", none)) fd ["value"] (spD K Ps 1 g_is_variable) := by
  obtain ⟨_, _, G_is_name, m_is_name, k_is_name, b_is_name⟩ := C_is_name.ex
  refine def_okD (fb := f_is_variable) F sc_is_variable (fun n cdv A outer s H E hr hc => ?_) hg
  exact (bd_one (sd_ret (pd_and (pd_call G_is_name (hr.mono (by omega)) (by rfl) m_is_name k_is_name b_is_name (ad_cons (pd_var 0) ad_nil) (len_cons len_nil)) (pd_one (pd_cmp op_in_sign sem_inS (pd_ix ix_seq sem_ix (pd_var 0) pd_int (fun _ _ => rfl)) (pd_gstr (by rfl) T.c_LETTERS) (by rfl))))))
theorem ok_is_constant (T : Txt mg t_DIGITS t_LETTERS t_LONGEST_NAME t_SIGNS) {fd : FuncData} (F : FnP K "is_constant" s_is_constant (He.fAd K ("is_constant", none)) fd)
    (C_is_name : Cal P w K mg base Ps "is_name" ["value"] 1 1 g_is_name)
    (hg : ∀ ds d, ds.length = 1 → g_is_constant ds = some d → ∃ n, Gives (f_is_constant n (startR N_is_constant ds)) d)
    : FnOk P w K mg base CX0 2 (He.fAd K ("is_constant", none)) fd ["value"] (spD K Ps 1 g_is_constant) := by
  obtain ⟨_, _, G_is_name, m_is_name, k_is_name, b_is_name⟩ := C_is_name.ex
  refine def_okD (fb := f_is_constant) F sc_is_constant (fun n cdv A outer s H E hr hc => ?_) hg
  exact (bd_one (sd_ret (pd_and (pd_isi "tuple" (by decide) (by rfl) T.isinstance PyProof.Rows.boot_isinstance (by rfl) T.tuple (by decide +kernel) (pd_var 0)) (pd_and (pd_cmp (op_eqD hr.units) sem_eq (pd_callB call_len sem_len (by rfl) T.len PySem.boot_len (ad_cons (pd_var 0) ad_nil)) pd_int (nomark _)) (pd_one (pd_call G_is_name (hr.mono (by omega)) (by rfl) m_is_name k_is_name b_is_name (ad_cons (pd_ix ix_seq sem_ix (pd_var 0) pd_int (fun _ _ => rfl)) ad_nil) (len_cons len_nil)))))))
theorem ok_is_free (T : Txt mg t_DIGITS t_LETTERS t_LONGEST_NAME t_SIGNS) {fd : FuncData} (F : FnP K "is_free" s_is_free (He.fAd K ("is_free", none)) fd)
    (C_is_name : Cal P w K mg base Ps "is_name" ["value"] 1 1 g_is_name)
    (hg : ∀ ds d, ds.length = 1 → g_is_free ds = some d → ∃ n, Gives (f_is_free n (startR N_is_free ds)) d)
    : FnOk P w K mg base CX0 2 (He.fAd K ("is_free", none)) fd ["value"] (spD K Ps 1 g_is_free) := by
  obtain ⟨_, _, G_is_name, m_is_name, k_is_name, b_is_name⟩ := C_is_name.ex
  refine def_okD (fb := f_is_free) F sc_is_free (fun n cdv A outer s H E hr hc => ?_) hg
  exact (bd_cons (sd_if (td_w (wd_or (td_not (td_val (pd_isi "tuple" (by decide) (by rfl) T.isinstance PyProof.Rows.boot_isinstance (by rfl) T.tuple (by decide +kernel) (pd_var 0)))) (wd_or (td_cmp (op_neD hr.units) sem_ne (pd_callB call_len sem_len (by rfl) T.len PySem.boot_len (ad_cons (pd_var 0) ad_nil)) pd_int (nomark _)) (wd_or1 (td_not (td_val (pd_isi "str" (by decide) (by rfl) T.isinstance PyProof.Rows.boot_isinstance (by rfl) T.str (by decide +kernel) (pd_ix ix_seq sem_ix (pd_var 0) pd_int (fun _ _ => rfl))))))))) (bd_one (sd_ret pd_bl)) bd_nil)
      (bd_one (sd_ret (pd_and (pd_mt1 PySem.F.plainAttrs_str PySem.F.slot_str_startswith PySem.F.type_str_startswith mt_startswith sem_starts (pd_ix ix_seq sem_ix (pd_var 0) pd_int (fun _ _ => rfl)) pd_str) (pd_one (pd_call G_is_name (hr.mono (by omega)) (by rfl) m_is_name k_is_name b_is_name (ad_cons (pd_sliceS (pd_ix ix_seq sem_ix (pd_var 0) pd_int (fun _ _ => rfl)) (od_some pd_int) od_none) ad_nil) (len_cons len_nil)))))))
theorem ok_is_rule_number (T : Txt mg t_DIGITS t_LETTERS t_LONGEST_NAME t_SIGNS) {fd : FuncData} (F : FnP K "is_rule_number" s_is_rule_number (He.fAd K ("is_rule_number", none)) fd)
    (hP : (He.cT K ("is_rule_number", none)).2 ∈ Ps) (TB : GxR.TabB base mg (He.cT K ("is_rule_number", none)).1 (He.cT K ("is_rule_number", none)).2)
    (hg : ∀ ds d, ds.length = 1 → g_is_rule_number ds = some d → ∃ n, Gives (f_is_rule_number n (startR N_is_rule_number ds)) d)
    : FnOk P w K mg base CX0 1 (He.fAd K ("is_rule_number", none)) fd ["text"] (spD K Ps 1 g_is_rule_number) := by
  refine def_okD (fb := f_is_rule_number) F sc_is_rule_number (fun n cdv A outer s H E hr hc => ?_) hg
  have hcode : cdv = Value.ref (He.cT K ("is_rule_number", none)).1 := hc.symm.trans (code_of F)
  exact (bd_cons (sd_if (td_w (wd_or (td_cmp (op_eqD hr.units) sem_eq (pd_var 0) pd_str (nomark _)) (wd_or1 (td_not (td_val (pd_allG hP hr (by rfl) T.all TB hcode ⟨rfl, rfl, by decide +kernel, rfl, rfl, fun y hy e => absurd e ((by decide +kernel : ∀ y ∈ _, y.2 ≠ NameKind.free) y hy)⟩ (pd_var 0) (sign_in rfl rfl rfl T.c_DIGITS))))))) (bd_one (sd_ret pd_bl)) bd_nil)
      (bd_one (sd_ret (pd_or (pd_cmp (op_eqD hr.units) sem_eq (pd_var 0) pd_str (nomark _)) (pd_one (pd_cmp (op_neD hr.units) sem_ne (pd_ix ix_seq sem_ix (pd_var 0) pd_int (fun _ _ => rfl)) pd_str (nomark _)))))))
theorem ok_is_label (T : Txt mg t_DIGITS t_LETTERS t_LONGEST_NAME t_SIGNS) {fd : FuncData} (F : FnP K "is_label" s_is_label (He.fAd K ("is_label", none)) fd)
    (C_is_variable : Cal P w K mg base Ps "is_variable" ["value"] 2 1 g_is_variable)
    (C_is_rule_number : Cal P w K mg base Ps "is_rule_number" ["text"] 1 1 g_is_rule_number)
    (hg : ∀ ds d, ds.length = 1 → g_is_label ds = some d → ∃ n, Gives (f_is_label n (startR N_is_label ds)) d)
    : FnOk P w K mg base CX0 3 (He.fAd K ("is_label", none)) fd ["value"] (spD K Ps 1 g_is_label) := by
  obtain ⟨_, _, G_is_variable, m_is_variable, k_is_variable, b_is_variable⟩ := C_is_variable.ex
  obtain ⟨_, _, G_is_rule_number, m_is_rule_number, k_is_rule_number, b_is_rule_number⟩ := C_is_rule_number.ex
  refine def_okD (fb := f_is_label) F sc_is_label (fun n cdv A outer s H E hr hc => ?_) hg
  exact (bd_cons (sd_if (td_not (td_val (pd_isi "str" (by decide) (by rfl) T.isinstance PyProof.Rows.boot_isinstance (by rfl) T.str (by decide +kernel) (pd_var 0)))) (bd_one (sd_ret pd_bl)) bd_nil)
      (bd_cons (sd_asg (pd_mt1 PySem.F.plainAttrs_str PySem.F.slot_str_partition PySem.F.type_str_partition mt_partition sem_part (pd_var 0) pd_str) (gd_tup rfl (gsd_cons (gd_name (i := 1) sc_is_label.nd rfl (by first | exact Or.inl rfl | exact Or.inr rfl)) (gsd_cons (gd_name (i := 2) sc_is_label.nd rfl (by first | exact Or.inl rfl | exact Or.inr rfl)) (gsd_cons (gd_name (i := 3) sc_is_label.nd rfl (by first | exact Or.inl rfl | exact Or.inr rfl)) gsd_nil)))))
      (bd_one (sd_ret (pd_and (pd_call G_is_rule_number (hr.mono (by omega)) (by rfl) m_is_rule_number k_is_rule_number b_is_rule_number (ad_cons (pd_var 1) ad_nil) (len_cons len_nil)) (pd_one (pd_call G_is_variable (hr.mono (by omega)) (by rfl) m_is_variable k_is_variable b_is_variable (ad_cons (pd_var 3) ad_nil) (len_cons len_nil))))))))
theorem ok_is_made_but_for_values (T : Txt mg t_DIGITS t_LETTERS t_LONGEST_NAME t_SIGNS) {fd : FuncData} (F : FnP K "is_made_but_for_values" s_is_made_but_for_values (He.fAd K ("is_made_but_for_values", none)) fd)
    (C_is_label : Cal P w K mg base Ps "is_label" ["value"] 3 1 g_is_label)
    (hg : ∀ ds d, ds.length = 1 → g_is_made_but_for_values ds = some d → ∃ n, Gives (f_is_made_but_for_values n (startR N_is_made_but_for_values ds)) d)
    : FnOk P w K mg base CX0 4 (He.fAd K ("is_made_but_for_values", none)) fd ["value"] (spD K Ps 1 g_is_made_but_for_values) := by
  obtain ⟨_, _, G_is_label, m_is_label, k_is_label, b_is_label⟩ := C_is_label.ex
  refine def_okD (fb := f_is_made_but_for_values) F sc_is_made_but_for_values (fun n cdv A outer s H E hr hc => ?_) hg
  exact (bd_cons (sd_if (td_w (wd_or (td_not (td_val (pd_isi "tuple" (by decide) (by rfl) T.isinstance PyProof.Rows.boot_isinstance (by rfl) T.tuple (by decide +kernel) (pd_var 0)))) (wd_or1 (td_cmp (op_neD hr.units) sem_ne (pd_callB call_len sem_len (by rfl) T.len PySem.boot_len (ad_cons (pd_var 0) ad_nil)) pd_int (nomark _))))) (bd_one (sd_ret pd_bl)) bd_nil)
      (bd_one (sd_ret (pd_and (pd_call G_is_label (hr.mono (by omega)) (by rfl) m_is_label k_is_label b_is_label (ad_cons (pd_ix ix_seq sem_ix (pd_var 0) pd_int (fun _ _ => rfl)) ad_nil) (len_cons len_nil)) (pd_one (pd_isi "tuple" (by decide) (by rfl) T.isinstance PyProof.Rows.boot_isinstance (by rfl) T.tuple (by decide +kernel) (pd_ix ix_seq sem_ix (pd_var 0) pd_int (fun _ _ => rfl))))))))
theorem ok_is_value (T : Txt mg t_DIGITS t_LETTERS t_LONGEST_NAME t_SIGNS) {fd : FuncData} (F : FnP K "is_value" s_is_value (He.fAd K ("is_value", none)) fd)
    (C_is_made_but_for_values : Cal P w K mg base Ps "is_made_but_for_values" ["value"] 4 1 g_is_made_but_for_values)
    (C_is_free : Cal P w K mg base Ps "is_free" ["value"] 2 1 g_is_free)
    (C_is_constant : Cal P w K mg base Ps "is_constant" ["value"] 2 1 g_is_constant)
    (hg : ∀ ds d, ds.length = 1 → g_is_value ds = some d → ∃ n, Gives (f_is_value n (startR N_is_value ds)) d)
    : FnOk P w K mg base CX0 5 (He.fAd K ("is_value", none)) fd ["value"] (spD K Ps 1 g_is_value) := by
  obtain ⟨_, _, G_is_made_but_for_values, m_is_made_but_for_values, k_is_made_but_for_values, b_is_made_but_for_values⟩ := C_is_made_but_for_values.ex
  obtain ⟨_, _, G_is_free, m_is_free, k_is_free, b_is_free⟩ := C_is_free.ex
  obtain ⟨_, _, G_is_constant, m_is_constant, k_is_constant, b_is_constant⟩ := C_is_constant.ex
  refine def_okD (fb := f_is_value) F sc_is_value (fun n cdv A outer s H E hr hc => ?_) hg
  exact (bd_cons (sd_setO (i := 1) sc_is_value.nd rfl (by first | exact Or.inl rfl | exact Or.inr rfl) (ld_lst (ad_cons (pd_var 0) ad_nil)))
      (bd_cons (sd_while n PassesOwn.never (td_truO 1) (bd_cons (sd_pop (i := 1) (j := 2) sc_is_value.nd rfl rfl (by first | exact Or.inl rfl | exact Or.inr rfl))
      (bd_one (sd_if (td_val (pd_call G_is_made_but_for_values (hr.mono (by omega)) (by rfl) m_is_made_but_for_values k_is_made_but_for_values b_is_made_but_for_values (ad_cons (pd_var 2) ad_nil) (len_cons len_nil))) (bd_one (sd_extT (i := 1) (by rfl) (by first | exact Or.inl rfl | exact Or.inr (Or.inl rfl)) (by decide) (by decide) (pd_ix ix_seq sem_ix (pd_var 2) pd_int (fun _ _ => rfl)))) (bd_one (sd_if (td_w (wd_and (td_not (td_val (pd_call G_is_constant (hr.mono (by omega)) (by rfl) m_is_constant k_is_constant b_is_constant (ad_cons (pd_var 2) ad_nil) (len_cons len_nil)))) (wd_and1 (td_not (td_val (pd_call G_is_free (hr.mono (by omega)) (by rfl) m_is_free k_is_free b_is_free (ad_cons (pd_var 2) ad_nil) (len_cons len_nil))))))) (bd_one (sd_ret pd_bl)) bd_nil))))))
      (bd_one (sd_ret pd_bl))))
theorem ok_made_ones (T : Txt mg t_DIGITS t_LETTERS t_LONGEST_NAME t_SIGNS) {fd : FuncData} (F : FnP K "made_ones" s_made_ones (He.fAd K ("made_ones", none)) fd)
    (hg : ∀ ds d, ds.length = 1 → g_made_ones ds = some d → ∃ n, Gives (f_made_ones n (startR N_made_ones ds)) d)
    : FnOk P w K mg base CX0 1 (He.fAd K ("made_ones", none)) fd ["values"] (spD K Ps 1 g_made_ones) := by
  refine def_okD (fb := f_made_ones) F sc_made_ones (fun n cdv A outer s H E hr hc => ?_) hg
  exact (bd_one (sd_ret (pd_ld (ld_lc (own := [("value", 1)]) rfl sc_made_ones.nd (id_list (pd_var 0)) (blkOk_by (own := [("value", 1)]) (N := N_made_ones) (sc := defScope s_made_ones) (by decide +kernel)) (by decide) (fun _ _ _ _ _ => (gd_name (i := 1) sc_made_ones.nd rfl (by first | exact Or.inl rfl | exact Or.inr rfl))) (fun _ _ _ _ _ => (tsd_one (td_cmp (op_eqD hr.units) sem_eq (pd_callB call_len sem_len (by rfl) T.len PySem.boot_len (ad_cons (pd_var 1) ad_nil)) pd_int (nomark _)))) (fun _ _ _ _ _ => (pd_var 1))))))
theorem ok_depth (T : Txt mg t_DIGITS t_LETTERS t_LONGEST_NAME t_SIGNS) {fd : FuncData} (F : FnP K "depth" s_depth (He.fAd K ("depth", none)) fd)
    (C_made_ones : Cal P w K mg base Ps "made_ones" ["values"] 1 1 g_made_ones)
    (hg : ∀ ds d, ds.length = 1 → g_depth ds = some d → ∃ n, Gives (f_depth n (startR N_depth ds)) d)
    : FnOk P w K mg base CX0 2 (He.fAd K ("depth", none)) fd ["value"] (spD K Ps 1 g_depth) := by
  obtain ⟨_, _, G_made_ones, m_made_ones, k_made_ones, b_made_ones⟩ := C_made_ones.ex
  refine def_okD (fb := f_depth) F sc_depth (fun n cdv A outer s H E hr hc => ?_) hg
  exact (bd_cons (sd_set (i := 1) sc_depth.nd rfl (by first | exact Or.inl rfl | exact Or.inr rfl) pd_int)
      (bd_cons (sd_set (i := 2) sc_depth.nd rfl (by first | exact Or.inl rfl | exact Or.inr rfl) (pd_call G_made_ones (hr.mono (by omega)) (by rfl) m_made_ones k_made_ones b_made_ones (ad_cons (pd_ld (ld_lst (ad_cons (pd_var 0) ad_nil))) ad_nil) (len_cons len_nil)))
      (bd_cons (sd_while n PassesOwn.never (td_truO 2) (bd_cons (sd_aug (i := 1) sc_depth.nd rfl (by first | exact Or.inl rfl | exact Or.inr rfl) pd_int ip_add)
      (bd_one (sd_set (i := 2) sc_depth.nd rfl (by first | exact Or.inl rfl | exact Or.inr rfl) (pd_call G_made_ones (hr.mono (by omega)) (by rfl) m_made_ones k_made_ones b_made_ones (ad_cons (pd_ld (ld_lc2 (own := [("unknown", 3), ("part", 4)]) (vs1 := [4]) rfl sc_depth.nd (id_list (pd_var 2)) (blkOk_by (own := [("unknown", 3), ("part", 4)]) (N := N_depth) (sc := defScope s_depth) (by decide +kernel)) (by decide) (by decide) (by decide) (fun _ _ _ _ _ => (gd_name (i := 3) sc_depth.nd rfl (by first | exact Or.inl rfl | exact Or.inr rfl))) (fun _ _ _ _ _ => tsd_nil) (fun _ _ _ _ _ => (id_tup (pd_ix ix_seq sem_ix (pd_var 3) pd_int (fun _ _ => rfl)))) (fun _ _ _ _ _ => (gd_name (i := 4) sc_depth.nd rfl (by first | exact Or.inl rfl | exact Or.inr rfl))) (fun _ _ _ _ _ => tsd_nil) (fun _ _ _ _ _ => (pd_var 4)))) ad_nil) (len_cons len_nil))))))
      (bd_one (sd_ret (pd_var 1))))))
theorem ok_value_key (T : Txt mg t_DIGITS t_LETTERS t_LONGEST_NAME t_SIGNS) {fd : FuncData} (F : FnP K "value_key" s_value_key (He.fAd K ("value_key", none)) fd)
    (C_depth : Cal P w K mg base Ps "depth" ["value"] 2 1 g_depth)
    (C_is_constant : Cal P w K mg base Ps "is_constant" ["value"] 2 1 g_is_constant)
    (hg : ∀ ds d, ds.length = 1 → g_value_key ds = some d → ∃ n, Gives (f_value_key n (startR N_value_key ds)) d)
    : FnOk P w K mg base CX0 3 (He.fAd K ("value_key", none)) fd ["value"] (spD K Ps 1 g_value_key) := by
  obtain ⟨_, _, G_depth, m_depth, k_depth, b_depth⟩ := C_depth.ex
  obtain ⟨_, _, G_is_constant, m_is_constant, k_is_constant, b_is_constant⟩ := C_is_constant.ex
  refine def_okD (fb := f_value_key) F sc_value_key (fun n cdv A outer s H E hr hc => ?_) hg
  exact (bd_one (sd_ret (pd_tup (ad_cons (pd_call G_depth (hr.mono (by omega)) (by rfl) m_depth k_depth b_depth (ad_cons (pd_var 0) ad_nil) (len_cons len_nil)) (ad_cons (pd_ifE (td_val (pd_call G_is_constant (hr.mono (by omega)) (by rfl) m_is_constant k_is_constant b_is_constant (ad_cons (pd_var 0) ad_nil) (len_cons len_nil))) pd_int pd_int) (ad_cons (pd_var 0) ad_nil))))))
theorem ok_made (T : Txt mg t_DIGITS t_LETTERS t_LONGEST_NAME t_SIGNS) {fd : FuncData} (F : FnP K "made" s_made (He.fAd K ("made", none)) fd)
    (hg : ∀ ds d, ds.length = 3 → g_made ds = some d → ∃ n, Gives (f_made n (startR N_made ds)) d)
    : FnOk P w K mg base CX0 1 (He.fAd K ("made", none)) fd ["rule", "variable", "values"] (spD K Ps 3 g_made) := by
  refine def_okD (fb := f_made) F sc_made (fun n cdv A outer s H E hr hc => ?_) hg
  exact (bd_one (sd_ret (pd_tup (ad_cons (pd_joined (jd_cons (pd_fmt (pd_var 0)) (jd_cons pd_str (jd_cons (pd_fmt (pd_var 1)) jd_nil)))) (ad_cons (pd_callTy call_tuple_of sem_tupOf (by rfl) T.tuple PyProof.Rows.boot_tuple (ad_cons (pd_var 2) ad_nil)) ad_nil)))))
theorem ok_d_law_cell (T : Txt mg t_DIGITS t_LETTERS t_LONGEST_NAME t_SIGNS) {fd : FuncData} (F : FnP K "_law_cell" s_d_law_cell (He.fAd K ("_law_cell", none)) fd)
    (hg : ∀ ds d, ds.length = 2 → g_d_law_cell ds = some d → ∃ n, Gives (f_d_law_cell n (startR N_d_law_cell ds)) d)
    : FnOk P w K mg base CX0 1 (He.fAd K ("_law_cell", none)) fd ["script", "k"] (spD K Ps 2 g_d_law_cell) := by
  refine def_okD (fb := f_d_law_cell) F sc_d_law_cell (fun n cdv A outer s H E hr hc => ?_) hg
  exact (bd_cons (sd_if (td_cmp op_lt sem_lt (pd_var 1) (pd_callB call_len sem_len (by rfl) T.len PySem.boot_len (ad_cons (pd_var 0) ad_nil)) (nomark _)) (bd_one (sd_ret (pd_callTy call_int1 sem_int (by rfl) T.int PyProof.Rows.boot_int (ad_cons (pd_ix ix_seq sem_ix (pd_var 0) (pd_var 1) (fun _ _ => rfl)) ad_nil)))) bd_nil)
      (bd_one (sd_ret pd_int)))
theorem ok_d_law_digits (T : Txt mg t_DIGITS t_LETTERS t_LONGEST_NAME t_SIGNS) {fd : FuncData} (F : FnP K "_law_digits" s_d_law_digits (He.fAd K ("_law_digits", none)) fd)
    (hg : ∀ ds d, ds.length = 2 → g_d_law_digits ds = some d → ∃ n, Gives (f_d_law_digits n (startR N_d_law_digits ds)) d)
    : FnOk P w K mg base CX0 1 (He.fAd K ("_law_digits", none)) fd ["cell", "bases"] (spD K Ps 2 g_d_law_digits) := by
  refine def_okD (fb := f_d_law_digits) F sc_d_law_digits (fun n cdv A outer s H E hr hc => ?_) hg
  exact (bd_cons (sd_setO (i := 2) sc_d_law_digits.nd rfl (by first | exact Or.inl rfl | exact Or.inr rfl) (ld_lst ad_nil))
      (bd_cons (sd_set (i := 3) sc_d_law_digits.nd rfl (by first | exact Or.inl rfl | exact Or.inr rfl) (pd_callTy call_int1 sem_int (by rfl) T.int PyProof.Rows.boot_int (ad_cons (pd_var 0) ad_nil)))
      (bd_cons (sd_for PassesOwn.never rfl (id_list (pd_var 1)) (gd_name (i := 4) sc_d_law_digits.nd rfl (by first | exact Or.inl rfl | exact Or.inr rfl)) (bd_one (sd_if (td_cmp op_ge sem_ge (pd_var 0) (pd_op op_pow sem_pow pd_int pd_int) (nomark _)) (bd_cons (sd_app (i := 2) (by rfl) (by first | exact Or.inl rfl | exact Or.inr (Or.inl rfl)) (by decide) (by decide) (pd_op op_mod sem_mod (pd_callTy call_int1 sem_int (by rfl) T.int PyProof.Rows.boot_int (ad_cons (pd_var 3) ad_nil)) (pd_var 4)))
      (bd_one (sd_set (i := 3) sc_d_law_digits.nd rfl (by first | exact Or.inl rfl | exact Or.inr rfl) (pd_op op_fdiv sem_div (pd_var 3) (pd_var 4))))) (bd_cons (sd_set (i := 3) sc_d_law_digits.nd rfl (by first | exact Or.inl rfl | exact Or.inr rfl) (pd_op op_mod sem_mod (pd_op op_add sem_add (pd_op op_add sem_add (pd_op op_mul sem_mul (pd_callTy call_int1 sem_int (by rfl) T.int PyProof.Rows.boot_int (ad_cons (pd_var 3) ad_nil)) pd_int) (pd_op op_mul sem_mul pd_int (pd_lenO 2 (by rfl) T.len))) pd_int) pd_int))
      (bd_cons (sd_set (i := 5) sc_d_law_digits.nd rfl (by first | exact Or.inl rfl | exact Or.inr rfl) (pd_op op_mod sem_mod (pd_op op_mul sem_mul (pd_callTy call_int1 sem_int (by rfl) T.int PyProof.Rows.boot_int (ad_cons (pd_var 3) ad_nil)) (pd_callTy call_int1 sem_int (by rfl) T.int PyProof.Rows.boot_int (ad_cons (pd_var 3) ad_nil))) pd_int))
      (bd_one (sd_app (i := 2) (by rfl) (by first | exact Or.inl rfl | exact Or.inr (Or.inl rfl)) (by decide) (by decide) (pd_op op_mod sem_mod (pd_op op_fdiv sem_div (pd_callTy call_int1 sem_int (by rfl) T.int PyProof.Rows.boot_int (ad_cons (pd_var 5) ad_nil)) pd_int) (pd_var 4)))))))))
      (bd_one (sd_frz 2 (sd_ret (pd_var 2)))))))
theorem ok_d_law_value (T : Txt mg t_DIGITS t_LETTERS t_LONGEST_NAME t_SIGNS) {fd : FuncData} (F : FnP K "_law_value" s_d_law_value (He.fAd K ("_law_value", none)) fd)
    (C_d_law_digits : Cal P w K mg base Ps "_law_digits" ["cell", "bases"] 1 2 g_d_law_digits)
    (hg : ∀ ds d, ds.length = 2 → g_d_law_value ds = some d → ∃ n, Gives (f_d_law_value n (startR N_d_law_value ds)) d)
    : FnOk P w K mg base CX0 2 (He.fAd K ("_law_value", none)) fd ["cell", "most"] (spD K Ps 2 g_d_law_value) := by
  obtain ⟨_, _, G_d_law_digits, m_d_law_digits, k_d_law_digits, b_d_law_digits⟩ := C_d_law_digits.ex
  refine def_okD (fb := f_d_law_value) F sc_d_law_value (fun n cdv A outer s H E hr hc => ?_) hg
  exact (bd_cons (sd_set (i := 2) sc_d_law_value.nd rfl (by first | exact Or.inl rfl | exact Or.inr rfl) (pd_call G_d_law_digits (hr.mono (by omega)) (by rfl) m_d_law_digits k_d_law_digits b_d_law_digits (ad_cons (pd_var 0) (ad_cons (pd_ld (ld_lst (ad_cons pd_int (ad_cons pd_int (ad_cons pd_int (ad_cons pd_int (ad_cons pd_int (ad_cons pd_int ad_nil)))))))) ad_nil)) (len_cons (len_cons len_nil))))
      (bd_cons (sd_set (i := 3) sc_d_law_value.nd rfl (by first | exact Or.inl rfl | exact Or.inr rfl) (pd_ix ix_seq sem_ix (pd_ld (ld_lst (ad_cons (pd_tup (ad_cons pd_str ad_nil)) (ad_cons (pd_tup (ad_cons pd_str ad_nil)) (ad_cons (pd_tup (ad_cons pd_str ad_nil)) (ad_cons (pd_tup (ad_cons pd_str ad_nil)) (ad_cons (pd_tup (ad_cons pd_str ad_nil)) (ad_cons (pd_tup (ad_cons pd_str ad_nil)) ad_nil)))))))) (pd_ix ix_seq sem_ix (pd_var 2) pd_int (fun _ _ => rfl)) (fun _ _ => rfl)))
      (bd_cons (sd_for PassesOwn.never rfl (id_range (by rfl) T.range (ad_cons (pd_var 1) ad_nil)) (gd_name (i := 4) sc_d_law_value.nd rfl (by first | exact Or.inl rfl | exact Or.inr rfl)) (bd_one (sd_if (td_cmp op_gt sem_gt (pd_ix ix_seq sem_ix (pd_var 2) pd_int (fun _ _ => rfl)) (pd_var 4) (nomark _)) (bd_cons (sd_set (i := 5) sc_d_law_value.nd rfl (by first | exact Or.inl rfl | exact Or.inr rfl) (pd_ix ix_seq sem_ix (pd_ld (ld_lst (ad_cons pd_str (ad_cons pd_str (ad_cons pd_str (ad_cons pd_str ad_nil)))))) (pd_ix ix_seq sem_ix (pd_var 2) pd_int (fun _ _ => rfl)) (fun _ _ => rfl)))
      (bd_cons (sd_set (i := 6) sc_d_law_value.nd rfl (by first | exact Or.inl rfl | exact Or.inr rfl) (pd_ld (ld_sliceL (pd_ld (ld_lst (ad_cons (pd_var 3) (ad_cons (pd_tup (ad_cons pd_str ad_nil)) (ad_cons (pd_var 3) ad_nil))))) od_none (od_some (pd_ix ix_seq sem_ix (pd_var 2) pd_int (fun _ _ => rfl))))))
      (bd_cons (sd_if (td_cmp (op_eqD hr.units) sem_eq (pd_ix ix_seq sem_ix (pd_var 2) pd_int (fun _ _ => rfl)) pd_int (nomark _)) (bd_one (sd_set (i := 6) sc_d_law_value.nd rfl (by first | exact Or.inl rfl | exact Or.inr rfl) (pd_ld (ld_revL (pd_var 6))))) bd_nil)
      (bd_one (sd_set (i := 3) sc_d_law_value.nd rfl (by first | exact Or.inl rfl | exact Or.inr rfl) (pd_tup (ad_cons (pd_var 5) (ad_cons (pd_callTy call_tuple_of sem_tupOf (by rfl) T.tuple PyProof.Rows.boot_tuple (ad_cons (pd_var 6) ad_nil)) ad_nil)))))))) bd_nil)))
      (bd_one (sd_ret (pd_var 3))))))
theorem ok_d_law_depth_step (T : Txt mg t_DIGITS t_LETTERS t_LONGEST_NAME t_SIGNS) {fd : FuncData} (F : FnP K "_law_depth" s_d_law_depth (He.fAd K ("_law_depth", none)) fd)
    {j : Nat} {gj g : List D → Option D} (C_d_law_depth : Cal P w K mg base Ps "_law_depth" ["value"] j 1 gj)
    (hg : ∀ ds d, ds.length = 1 → g ds = some d → ∃ n, Gives (f_d_law_depth gj n (startR N_d_law_depth ds)) d)
    : FnOk P w K mg base CX0 (j + 1) (He.fAd K ("_law_depth", none)) fd ["value"] (spD K Ps 1 g) := by
  obtain ⟨_, _, G_d_law_depth, m_d_law_depth, k_d_law_depth, b_d_law_depth⟩ := C_d_law_depth.ex
  refine def_okD (fb := f_d_law_depth gj) F sc_d_law_depth (fun n cdv A outer s H E hr hc => ?_) hg
  exact (bd_cons (sd_if (td_cmp (op_eqD hr.units) sem_eq (pd_callB call_len sem_len (by rfl) T.len PySem.boot_len (ad_cons (pd_var 0) ad_nil)) pd_int (nomark _)) (bd_one (sd_ret pd_int)) bd_nil)
      (bd_one (sd_ret (pd_op op_add sem_add pd_int (pd_callB (call_maxL rfl (hu_of hr)) sem_maxL (by rfl) T.max PyProof.Rows.boot_max (ad_cons (pd_ld (ld_catL (pd_ld (ld_lst (ad_cons pd_int ad_nil))) (pd_ld (ld_lc (own := [("inner", 1)]) rfl sc_d_law_depth.nd (id_tup (pd_ix ix_seq sem_ix (pd_var 0) pd_int (fun _ _ => rfl))) (blkOk_by (own := [("inner", 1)]) (N := N_d_law_depth) (sc := defScope s_d_law_depth) (by decide +kernel)) (by decide) (fun _ _ _ _ _ => (gd_name (i := 1) sc_d_law_depth.nd rfl (by first | exact Or.inl rfl | exact Or.inr rfl))) (fun _ _ _ _ _ => tsd_nil) (fun _ _ _ _ _ => (pd_call G_d_law_depth (hr.mono (by omega)) (by rfl) m_d_law_depth k_d_law_depth b_d_law_depth (ad_cons (pd_var 1) ad_nil) (len_cons len_nil))))))) ad_nil))))))
theorem ok_d_law_spoiled (T : Txt mg t_DIGITS t_LETTERS t_LONGEST_NAME t_SIGNS) {fd : FuncData} (F : FnP K "_law_spoiled" s_d_law_spoiled (He.fAd K ("_law_spoiled", none)) fd)
    (hg : ∀ ds d, ds.length = 2 → g_d_law_spoiled ds = some d → ∃ n, Gives (f_d_law_spoiled n (startR N_d_law_spoiled ds)) d)
    : FnOk P w K mg base CX0 1 (He.fAd K ("_law_spoiled", none)) fd ["value", "digit"] (spD K Ps 2 g_d_law_spoiled) := by
  refine def_okD (fb := f_d_law_spoiled) F sc_d_law_spoiled (fun n cdv A outer s H E hr hc => ?_) hg
  exact (bd_cons (sd_set (i := 2) sc_d_law_spoiled.nd rfl (by first | exact Or.inl rfl | exact Or.inr rfl) (pd_ld (ld_lst (ad_cons (pd_tup (ad_cons pd_str ad_nil)) (ad_cons (pd_tup (ad_cons pd_str ad_nil)) (ad_cons (pd_tup (ad_cons pd_str ad_nil)) (ad_cons (pd_tup (ad_cons pd_str ad_nil)) (ad_cons (pd_tup (ad_cons pd_str ad_nil)) (ad_cons (pd_tup (ad_cons pd_str ad_nil)) (ad_cons (pd_tup (ad_cons pd_str (ad_cons pd_str ad_nil))) (ad_cons (pd_tup ad_nil) (ad_cons (pd_ld (ld_lst (ad_cons pd_str ad_nil))) (ad_cons pd_str (ad_cons pd_int (ad_cons pd_non (ad_cons (pd_tup (ad_cons pd_int ad_nil)) (ad_cons (pd_tup (ad_cons pd_str (ad_cons (pd_tup ad_nil) ad_nil))) (ad_cons (pd_tup (ad_cons pd_str (ad_cons (pd_tup ad_nil) ad_nil))) (ad_cons (pd_tup (ad_cons pd_str (ad_cons (pd_tup ad_nil) ad_nil))) (ad_cons (pd_tup (ad_cons pd_str (ad_cons (pd_tup ad_nil) ad_nil))) (ad_cons (pd_tup (ad_cons pd_str (ad_cons (pd_ld (ld_lst ad_nil)) ad_nil))) (ad_cons (pd_tup (ad_cons pd_str (ad_cons (pd_tup ad_nil) (ad_cons (pd_tup ad_nil) ad_nil)))) (ad_cons (pd_tup (ad_cons pd_str (ad_cons (pd_tup ad_nil) ad_nil))) (ad_cons (pd_tup (ad_cons pd_str (ad_cons (pd_tup ad_nil) ad_nil))) (ad_cons (pd_tup (ad_cons pd_str (ad_cons (pd_tup ad_nil) ad_nil))) (ad_cons (pd_tup (ad_cons (pd_tup (ad_cons pd_str ad_nil)) ad_nil)) (ad_cons (pd_tup (ad_cons pd_str (ad_cons (pd_tup ad_nil) ad_nil))) (ad_cons (pd_tup (ad_cons pd_str (ad_cons (pd_tup (ad_cons pd_str ad_nil)) ad_nil))) (ad_cons (pd_tup (ad_cons pd_str ad_nil)) ad_nil)))))))))))))))))))))))))))))
      (bd_cons (sd_if (td_cmp (op_eqD hr.units) sem_eq (pd_op op_mod sem_mod (pd_var 1) pd_int) pd_int (nomark _)) (bd_one (sd_ret (pd_ix ix_seq sem_ix (pd_var 2) (pd_op op_mod sem_mod (pd_op op_fdiv sem_div (pd_var 1) pd_int) (pd_callB call_len sem_len (by rfl) T.len PySem.boot_len (ad_cons (pd_var 2) ad_nil))) (fun _ _ => rfl)))) bd_nil)
      (bd_one (sd_ret (pd_tup (ad_cons pd_str (ad_cons (pd_tup (ad_cons (pd_tup (ad_cons pd_str ad_nil)) (ad_cons (pd_ix ix_seq sem_ix (pd_var 2) (pd_op op_mod sem_mod (pd_op op_fdiv sem_div (pd_var 1) pd_int) (pd_callB call_len sem_len (by rfl) T.len PySem.boot_len (ad_cons (pd_var 2) ad_nil))) (fun _ _ => rfl)) (ad_cons (pd_var 0) ad_nil)))) ad_nil)))))))
theorem ok_d_law_key (T : Txt mg t_DIGITS t_LETTERS t_LONGEST_NAME t_SIGNS) {fd : FuncData} (F : FnP K "_law_key" s_d_law_key (He.fAd K ("_law_key", none)) fd)
    (C_d_law_depth : Cal P w K mg base Ps "_law_depth" ["value"] 8 1 g_d_law_depth)
    (hg : ∀ ds d, ds.length = 1 → g_d_law_key ds = some d → ∃ n, Gives (f_d_law_key n (startR N_d_law_key ds)) d)
    : FnOk P w K mg base CX0 9 (He.fAd K ("_law_key", none)) fd ["value"] (spD K Ps 1 g_d_law_key) := by
  obtain ⟨_, _, G_d_law_depth, m_d_law_depth, k_d_law_depth, b_d_law_depth⟩ := C_d_law_depth.ex
  refine def_okD (fb := f_d_law_key) F sc_d_law_key (fun n cdv A outer s H E hr hc => ?_) hg
  exact (bd_one (sd_ret (pd_tup (ad_cons (pd_call G_d_law_depth (hr.mono (by omega)) (by rfl) m_d_law_depth k_d_law_depth b_d_law_depth (ad_cons (pd_var 0) ad_nil) (len_cons len_nil)) (ad_cons (pd_ix ix_seq sem_ix (pd_ld (ld_lst (ad_cons pd_int (ad_cons pd_int ad_nil)))) (pd_callTy call_int1 sem_int (by rfl) T.int PyProof.Rows.boot_int (ad_cons (pd_and (pd_cmp (op_eqD hr.units) sem_eq (pd_callB call_len sem_len (by rfl) T.len PySem.boot_len (ad_cons (pd_var 0) ad_nil)) pd_int (nomark _)) (pd_one (pd_cmp (op_neD hr.units) sem_ne (pd_ix ix_seq sem_ix (pd_ix ix_seq sem_ix (pd_var 0) pd_int (fun _ _ => rfl)) pd_int (fun _ _ => rfl)) pd_str (nomark _)))) ad_nil)) (fun _ _ => rfl)) (ad_cons (pd_var 0) ad_nil))))))
theorem ok_d_law_other (T : Txt mg t_DIGITS t_LETTERS t_LONGEST_NAME t_SIGNS) {fd : FuncData} (F : FnP K "_law_other" s_d_law_other (He.fAd K ("_law_other", none)) fd)
    (hg : ∀ ds d, ds.length = 2 → g_d_law_other ds = some d → ∃ n, Gives (f_d_law_other n (startR N_d_law_other ds)) d)
    : FnOk P w K mg base CX0 1 (He.fAd K ("_law_other", none)) fd ["told", "due"] (spD K Ps 2 g_d_law_other) := by
  refine def_okD (fb := f_d_law_other) F sc_d_law_other (fun n cdv A outer s H E hr hc => ?_) hg
  exact (bd_one (sd_ret (pd_or (pd_not (pd_isi "bool" (by decide) (by rfl) T.isinstance PyProof.Rows.boot_isinstance (by rfl) T.bool (by decide +kernel) (pd_var 0))) (pd_one (pd_cmp (op_neD hr.units) sem_ne (pd_var 0) (pd_var 1) (nomark _))))))
theorem ok_law (T : Txt mg t_DIGITS t_LETTERS t_LONGEST_NAME t_SIGNS) {fd : FuncData} (F : FnP K "law" s_law (He.fAd K ("law", none)) fd)
    (C_d_law_value : Cal P w K mg base Ps "_law_value" ["cell", "most"] 2 2 g_d_law_value)
    (C_d_law_cell : Cal P w K mg base Ps "_law_cell" ["script", "k"] 1 2 g_d_law_cell)
    (C_depth : Cal P w K mg base Ps "depth" ["value"] 2 1 g_depth)
    (C_d_law_depth : Cal P w K mg base Ps "_law_depth" ["value"] 8 1 g_d_law_depth)
    (C_is_value : Cal P w K mg base Ps "is_value" ["value"] 5 1 g_is_value)
    (C_d_law_other : Cal P w K mg base Ps "_law_other" ["told", "due"] 1 2 g_d_law_other)
    (C_is_constant : Cal P w K mg base Ps "is_constant" ["value"] 2 1 g_is_constant)
    (C_d_law_spoiled : Cal P w K mg base Ps "_law_spoiled" ["value", "digit"] 1 2 g_d_law_spoiled)
    (C_value_key : Cal P w K mg base Ps "value_key" ["value"] 3 1 g_value_key)
    (C_d_law_key : Cal P w K mg base Ps "_law_key" ["value"] 9 1 g_d_law_key)
    (C_made : Cal P w K mg base Ps "made" ["rule", "variable", "values"] 1 3 g_made)
    (hg : ∀ ds d, ds.length = 1 → g_law ds = some d → ∃ n, Gives (f_law n (startR N_law ds)) d)
    : FnOk P w K mg base CX0 10 (He.fAd K ("law", none)) fd ["script"] (spD K Ps 1 g_law) := by
  obtain ⟨_, _, G_d_law_value, m_d_law_value, k_d_law_value, b_d_law_value⟩ := C_d_law_value.ex
  obtain ⟨_, _, G_d_law_cell, m_d_law_cell, k_d_law_cell, b_d_law_cell⟩ := C_d_law_cell.ex
  obtain ⟨_, _, G_depth, m_depth, k_depth, b_depth⟩ := C_depth.ex
  obtain ⟨_, _, G_d_law_depth, m_d_law_depth, k_d_law_depth, b_d_law_depth⟩ := C_d_law_depth.ex
  obtain ⟨_, _, G_is_value, m_is_value, k_is_value, b_is_value⟩ := C_is_value.ex
  obtain ⟨_, _, G_d_law_other, m_d_law_other, k_d_law_other, b_d_law_other⟩ := C_d_law_other.ex
  obtain ⟨_, _, G_is_constant, m_is_constant, k_is_constant, b_is_constant⟩ := C_is_constant.ex
  obtain ⟨_, _, G_d_law_spoiled, m_d_law_spoiled, k_d_law_spoiled, b_d_law_spoiled⟩ := C_d_law_spoiled.ex
  obtain ⟨_, _, G_value_key, m_value_key, k_value_key, b_value_key⟩ := C_value_key.ex
  obtain ⟨_, _, G_d_law_key, m_d_law_key, k_d_law_key, b_d_law_key⟩ := C_d_law_key.ex
  obtain ⟨_, _, G_made, m_made, k_made, b_made⟩ := C_made.ex
  refine def_okD (fb := f_law) F sc_law (fun n cdv A outer s H E hr hc => ?_) hg
  exact (bd_cons (sd_setLc (own := [("k", 2)]) (i := 1) rfl sc_law.nd rfl rfl (sw_true rfl rfl rfl (by decide +kernel)) (id_range (by rfl) T.range (ad_cons (pd_op op_add sem_add pd_int (pd_callB (call_min2 rfl) sem_min2 (by rfl) T.min PyProof.Rows.boot_min (ad_cons (pd_callB call_len sem_len (by rfl) T.len PySem.boot_len (ad_cons (pd_var 0) ad_nil)) (ad_cons pd_int ad_nil)))) ad_nil)) (blkOk_by (own := [("k", 2)]) (N := N_law) (sc := defScope s_law) (by decide +kernel)) (by decide) (fun _ _ _ _ _ => (gd_name (i := 2) sc_law.nd rfl (by first | exact Or.inl rfl | exact Or.inr rfl))) (fun _ _ _ _ _ => tsd_nil) (fun _ _ _ _ _ => (pd_call G_d_law_value (hr.mono (by omega)) (by rfl) m_d_law_value k_d_law_value b_d_law_value (ad_cons (pd_op op_add sem_add (pd_call G_d_law_cell (hr.mono (by omega)) (by rfl) m_d_law_cell k_d_law_cell b_d_law_cell (ad_cons (pd_var 0) (ad_cons (pd_var 2) ad_nil)) (len_cons (len_cons len_nil))) (pd_var 2)) (ad_cons pd_int ad_nil)) (len_cons (len_cons len_nil)))))
      (bd_frz 1 (bd_cons (sd_for PassesOwn.never rfl (id_range (by rfl) T.range (ad_cons (pd_callB call_len sem_len (by rfl) T.len PySem.boot_len (ad_cons (pd_var 1) ad_nil)) ad_nil)) (gd_name (i := 2) sc_law.nd rfl (by first | exact Or.inl rfl | exact Or.inr rfl)) (bd_cons (sd_set (i := 3) sc_law.nd rfl (by first | exact Or.inl rfl | exact Or.inr rfl) (pd_ix ix_seq sem_ix (pd_var 1) (pd_var 2) (fun _ _ => rfl)))
      (bd_cons (sd_if (td_w (wd_or (td_cmp op_notBl sem_isnot (pd_call G_is_value (hr.mono (by omega)) (by rfl) m_is_value k_is_value b_is_value (ad_cons (pd_var 3) ad_nil) (len_cons len_nil)) pd_bl (nomark _)) (wd_or1 (td_cmp (op_neD hr.units) sem_ne (pd_call G_depth (hr.mono (by omega)) (by rfl) m_depth k_depth b_depth (ad_cons (pd_var 3) ad_nil) (len_cons len_nil)) (pd_call G_d_law_depth (hr.mono (by omega)) (by rfl) m_d_law_depth k_d_law_depth b_d_law_depth (ad_cons (pd_var 3) ad_nil) (len_cons len_nil)) (nomark _))))) (bd_one (sd_ret pd_bl)) bd_nil)
      (bd_cons (sd_set (i := 4) sc_law.nd rfl (by first | exact Or.inl rfl | exact Or.inr rfl) (pd_and (pd_cmp (op_eqD hr.units) sem_eq (pd_callB call_len sem_len (by rfl) T.len PySem.boot_len (ad_cons (pd_var 3) ad_nil)) pd_int (nomark _)) (pd_one (pd_cmp (op_neD hr.units) sem_ne (pd_ix ix_seq sem_ix (pd_ix ix_seq sem_ix (pd_var 3) pd_int (fun _ _ => rfl)) pd_int (fun _ _ => rfl)) pd_str (nomark _)))))
      (bd_cons (sd_if (td_val (pd_call G_d_law_other (hr.mono (by omega)) (by rfl) m_d_law_other k_d_law_other b_d_law_other (ad_cons (pd_call G_is_constant (hr.mono (by omega)) (by rfl) m_is_constant k_is_constant b_is_constant (ad_cons (pd_var 3) ad_nil) (len_cons len_nil)) (ad_cons (pd_var 4) ad_nil)) (len_cons (len_cons len_nil)))) (bd_one (sd_ret pd_bl)) bd_nil)
      (bd_cons (sd_set (i := 5) sc_law.nd rfl (by first | exact Or.inl rfl | exact Or.inr rfl) (pd_call G_d_law_spoiled (hr.mono (by omega)) (by rfl) m_d_law_spoiled k_d_law_spoiled b_d_law_spoiled (ad_cons (pd_var 3) (ad_cons (pd_op op_add sem_add (pd_callTy call_int1 sem_int (by rfl) T.int PyProof.Rows.boot_int (ad_cons (pd_call G_d_law_cell (hr.mono (by omega)) (by rfl) m_d_law_cell k_d_law_cell b_d_law_cell (ad_cons (pd_var 0) (ad_cons (pd_var 2) ad_nil)) (len_cons (len_cons len_nil))) ad_nil)) (pd_op op_mul sem_mul pd_int (pd_var 2))) ad_nil)) (len_cons (len_cons len_nil))))
      (bd_cons (sd_if (td_w (wd_or (td_cmp op_notBl sem_isnot (pd_call G_is_value (hr.mono (by omega)) (by rfl) m_is_value k_is_value b_is_value (ad_cons (pd_var 5) ad_nil) (len_cons len_nil)) pd_bl (nomark _)) (wd_or1 (td_cmp op_notBl sem_isnot (pd_call G_is_constant (hr.mono (by omega)) (by rfl) m_is_constant k_is_constant b_is_constant (ad_cons (pd_var 5) ad_nil) (len_cons len_nil)) pd_bl (nomark _))))) (bd_one (sd_ret pd_bl)) bd_nil)
      (bd_one (sd_for PassesOwn.never rfl (id_list (pd_var 1)) (gd_name (i := 6) sc_law.nd rfl (by first | exact Or.inl rfl | exact Or.inr rfl)) (bd_cons (sd_if (td_cmp (op_neD hr.units) sem_ne (pd_cmp (op_ltD hr.units) sem_ltD (pd_call G_value_key (hr.mono (by omega)) (by rfl) m_value_key k_value_key b_value_key (ad_cons (pd_var 3) ad_nil) (len_cons len_nil)) (pd_call G_value_key (hr.mono (by omega)) (by rfl) m_value_key k_value_key b_value_key (ad_cons (pd_var 6) ad_nil) (len_cons len_nil)) (nomark _)) (pd_cmp (op_ltD hr.units) sem_ltD (pd_call G_d_law_key (hr.mono (by omega)) (by rfl) m_d_law_key k_d_law_key b_d_law_key (ad_cons (pd_var 3) ad_nil) (len_cons len_nil)) (pd_call G_d_law_key (hr.mono (by omega)) (by rfl) m_d_law_key k_d_law_key b_d_law_key (ad_cons (pd_var 6) ad_nil) (len_cons len_nil)) (nomark _)) (nomark _)) (bd_one (sd_ret pd_bl)) bd_nil)
      (bd_one (sd_if (td_cmp (op_neD hr.units) sem_ne (pd_cmp (op_eqD hr.units) sem_eq (pd_call G_value_key (hr.mono (by omega)) (by rfl) m_value_key k_value_key b_value_key (ad_cons (pd_var 3) ad_nil) (len_cons len_nil)) (pd_call G_value_key (hr.mono (by omega)) (by rfl) m_value_key k_value_key b_value_key (ad_cons (pd_var 6) ad_nil) (len_cons len_nil)) (nomark _)) (pd_cmp (op_eqD hr.units) sem_eq (pd_var 3) (pd_var 6) (nomark _)) (nomark _)) (bd_one (sd_ret pd_bl)) bd_nil))))))))))))
      (bd_one (sd_ret (pd_and (pd_cmp (op_eqD hr.units) sem_eq (pd_call G_made (hr.mono (by omega)) (by rfl) m_made k_made b_made (ad_cons pd_int (ad_cons pd_str (ad_cons (pd_ld (ld_lst (ad_cons (pd_tup (ad_cons pd_str ad_nil)) ad_nil))) ad_nil))) (len_cons (len_cons (len_cons len_nil)))) (pd_tup (ad_cons pd_str (ad_cons (pd_tup (ad_cons (pd_tup (ad_cons pd_str ad_nil)) ad_nil)) ad_nil))) (nomark _)) (pd_one (pd_cmp (op_eqD hr.units) sem_eq (pd_call G_depth (hr.mono (by omega)) (by rfl) m_depth k_depth b_depth (ad_cons (pd_tup (ad_cons pd_str (ad_cons (pd_tup ad_nil) ad_nil))) ad_nil) (len_cons len_nil)) pd_int (nomark _)))))))))
end
end K01
set_option maxHeartbeats 4000000
namespace K01
open PySem PySem.Spec PyProof.Rows L2 FL
theorem digits_body (c b rest : Int) (L : D) (ds : List D) (x5 : En) (hb : 0 < b ∧ b < 1073741824) (hl : ds.length < 1000) :
    ∃ d rest' x5', f_d_law_digits_body1 fuel [.fz (.int c), .fz L, .ow ds, .fz (.int rest), .fz (.int b), x5] = some (.nx [.fz (.int c), .fz L, .ow (ds ++ [.int d]), .fz (.int rest'), .fz (.int b), x5']) ∧ 0 ≤ d ∧ d < b := by
  have hl' : ds.length < 1000000 := by omega
  by_cases hc : (10 : Int) ^ 18 ≤ c
  · refine ⟨rest % b, rest / b, x5, ?_, Int.emod_nonneg _ (by omega), Int.emod_lt_of_pos _ hb.1⟩
    unfold f_d_law_digits_body1
    simp [fIfS, fB, fOp, fVar, gPow, gI, cPow, gIB, asB, fSeq, fApp, fCall, fCons, gInt, gMod, cMod, hb.1, fSet, gDiv, cDiv, hb.2, hl']
    intro h
    exact absurd hc (by omega)
  · refine ⟨(((rest * 48271 + 1009 * (ds.length : Int) + 12345) % 2147483647) * ((rest * 48271 + 1009 * (ds.length : Int) + 12345) % 2147483647) % 2147483629) / 13 % b, (rest * 48271 + 1009 * (ds.length : Int) + 12345) % 2147483647,
      .fz (.int (((rest * 48271 + 1009 * (ds.length : Int) + 12345) % 2147483647) * ((rest * 48271 + 1009 * (ds.length : Int) + 12345) % 2147483647) % 2147483629)), ?_, Int.emod_nonneg _ (by omega), Int.emod_lt_of_pos _ hb.1⟩
    have hr1 : 0 ≤ (rest * 48271 + 1009 * (ds.length : Int) + 12345) % 2147483647 := Int.emod_nonneg _ (by omega)
    have hr2 : (rest * 48271 + 1009 * (ds.length : Int) + 12345) % 2147483647 < 2147483647 := Int.emod_lt_of_pos _ (by omega)
    have hm : cMul ((rest * 48271 + 1009 * (ds.length : Int) + 12345) % 2147483647) ((rest * 48271 + 1009 * (ds.length : Int) + 12345) % 2147483647) = true := by
      generalize (rest * 48271 + 1009 * (ds.length : Int) + 12345) % 2147483647 = z at hr1 hr2 ⊢
      unfold cMul
      rw [decide_eq_true (show -(2 ^ 64) < z ∧ z < 2 ^ 64 by omega)]
      rfl
    have h1 : ∀ x : Int, cMul x 48271 = true := fun x => by
      unfold cMul
      rw [decide_eq_true (show -(2 ^ 64) < (48271 : Int) ∧ (48271 : Int) < 2 ^ 64 by decide), Bool.or_true]
    have h2 : ∀ x : Int, cMul 1009 x = true := fun x => by
      unfold cMul
      rw [decide_eq_true (show -(2 ^ 64) < (1009 : Int) ∧ (1009 : Int) < 2 ^ 64 by decide), Bool.true_or]
    unfold f_d_law_digits_body1
    have hd : ¬ ((1000000000000000000 : Int) ≤ c) := fun h => hc (by omega)
    simp [fIfS, fB, fOp, fVar, gPow, gI, gI0, cPow, gIB, asB, fSeq, fApp, fCall, fCons, gInt, gMod, cMod, hb.1, fSet, gDiv, cDiv, hb.2, hl', h1, h2, hm, fLenO, hd]
theorem digits_ok (c : Int) (bs : List Int) (hb : ∀ b ∈ bs, 0 < b ∧ b < 1073741824) (hn : bs.length < 1000) : ∃ ds : List Int, g_d_law_digits [.int c, .list (bs.map PyData.int)] = some (.list (ds.map PyData.int)) ∧ ds.length = bs.length ∧ ∀ (i : Nat) b d, bs[i]? = some b → ds[i]? = some d → 0 ≤ d ∧ d < b := by
  have go := loop_ix (fg := gN 4) (fb := f_d_law_digits_body1 fuel) (bs.map PyData.int) (fun pre ρ => ∃ (ds : List Int) (rest : Int) (x4 x5 : En), ρ = [.fz (.int c), .fz (.list (bs.map PyData.int)), .ow (ds.map PyData.int), .fz (.int rest), x4, x5] ∧ ds.length = pre.length ∧ (∀ (i : Nat) b d, pre[i]? = some (.int b) → ds[i]? = some d → 0 ≤ d ∧ d < b)) ?_
    (bs.map PyData.int) [] rfl [.fz (.int c), .fz (.list (bs.map PyData.int)), .ow [], .fz (.int c), .no, .no] ⟨[], c, .no, .no, rfl, rfl, fun i b d h => by simp at h⟩
  · obtain ⟨ρ', e1, ds, rest, x4, x5, rfl, h1, h3⟩ := go
    refine ⟨ds, ?_, by rw [h1, List.length_map], fun i b d hi hd => h3 i b d (by rw [List.getElem?_map, hi]; rfl) hd⟩
    unfold g_d_law_digits runF
    rw [if_pos (by rfl)]
    have e0 : f_d_law_digits fuel (startR N_d_law_digits [.int c, .list (bs.map PyData.int)]) = some (.rt (.list (ds.map PyData.int))) := by
      unfold f_d_law_digits
      have s0 : f_d_law_digits_0 fuel (startR N_d_law_digits [.int c, .list (bs.map PyData.int)]) = some (.nx [.fz (.int c), .fz (.list (bs.map PyData.int)), .ow [], .no, .no, .no]) := rfl
      have s1 : f_d_law_digits_1 fuel [.fz (.int c), .fz (.list (bs.map PyData.int)), .ow [], .no, .no, .no] = some (.nx [.fz (.int c), .fz (.list (bs.map PyData.int)), .ow [], .fz (.int c), .no, .no]) := rfl
      have s2 : f_d_law_digits_2 fuel [.fz (.int c), .fz (.list (bs.map PyData.int)), .ow [], .fz (.int c), .no, .no] = some (.nx [.fz (.int c), .fz (.list (bs.map PyData.int)), .ow (ds.map PyData.int), .fz (.int rest), x4, x5]) := e1
      have s3 : fFrz 2 (f_d_law_digits_3 fuel) [.fz (.int c), .fz (.list (bs.map PyData.int)), .ow (ds.map PyData.int), .fz (.int rest), x4, x5] = some (.rt (.list (ds.map PyData.int))) := rfl
      simp only [fSeq, s0, s1, s2, s3, Option.bind_some]
    rw [e0]
    rfl
  · rintro pre d post ρ hall ⟨ds, rest, x4, x5, rfl, h1, h2⟩
    have hdm : d ∈ bs.map PyData.int := by rw [hall]; simp
    obtain ⟨b, hbm, rfl⟩ := List.mem_map.mp hdm
    have hlen : pre.length < bs.length := by
      have := congrArg List.length hall
      simp at this
      omega
    obtain ⟨d, rest', x5', e, d0, d1⟩ := digits_body c b rest (.list (bs.map PyData.int)) (ds.map PyData.int) x5 (hb b hbm) (by rw [List.length_map]; omega)
    refine ⟨_, _, rfl, .inl e, ds ++ [d], rest', .fz (.int b), x5', by rw [List.map_append]; rfl, by rw [List.length_append, List.length_append, h1]; rfl, fun i b' d' hi hd' => ?_⟩
    by_cases hlt : i < pre.length
    · rw [List.getElem?_append_left hlt] at hi
      rw [List.getElem?_append_left (by omega)] at hd'
      exact h2 i b' d' hi hd'
    · rw [List.getElem?_append_right (by omega)] at hi
      rw [List.getElem?_append_right (by omega)] at hd'
      have hi0 : i - pre.length = 0 := by
        have := (List.getElem?_eq_some_iff.mp hi).1
        simp at this
        omega
      rw [hi0] at hi
      rw [h1, hi0] at hd'
      simp at hi hd'
      subst hi hd'
      exact ⟨d0, d1⟩

/-! ### is_value on a stack -/
mutual
def validB : D → Bool
  | .tuple [l, .tuple vs] => isB true (g_is_made_but_for_values [.tuple [l, .tuple vs]]) && validBs vs
  | d => isB false (g_is_made_but_for_values [d]) && (isB true (g_is_constant [d]) || (isB false (g_is_constant [d]) && isB true (g_is_free [d])))
def validBs : List D → Bool
  | [] => true
  | v :: vs => validB v && validBs vs
end
mutual
def nodes : D → Nat
  | .tuple [_, .tuple vs] => 1 + nodess vs
  | _ => 1
def nodess : List D → Nat
  | [] => 0
  | v :: vs => nodes v + nodess vs
end
theorem nodes_pos : ∀ vs : List D, vs.length ≤ nodess vs
  | [] => by simp [nodess]
  | v :: vs => by
    have := nodes_pos vs
    have h1 : 1 ≤ nodes v := by
      unfold nodes
      split <;> omega
    simp only [nodess, List.length_cons]
    omega
abbrev stk (n : Nat) : Ro → Option Out := whileF (fTruO 1) (f_is_value_body1 fuel) n
theorem pop_step (x0 x2 : En) (w : List D) (v : D) (n : Nat) (ρ : Ro) (h : f_is_value_body1 fuel [x0, .ow (w ++ [v]), x2] = some (.nx ρ)) : stk (n + 1) [x0, .ow (w ++ [v]), x2] = stk n ρ := by
  have e : fTruO 1 [x0, .ow (w ++ [v]), x2] = some true := by
    show some (!(w ++ [v]).isEmpty) = some true
    cases w <;> rfl
  show ((fTruO 1 [x0, .ow (w ++ [v]), x2]).bind _) = _
  rw [e, Option.bind_some, if_pos rfl, h, Option.bind_some]
theorem popped (x0 x2 : En) (w : List D) (v : D) : fPop 1 2 [x0, .ow (w ++ [v]), x2] = some (.nx [x0, .ow w, .fz v]) := by
  unfold fPop
  have e : (w ++ [v])[(w ++ [v]).length - 1]? = some v := by
    rw [List.length_append, List.length_singleton]
    simp
  have d : (w ++ [v]).dropLast = w := by simp
  show (((w ++ [v])[(w ++ [v]).length - 1]?).map fun d => Out.nx (([x0, En.ow (w ++ [v]), x2].set 1 (.ow (w ++ [v]).dropLast)).set 2 (.fz d))) = _
  rw [e, d]
  rfl
theorem body_atom (x0 x2 : En) (w : List D) (v : D) (h : g_is_made_but_for_values [v] = some (.bool false)) (k : g_is_constant [v] = some (.bool true) ∨ (g_is_constant [v] = some (.bool false) ∧ g_is_free [v] = some (.bool true))) :
    f_is_value_body1 fuel [x0, .ow (w ++ [v]), x2] = some (.nx [x0, .ow w, .fz v]) := by
  unfold f_is_value_body1
  rcases k with k | ⟨k1, k2⟩
  · simp [fSeq, popped, fIfS, fB, fCall, fCons, fVar, h, k, asB, fAnd, fNot, fNext]
  · simp [fSeq, popped, fIfS, fB, fCall, fCons, fVar, h, k1, k2, asB, fAnd, fNot, fNext]
theorem body_made (x0 x2 : En) (w : List D) (l : D) (vs : List D) (h : g_is_made_but_for_values [.tuple [l, .tuple vs]] = some (.bool true)) (hz : w.length + vs.length ≤ 1000000) :
    f_is_value_body1 fuel [x0, .ow (w ++ [.tuple [l, .tuple vs]]), x2] = some (.nx [x0, .ow (w ++ vs), .fz (.tuple [l, .tuple vs])]) := by
  unfold f_is_value_body1
  have ha : atI [l, PyData.tuple vs] 1 = some (PyData.tuple vs) := rfl
  simp [fSeq, popped, fIfS, fB, fCall, fCons, fVar, h, asB, fExt, fOp, gIx, ha, hz]
mutual
theorem stk_valid : ∀ (d : D), validB d = true → ∀ (x0 x2 : En) (w : List D) (k : Nat), w.length + nodes d ≤ 100000 → ∃ x2', stk (k + nodes d) [x0, .ow (w ++ [d]), x2] = stk k [x0, .ow w, x2']
  | d, h, x0, x2, w, k, hw => by
    unfold validB at h
    split at h
    · rename_i l vs
      rw [Bool.and_eq_true] at h
      have hn : nodes (.tuple [l, .tuple vs]) = 1 + nodess vs := by simp [nodes]
      rw [hn] at hw ⊢
      have hp := nodes_pos vs
      have e := body_made x0 x2 w l vs (isB_eq h.1) (by omega)
      rw [show k + (1 + nodess vs) = (k + nodess vs) + 1 by omega, pop_step _ _ _ _ _ _ e]
      exact stk_valids vs h.2 x0 _ w k (by omega)
    · rename_i hno
      rw [Bool.and_eq_true, Bool.or_eq_true, Bool.and_eq_true] at h
      have hn : nodes d = 1 := by
        unfold nodes
        split
        · exact absurd rfl (hno _ _)
        · rfl
      rw [hn] at hw ⊢
      have e := body_atom x0 x2 w d (isB_eq h.1) (h.2.imp isB_eq fun z => ⟨isB_eq z.1, isB_eq z.2⟩)
      exact ⟨_, pop_step _ _ _ _ _ _ e⟩
termination_by d => sizeOf d
theorem stk_valids : ∀ (vs : List D), validBs vs = true → ∀ (x0 x2 : En) (w : List D) (k : Nat), w.length + nodess vs ≤ 100000 → ∃ x2', stk (k + nodess vs) [x0, .ow (w ++ vs), x2] = stk k [x0, .ow w, x2']
  | [], _, x0, x2, w, k, _ => ⟨x2, by simp [nodess]⟩
  | v :: vs, h, x0, x2, w, k, hw => by
    simp only [validBs, Bool.and_eq_true] at h
    simp only [nodess] at hw ⊢
    have h1 : 1 ≤ nodes v := by
      unfold nodes
      split <;> omega
    obtain ⟨y, e1⟩ := stk_valids vs h.2 x0 x2 (w ++ [v]) (k + nodes v) (by rw [List.length_append, List.length_singleton]; omega)
    obtain ⟨z, e2⟩ := stk_valid v h.1 x0 y w k (by omega)
    refine ⟨z, ?_⟩
    rw [show w ++ v :: vs = (w ++ [v]) ++ vs by rw [List.append_assoc]; rfl, show k + (nodes v + nodess vs) = k + nodes v + nodess vs by omega, e1, e2]
termination_by vs => sizeOf vs
end
theorem is_value_true {v : D} (h : validB v = true) (hn : nodes v ≤ 1000) : g_is_value [v] = some (.bool true) := by
  unfold g_is_value runF
  rw [if_pos (by rfl)]
  obtain ⟨x2', e⟩ := stk_valid v h (.fz v) .no [] (fuel - nodes v) (by simp; omega)
  rw [show fuel - nodes v + nodes v = fuel by show 100000 - nodes v + nodes v = 100000; omega] at e
  have s0 : f_is_value_0 fuel (startR N_is_value [v]) = some (.nx [.fz v, .ow [v], .no]) := rfl
  have s1 : f_is_value_1 fuel [.fz v, .ow [v], .no] = some (.nx [.fz v, .ow [], x2']) := by
    refine Eq.trans e ?_
    rw [show fuel - nodes v = (fuel - nodes v - 1) + 1 by show 100000 - nodes v = 100000 - nodes v - 1 + 1; omega]
    rfl
  have s2 : f_is_value_2 fuel [.fz v, .ow [], x2'] = some (.rt (.bool true)) := rfl
  unfold f_is_value
  simp only [fSeq, s0, s1, s2, Option.bind_some]
  rfl
end K01
set_option maxHeartbeats 4000000
namespace K01
open PySem PySem.Spec PyProof.Rows L2 FL
/-! ### the spoiled ones -/
def BAD : List D := match f_d_law_spoiled_0 fuel [.no, .no, .no] with
  | some (.nx [_, _, .fz (.list l)]) => l
  | _ => []
theorem bad_len : BAD.length = 26 := by kernel_rfl
theorem spoil_0 (v m : En) : f_d_law_spoiled_0 fuel [v, m, .no] = some (.nx [v, m, .fz (.list BAD)]) := by kernel_rfl
def rtFalse : Option Out → Bool
  | some (.rt (.bool b)) => !b
  | _ => false
theorem rtFalse_eq {o : Option Out} (h : rtFalse o = true) : o = some (.rt (.bool false)) := by
  unfold rtFalse at h
  split at h
  · rw [Bool.not_eq_true'] at h; rw [h]
  · cases h
def badOk (x0 x2 : En) (b : D) : Bool := isB false (g_is_value [b]) && (isB false (g_is_constant [b]) && rtFalse (stk 20 [x0, .ow [.tuple [.str "b"], b], x2]))
theorem bad_ok (x0 x2 : En) : (BAD.all (badOk x0 x2)) = true := by kernel_rfl
def wrap (b v : D) : D := .tuple [.str "0.z", .tuple [.tuple [.str "b"], b, v]]
theorem wrap_made (b v : D) : isB true (g_is_made_but_for_values [wrap b v]) = true := by kernel_rfl
theorem wrap_con (b v : D) : isB false (g_is_constant [wrap b v]) = true := by kernel_rfl
theorem wrap_false {b v : D} (hb : b ∈ BAD) (hv : validB v = true) (hn : nodes v ≤ 1000) : g_is_value [wrap b v] = some (.bool false) := by
  unfold g_is_value runF
  rw [if_pos (by rfl)]
  have s0 : f_is_value_0 fuel (startR N_is_value [wrap b v]) = some (.nx [.fz (wrap b v), .ow [wrap b v], .no]) := rfl
  have e1 : f_is_value_body1 fuel [.fz (wrap b v), .ow ([] ++ [wrap b v]), .no] = some (.nx [.fz (wrap b v), .ow ([] ++ [.tuple [.str "b"], b, v]), .fz (wrap b v)]) := body_made _ _ [] _ _ (isB_eq (wrap_made b v)) (by simp)
  have e2 : stk fuel [.fz (wrap b v), .ow [wrap b v], .no] = stk (fuel - 1) [.fz (wrap b v), .ow [.tuple [.str "b"], b, v], .fz (wrap b v)] := pop_step (.fz (wrap b v)) .no [] (wrap b v) (fuel - 1) _ e1
  obtain ⟨y, e3⟩ := stk_valid v hv (.fz (wrap b v)) (.fz (wrap b v)) [.tuple [.str "b"], b] (fuel - 1 - nodes v) (by simp; omega)
  rw [show fuel - 1 - nodes v + nodes v = fuel - 1 by show 100000 - 1 - nodes v + nodes v = 100000 - 1; omega] at e3
  have h := List.all_eq_true.mp (bad_ok (.fz (wrap b v)) y) b hb
  unfold badOk at h
  simp only [Bool.and_eq_true] at h
  have e4 := whileF_more 20 (fuel - 1 - nodes v - 20) _ _ (rtFalse_eq h.2.2)
  rw [show 20 + (fuel - 1 - nodes v - 20) = fuel - 1 - nodes v by show 20 + (100000 - 1 - nodes v - 20) = 100000 - 1 - nodes v; omega] at e4
  have s1 : f_is_value_1 fuel [.fz (wrap b v), .ow [wrap b v], .no] = some (.rt (.bool false)) := e2.trans (e3.trans e4)
  unfold f_is_value
  simp only [fSeq, s0, s1, Option.bind_some]
  rfl
theorem bad_at (i : Int) (h0 : 0 ≤ i) (h1 : i < 26) : ∃ b, b ∈ BAD ∧ atI BAD i = some b := by
  have hl : i.toNat < BAD.length := by rw [bad_len]; omega
  refine ⟨BAD[i.toNat], List.getElem_mem hl, ?_⟩
  unfold atI ixN
  rw [if_pos h0, if_pos (by rw [bad_len]; exact h1)]
  exact List.getElem?_eq_getElem hl
theorem spoil {v : D} (hv : validB v = true) (hn : nodes v ≤ 1000) (m : Int) : ∃ s, g_d_law_spoiled [v, .int m] = some s ∧ g_is_value [s] = some (.bool false) ∧ g_is_constant [s] = some (.bool false) := by
  obtain ⟨b, hb, ha⟩ := bad_at (m / 2 % 26) (Int.emod_nonneg _ (by decide)) (Int.emod_lt_of_pos _ (by decide))
  have hbk := List.all_eq_true.mp (bad_ok .no .no) b hb
  unfold badOk at hbk
  simp only [Bool.and_eq_true] at hbk
  have s0 : f_d_law_spoiled_0 fuel (startR N_d_law_spoiled [v, .int m]) = some (.nx [.fz v, .fz (.int m), .fz (.list BAD)]) := spoil_0 (.fz v) (.fz (.int m))
  by_cases hm : m % 2 = 0
  · refine ⟨b, ?_, isB_eq hbk.1, isB_eq hbk.2.1⟩
    have s1 : f_d_law_spoiled_1 fuel [.fz v, .fz (.int m), .fz (.list BAD)] = some (.rt b) := by
      unfold f_d_law_spoiled_1
      simp [fIfS, fB, fOp, fVar, gMod, gI, cMod, gDiv, cDiv, gEq, hm, asB, fRet, fCall, fCons, gLen, bad_len, gIx, ha, SeqAt.shaped, PyData.canLay0, PyData.depth, PyData.eqv]
    unfold g_d_law_spoiled runF
    rw [if_pos (by rfl)]
    unfold f_d_law_spoiled
    simp only [fSeq, s0, s1, Option.bind_some]
    rfl
  · refine ⟨wrap b v, ?_, wrap_false hb hv hn, isB_eq (wrap_con b v)⟩
    have s1 : f_d_law_spoiled_1 fuel [.fz v, .fz (.int m), .fz (.list BAD)] = some (.nx [.fz v, .fz (.int m), .fz (.list BAD)]) := by
      unfold f_d_law_spoiled_1
      simp [fIfS, fB, fOp, fVar, gMod, gI, cMod, gDiv, cDiv, gEq, hm, asB, fRet, fCall, fCons, gLen, bad_len, gIx, ha, SeqAt.shaped, PyData.canLay0, PyData.depth, PyData.eqv, fNext]
    have s2 : f_d_law_spoiled_2 fuel [.fz v, .fz (.int m), .fz (.list BAD)] = some (.rt (wrap b v)) := by
      unfold f_d_law_spoiled_2
      simp [fIfS, fB, fOp, fVar, gMod, gI, cMod, gDiv, cDiv, fRet, fCall, fCons, gLen, bad_len, gIx, ha, fTup, mkT, wrap]
    unfold g_d_law_spoiled runF
    rw [if_pos (by rfl)]
    unfold f_d_law_spoiled
    simp only [fSeq, s0, s1, s2, Option.bind_some]
    rfl
end K01
set_option maxHeartbeats 4000000
namespace K01
open PySem PySem.Spec PyProof.Rows L2 FL
/-! ### the values that are drawn -/
def restV (c d0 d1 d2 d3 d4 d5 : Int) : Option D := outD (fSeq (f_d_law_value_1 fuel) (fSeq (f_d_law_value_2 fuel) (f_d_law_value_3 fuel)) [.fz (.int c), .fz (.int 4), .fz (.list [.int d0, .int d1, .int d2, .int d3, .int d4, .int d5]), .no, .no, .no, .no])
def plainE : Ro → Option D := fAndV (fOp gEq (fCall gLen (fCons (fVar 3) (fun _ => some []))) (fun _ => some (.int 1))) (fOp gNe (fOp gIx (fOp gIx (fVar 3) (fun _ => some (.int 0))) (fun _ => some (.int 0))) (fun _ => some (.str "?")))
def keyIs (v : D) : D → Bool
  | .tuple [.int _, .int _, w] => FL.same w v
  | _ => false
def keyOk (v : D) : Option D → Bool
  | some x => keyIs v x && (SeqAt.shaped x && gives x (g_d_law_key [v]))
  | none => false
def depOk (v : D) : Option D → Bool
  | some (.int a) => gives (.int a) (g_d_law_depth [v])
  | _ => false
def boolOk : Option D → Option D → Bool
  | some (.bool a), some (.bool b) => a == b
  | _, _ => false
def okV (v : D) : Bool := validB v && (decide (nodes v ≤ 1000) && (isV v && (txt v && (SeqAt.shaped v && (depOk v (g_depth [v]) && (boolOk (g_is_constant [v]) (plainE [.no, .no, .no, .fz v, .no, .no, .no]) && keyOk v (g_value_key [v])))))))
def okO : Option D → Bool
  | some v => okV v
  | none => false
def rg (n : Nat) : List Int := (List.range n).map fun (i : Nat) => (i : Int)
def chkAll (c d4 d0 : Int) : Bool := (rg 4).all fun d1 => (rg 4).all fun d2 => (rg 3).all fun d3 => (rg 3).all fun d5 => okO (restV c d0 d1 d2 d3 d4 d5)
theorem chk0 (c d4 : Int) : chkAll c d4 0 = true := by kernel_rfl
theorem chk1 (c d4 : Int) : chkAll c d4 1 = true := by kernel_rfl
theorem chk2 (c d4 : Int) : chkAll c d4 2 = true := by kernel_rfl
theorem chk3 (c d4 : Int) : chkAll c d4 3 = true := by kernel_rfl
theorem chk4 (c d4 : Int) : chkAll c d4 4 = true := by kernel_rfl
theorem chk5 (c d4 : Int) : chkAll c d4 5 = true := by kernel_rfl
theorem mem_rg {n : Nat} {d : Int} (h0 : 0 ≤ d) (h1 : d < n) : d ∈ rg n := by
  unfold rg
  exact List.mem_map.mpr ⟨d.toNat, List.mem_range.mpr (by omega), by omega⟩
theorem restV_ok (c d0 d1 d2 d3 d4 d5 : Int) (h0 : 0 ≤ d0 ∧ d0 < 6) (h1 : 0 ≤ d1 ∧ d1 < 4) (h2 : 0 ≤ d2 ∧ d2 < 4) (h3 : 0 ≤ d3 ∧ d3 < 3) (h5 : 0 ≤ d5 ∧ d5 < 3) : okO (restV c d0 d1 d2 d3 d4 d5) = true := by
  have key : chkAll c d4 d0 = true := by
    have : d0 = 0 ∨ d0 = 1 ∨ d0 = 2 ∨ d0 = 3 ∨ d0 = 4 ∨ d0 = 5 := by omega
    rcases this with h | h | h | h | h | h <;> rw [h]
    · exact chk0 c d4
    · exact chk1 c d4
    · exact chk2 c d4
    · exact chk3 c d4
    · exact chk4 c d4
    · exact chk5 c d4
  unfold chkAll at key
  have k1 := List.all_eq_true.mp key d1 (mem_rg h1.1 h1.2)
  have k2 := List.all_eq_true.mp k1 d2 (mem_rg h2.1 h2.2)
  have k3 := List.all_eq_true.mp k2 d3 (mem_rg h3.1 h3.2)
  exact List.all_eq_true.mp k3 d5 (mem_rg h5.1 h5.2)
theorem list6 {α : Type} {l : List α} (h : l.length = 6) : ∃ a b c d e f, l = [a, b, c, d, e, f] := by
  match l, h with
  | [a, b, c, d, e, f], _ => exact ⟨a, b, c, d, e, f, rfl⟩
theorem value_ok (c : Int) : ∃ v, g_d_law_value [.int c, .int 4] = some v ∧ okV v = true := by
  obtain ⟨ds, e, hl, hr⟩ := digits_ok c [6, 4, 4, 3, 7, 3] (by decide) (by decide)
  obtain ⟨d0, d1, d2, d3, d4, d5, rfl⟩ := list6 hl
  have ok := restV_ok c d0 d1 d2 d3 d4 d5 (hr 0 _ _ rfl rfl) (hr 1 _ _ rfl rfl) (hr 2 _ _ rfl rfl) (hr 3 _ _ rfl rfl) (hr 5 _ _ rfl rfl)
  cases hv : restV c d0 d1 d2 d3 d4 d5 with
  | none => rw [hv] at ok; cases ok
  | some v =>
    rw [hv] at ok
    refine ⟨v, ?_, ok⟩
    unfold g_d_law_value runF
    rw [if_pos (by rfl)]
    have s0 : f_d_law_value_0 fuel (startR N_d_law_value [.int c, .int 4]) = some (.nx [.fz (.int c), .fz (.int 4), .fz (.list [.int d0, .int d1, .int d2, .int d3, .int d4, .int d5]), .no, .no, .no, .no]) := by
      have e' : g_d_law_digits [.int c, .list [.int 6, .int 4, .int 4, .int 3, .int 7, .int 3]] = some (.list [.int d0, .int d1, .int d2, .int d3, .int d4, .int d5]) := e
      show ((g_d_law_digits [.int c, .list [.int 6, .int 4, .int 4, .int 3, .int 7, .int 3]]).map fun d => Out.nx ([En.fz (.int c), .fz (.int 4), .no, .no, .no, .no, .no].set 2 (.fz d))) = _
      rw [e']
      rfl
    unfold f_d_law_value
    show outD (fSeq (f_d_law_value_0 fuel) _ _) = _
    unfold fSeq
    rw [s0, Option.bind_some]
    exact hv
end K01
set_option maxHeartbeats 4000000
namespace K01
open PySem PySem.Spec PyProof.Rows L2 FL
/-- what a drawn value keeps -/
structure GoodV (v : D) : Prop where
  val : g_is_value [v] = some (.bool true)
  spl : ∀ m : Int, ∃ s, g_d_law_spoiled [v, .int m] = some s ∧ g_is_value [s] = some (.bool false) ∧ g_is_constant [s] = some (.bool false)
  dep : ∃ n : Int, g_depth [v] = some (.int n) ∧ g_d_law_depth [v] = some (.int n)
  con : ∃ b : Bool, g_is_constant [v] = some (.bool b) ∧ ∀ x0 x1 x2 x4 x5 x6, plainE [x0, x1, x2, .fz v, x4, x5, x6] = some (.bool b)
  key : ∃ d p : Int, g_value_key [v] = some (.tuple [.int d, .int p, v]) ∧ g_d_law_key [v] = some (.tuple [.int d, .int p, v]) ∧ SeqAt.shaped (.tuple [.int d, .int p, v]) = true
  isv : isV v = true
  tx : txt v = true
  sh : SeqAt.shaped v = true
theorem goodV {v : D} (h : okV v = true) : GoodV v := by
  unfold okV at h
  simp only [Bool.and_eq_true, decide_eq_true_eq] at h
  obtain ⟨h1, h2, h3, h4, h5, h6, h7, h8⟩ := h
  refine ⟨is_value_true h1 h2, spoil h1 h2, ?_, ?_, ?_, h3, h4, h5⟩
  · unfold depOk at h6
    split at h6
    · rename_i a e
      exact ⟨a, e, gives_eq h6⟩
    · cases h6
  · unfold boolOk at h7
    split at h7
    · rename_i a b e1 e2
      rw [beq_iff_eq] at h7
      subst h7
      exact ⟨a, e1, fun _ _ _ _ _ _ => e2⟩
    · cases h7
  · unfold keyOk at h8
    split at h8
    · rename_i x e
      simp only [Bool.and_eq_true] at h8
      obtain ⟨k1, k2, k3⟩ := h8
      unfold keyIs at k1
      split at k1
      · rename_i d p w
        have := same_eq _ _ k1
        subst this
        exact ⟨d, p, e, gives_eq k3, k2⟩
      · cases k1
    · cases h8
/-! ### cells -/
theorem cell_ok (ns : List Int) (k : Nat) : ∃ z : Int, g_d_law_cell [.list (ns.map PyData.int), .int k] = some (.int z) := by
  have hlen : (ns.map PyData.int).length = ns.length := List.length_map ..
  unfold g_d_law_cell runF
  rw [if_pos (by rfl)]
  by_cases h : k < ns.length
  · refine ⟨ns[k], ?_⟩
    have ha : atI (ns.map PyData.int) (k : Int) = some (.int ns[k]) := by
      unfold atI ixN
      rw [if_pos (by omega), if_pos (by rw [hlen]; omega)]
      simp [h]
    have s0 : f_d_law_cell_0 fuel [.fz (.list (ns.map PyData.int)), .fz (.int k)] = some (.rt (.int ns[k])) := by
      unfold f_d_law_cell_0
      simp [fIfS, fB, fOp, fVar, gIB, fCall, fCons, gLen, asB, fRet, gInt, gIx, ha, h]
    show outD (fSeq (f_d_law_cell_0 fuel) (f_d_law_cell_1 fuel) [.fz (.list (ns.map PyData.int)), .fz (.int k)]) = _
    unfold fSeq
    rw [s0]
    rfl
  · refine ⟨0, ?_⟩
    have s0 : f_d_law_cell_0 fuel [.fz (.list (ns.map PyData.int)), .fz (.int k)] = some (.nx [.fz (.list (ns.map PyData.int)), .fz (.int k)]) := by
      unfold f_d_law_cell_0
      simp [fIfS, fB, fOp, fVar, gIB, fCall, fCons, gLen, asB, fRet, gInt, gIx, h, fNext]
    show outD (fSeq (f_d_law_cell_0 fuel) (f_d_law_cell_1 fuel) [.fz (.list (ns.map PyData.int)), .fz (.int k)]) = _
    unfold fSeq
    rw [s0]
    rfl
/-! ### the inner loop's turn -/
theorem lt_keys {v u : D} {d p d' p' : Int} (hv : isV v = true) (hu : isV u = true) (s : SeqAt.shaped (.tuple [.int d, .int p, v]) = true) : ∃ b, gLt (.tuple [.int d, .int p, v]) (.tuple [.int d', .int p', u]) = some (.bool b) := by
  refine ⟨PySem.W.dataLt (.tuple [.int d, .int p, v]) (.tuple [.int d', .int p', u]), ?_⟩
  have al : PySem.W.alike (.tuple [.int d, .int p, v]) (.tuple [.int d', .int p', u]) = true := by
    simp [PySem.W.alike, PySem.W.alikeAll, alike_V v u hv hu]
  unfold gLt
  exact if_pos ⟨al, rfl, SeqAt.depth_of_shaped s⟩
theorem ne_bools (b : Bool) : gNe (.bool b) (.bool b) = some (.bool false) := by cases b <;> rfl
theorem ne_ints (n : Int) : gNe (.int n) (.int n) = some (.bool false) := by
  have e : PyData.eqv (.int n) (.int n) = true := by simp [PyData.eqv]
  unfold gNe
  rw [if_pos ⟨rfl, rfl⟩, e]
  rfl
theorem eq_keys {v u : D} {d p d' p' : Int} (hk : g_value_key [v] = some (.tuple [.int d, .int p, v])) (hk' : g_value_key [u] = some (.tuple [.int d', .int p', u])) (tv : txt v = true) (tu : txt u = true) :
    PyData.eqv (.tuple [.int d, .int p, v]) (.tuple [.int d', .int p', u]) = PyData.eqv v u := by
  cases h : PyData.eqv v u with
  | true =>
    have e := eqv_txt v u tv tu h
    subst e
    rw [hk] at hk'
    cases hk'
    simp [PyData.eqv, PyData.eqvAll, h]
  | false => simp [PyData.eqv, PyData.eqvAll, h]
theorem inner {v u : D} (gv : GoodV v) (gu : GoodV u) (x0 x1 x2 x4 x5 : En) : f_law_body1 fuel [x0, x1, x2, .fz v, x4, x5, .fz u] = some (.nx [x0, x1, x2, .fz v, x4, x5, .fz u]) := by
  obtain ⟨d, p, k1, k2, k3⟩ := gv.key
  obtain ⟨d', p', k1', k2', k3'⟩ := gu.key
  obtain ⟨b, hb⟩ := lt_keys (d := d) (p := p) (d' := d') (p' := p') gv.isv gu.isv k3
  have he : gEq (.tuple [.int d, .int p, v]) (.tuple [.int d', .int p', u]) = some (.bool (PyData.eqv v u)) := by
    unfold gEq
    rw [if_pos ⟨k3, k3'⟩, eq_keys k1 k1' gv.tx gu.tx]
  have he2 : gEq v u = some (.bool (PyData.eqv v u)) := by
    unfold gEq
    rw [if_pos ⟨gv.sh, gu.sh⟩]
  unfold f_law_body1
  simp [fSeq, fIfS, fB, fOp, fCall, fCons, fVar, k1, k2, k1', k2', hb, he, he2, ne_bools, asB, fNext]
/-! ### the outer loop's turn -/
theorem outer (ns : List Int) (vs : List D) (hg : ∀ v ∈ vs, GoodV v) (hl : vs.length ≤ 1000) (k : Nat) (hk : k < vs.length) (b c d e : En) : ∃ x3 x4 x5 x6, f_law_body2 fuel [.fz (.list (ns.map PyData.int)), .fz (.list vs), .fz (.int k), b, c, d, e] = some (.nx [.fz (.list (ns.map PyData.int)), .fz (.list vs), .fz (.int k), x3, x4, x5, x6]) := by
  have gv := hg vs[k] (List.getElem_mem hk)
  generalize hv : vs[k] = v at gv
  have ha : atI vs (k : Int) = some v := by
    unfold atI ixN
    rw [if_pos (by omega), if_pos (by omega)]
    simp [hk, hv]
  obtain ⟨n, e1, e2⟩ := gv.dep
  obtain ⟨cb, e3, e4⟩ := gv.con
  obtain ⟨z, e5⟩ := cell_ok ns k
  obtain ⟨s, e6, e7, e8⟩ := gv.spl (z + 3 * k)
  have e9 : g_d_law_other [.bool cb, .bool cb] = some (.bool false) := by cases cb <;> kernel_rfl
  have hm : cMul 3 (k : Int) = true := by
    unfold cMul
    rw [decide_eq_true (show -(2 ^ 64) < (3 : Int) ∧ (3 : Int) < 2 ^ 64 by decide), Bool.true_or]
  have go := loop_inv (fg := gN 6) (fb := f_law_body1 fuel) (fun ρ => ∃ x6, ρ = [.fz (.list (ns.map PyData.int)), .fz (.list vs), .fz (.int k), .fz v, .fz (.bool cb), .fz s, x6]) vs
    (fun u hu ρ ⟨x6, hρ⟩ => ⟨[.fz (.list (ns.map PyData.int)), .fz (.list vs), .fz (.int k), .fz v, .fz (.bool cb), .fz s, .fz u], _, by rw [hρ]; rfl, .inl (inner gv (hg u hu) _ _ _ _ _), .fz u, rfl⟩)
    [.fz (.list (ns.map PyData.int)), .fz (.list vs), .fz (.int k), .fz v, .fz (.bool cb), .fz s, e] ⟨e, rfl⟩
  obtain ⟨ρ', e10, x6, rfl⟩ := go
  refine ⟨.fz v, .fz (.bool cb), .fz s, x6, ?_⟩
  have p4 := e4 (.fz (.list (ns.map PyData.int))) (.fz (.list vs)) (.fz (.int k)) c d e
  unfold plainE at p4
  unfold f_law_body2
  have t1 : fSet 3 (fOp gIx (fVar 1) (fVar 2)) [.fz (.list (ns.map PyData.int)), .fz (.list vs), .fz (.int k), b, c, d, e] = some (.nx [.fz (.list (ns.map PyData.int)), .fz (.list vs), .fz (.int k), .fz v, c, d, e]) := by
    simp [fSet, fOp, fVar, gIx, ha]
  have tt : gIsNot (.bool true) (.bool true) = some (.bool false) := rfl
  have tf : gIsNot (.bool false) (.bool false) = some (.bool false) := rfl
  have t2 : fIfS (fOr (fB (fOp gIsNot (fCall g_is_value (fCons (fVar 3) (fun _ => some []))) (fun _ => some (.bool true)))) (fB (fOp gNe (fCall g_depth (fCons (fVar 3) (fun _ => some []))) (fCall g_d_law_depth (fCons (fVar 3) (fun _ => some [])))))) (fRet (fun _ => some (.bool false))) fNext [.fz (.list (ns.map PyData.int)), .fz (.list vs), .fz (.int k), .fz v, c, d, e] = some (.nx [.fz (.list (ns.map PyData.int)), .fz (.list vs), .fz (.int k), .fz v, c, d, e]) := by
    simp [fIfS, fOr, fB, fOp, fCall, fCons, fVar, gv.val, tt, e1, e2, ne_ints, asB, fNext]
  have t3 : fSet 4 (fAndV (fOp gEq (fCall gLen (fCons (fVar 3) (fun _ => some []))) (fun _ => some (.int 1))) (fOp gNe (fOp gIx (fOp gIx (fVar 3) (fun _ => some (.int 0))) (fun _ => some (.int 0))) (fun _ => some (.str "?")))) [.fz (.list (ns.map PyData.int)), .fz (.list vs), .fz (.int k), .fz v, c, d, e] = some (.nx [.fz (.list (ns.map PyData.int)), .fz (.list vs), .fz (.int k), .fz v, .fz (.bool cb), d, e]) := by
    unfold fSet
    rw [p4]
    rfl
  have t4 : fIfS (fB (fCall g_d_law_other (fCons (fCall g_is_constant (fCons (fVar 3) (fun _ => some []))) (fCons (fVar 4) (fun _ => some []))))) (fRet (fun _ => some (.bool false))) fNext [.fz (.list (ns.map PyData.int)), .fz (.list vs), .fz (.int k), .fz v, .fz (.bool cb), d, e] = some (.nx [.fz (.list (ns.map PyData.int)), .fz (.list vs), .fz (.int k), .fz v, .fz (.bool cb), d, e]) := by
    simp [fIfS, fB, fCall, fCons, fVar, e3, e9, asB, fNext]
  have t5 : fSet 5 (fCall g_d_law_spoiled (fCons (fVar 3) (fCons (fOp gAdd (fCall gInt (fCons (fCall g_d_law_cell (fCons (fVar 0) (fCons (fVar 2) (fun _ => some [])))) (fun _ => some []))) (fOp gMul (fun _ => some (.int 3)) (fVar 2))) (fun _ => some [])))) [.fz (.list (ns.map PyData.int)), .fz (.list vs), .fz (.int k), .fz v, .fz (.bool cb), d, e] = some (.nx [.fz (.list (ns.map PyData.int)), .fz (.list vs), .fz (.int k), .fz v, .fz (.bool cb), .fz s, e]) := by
    simp [fSet, fOp, fCall, fCons, fVar, e5, gInt, gI0, gI, hm, e6]
  have t6 : fIfS (fOr (fB (fOp gIsNot (fCall g_is_value (fCons (fVar 5) (fun _ => some []))) (fun _ => some (.bool false)))) (fB (fOp gIsNot (fCall g_is_constant (fCons (fVar 5) (fun _ => some []))) (fun _ => some (.bool false))))) (fRet (fun _ => some (.bool false))) fNext [.fz (.list (ns.map PyData.int)), .fz (.list vs), .fz (.int k), .fz v, .fz (.bool cb), .fz s, e] = some (.nx [.fz (.list (ns.map PyData.int)), .fz (.list vs), .fz (.int k), .fz v, .fz (.bool cb), .fz s, e]) := by
    simp [fIfS, fOr, fB, fOp, fCall, fCons, fVar, e7, e8, tf, asB, fNext]
  have t7 : fFor (fSq seqL (fVar 1)) (gN 6) (f_law_body1 fuel) [.fz (.list (ns.map PyData.int)), .fz (.list vs), .fz (.int k), .fz v, .fz (.bool cb), .fz s, e] = some (.nx [.fz (.list (ns.map PyData.int)), .fz (.list vs), .fz (.int k), .fz v, .fz (.bool cb), .fz s, x6]) := e10
  simp only [fSeq, t1, t2, t3, t4, t5, t6, t7, Option.bind_some]
theorem fin (x0 x1 x2 x3 x4 x5 x6 : En) : f_law_2 fuel [x0, x1, x2, x3, x4, x5, x6] = some (.rt (.bool true)) := by kernel_rfl
/-! ### the law -/
abbrev scr (ns : List Int) : D := .list (ns.map PyData.int)
theorem rng0 (ns : List Int) (hn : ns.length ≤ 63) : ∃ m : Nat, m ≤ 11 ∧ fRng (fCons (fOp gAdd (fun _ => some (.int 1)) (fCall gMin2 (fCons (fCall gLen (fCons (fVar 0) (fun _ => some []))) (fCons (fun _ => some (.int 10)) (fun _ => some []))))) (fun _ => some [])) (startR N_law [scr ns]) = some (rngN m) := by
  have e : fVar 0 (startR N_law [scr ns]) = some (scr ns) := rfl
  by_cases h10 : (10 : Int) < (ns.length : Int)
  · refine ⟨11, by omega, fRng_of ?_ (by omega)⟩
    simp [fCons, fOp, fCall, e, gLen, gMin2, gI0, h10]
  · refine ⟨1 + ns.length, by omega, fRng_of ?_ (by omega)⟩
    simp [fCons, fOp, fCall, e, gLen, gMin2, gI0, h10]
theorem turn0 (ns : List Int) (m : Nat) : ∀ x ∈ rngN m, ∃ ρ1 d, gN 2 x (wipeR (startR N_law [scr ns]) [2]) = some ρ1 ∧ fYes ρ1 = some true ∧ fCall g_d_law_value (fCons (fOp gAdd (fCall g_d_law_cell (fCons (fVar 0) (fCons (fVar 2) (fun _ => some [])))) (fVar 2)) (fCons (fun _ => some (.int 4)) (fun _ => some []))) ρ1 = some d ∧ GoodV d := by
  intro x hx
  unfold rngN at hx
  obtain ⟨k, hk, rfl⟩ := List.mem_map.mp hx
  obtain ⟨z, e5⟩ := cell_ok ns k
  obtain ⟨v, e6, ok⟩ := value_ok (z + k)
  refine ⟨_, v, rfl, rfl, ?_, goodV ok⟩
  have a0 : fVar 0 ((wipeR (startR N_law [scr ns]) [2]).set 2 (.fz (.int k))) = some (scr ns) := rfl
  have a2 : fVar 2 ((wipeR (startR N_law [scr ns]) [2]).set 2 (.fz (.int k))) = some (.int k) := rfl
  simp [fCall, fCons, fOp, a0, a2, e5, gI0, e6]
theorem start0 (ns : List Int) (hn : ns.length ≤ 63) : ∃ vs, vs.length ≤ 11 ∧ (∀ v ∈ vs, GoodV v) ∧ f_law_0 fuel (startR N_law [scr ns]) = some (.nx [.fz (scr ns), .ow vs, .no, .no, .no, .no, .no]) := by
  obtain ⟨m, hm1, hm2⟩ := rng0 ns hn
  have hml : (rngN (m : Int)).length = m := by unfold rngN; simp
  obtain ⟨vs, e1, l1, g1⟩ := lc_all GoodV (rngN m) [] (turn0 ns m) (by rw [hml]; simp; omega)
  rw [hml] at l1
  rw [List.nil_append] at e1
  refine ⟨vs, by omega, g1, ?_⟩
  unfold f_law_0 fSetO fLc
  rw [hm2, Option.bind_some, e1]
  rfl
theorem loop0 (ns : List Int) (vs : List D) (g1 : ∀ v ∈ vs, GoodV v) (hl : vs.length ≤ 11) : ∃ x2 x3 x4 x5 x6, f_law_1 fuel [.fz (scr ns), .fz (.list vs), .no, .no, .no, .no, .no] = some (.nx [.fz (scr ns), .fz (.list vs), x2, x3, x4, x5, x6]) := by
  have go := loop_inv (fg := gN 2) (fb := f_law_body2 fuel) (fun ρ => ∃ x2 x3 x4 x5 x6, ρ = [.fz (scr ns), .fz (.list vs), x2, x3, x4, x5, x6]) (rngN vs.length)
    (fun u hu ρ ⟨x2, x3, x4, x5, x6, hρ⟩ => by
      unfold rngN at hu
      obtain ⟨k, hk, rfl⟩ := List.mem_map.mp hu
      have hk2 : k < vs.length := by
        have := List.mem_range.mp hk
        simpa using this
      obtain ⟨y3, y4, y5, y6, e⟩ := outer ns vs g1 (by omega) k hk2 x3 x4 x5 x6
      exact ⟨[.fz (scr ns), .fz (.list vs), .fz (.int k), x3, x4, x5, x6], _, by rw [hρ]; rfl, .inl e, _, _, _, _, _, rfl⟩)
    [.fz (scr ns), .fz (.list vs), .no, .no, .no, .no, .no] ⟨_, _, _, _, _, rfl⟩
  obtain ⟨ρ', e2, x2, x3, x4, x5, x6, rfl⟩ := go
  refine ⟨x2, x3, x4, x5, x6, ?_⟩
  have hr : fRng (fCons (fCall gLen (fCons (fVar 1) (fun _ => some []))) (fun _ => some [])) [.fz (scr ns), .fz (.list vs), .no, .no, .no, .no, .no] = some (rngN vs.length) := by
    refine fRng_of ?_ (by omega)
    simp [fCons, fCall, fVar, gLen]
  unfold f_law_1 fFor
  rw [hr, Option.bind_some]
  exact e2
theorem law_true (ns : List Int) (hn : ns.length ≤ 63) : g_law [scr ns] = some (.bool true) := by
  obtain ⟨vs, hl, g1, s0⟩ := start0 ns hn
  obtain ⟨x2, x3, x4, x5, x6, s1⟩ := loop0 ns vs g1 hl
  have f1 := fin (.fz (scr ns)) (.fz (.list vs)) x2 x3 x4 x5 x6
  have s12 := (fSeq_nx (h := f_law_2 fuel) s1).trans f1
  have s13 : fFrz 1 (fSeq (f_law_1 fuel) (f_law_2 fuel)) [.fz (scr ns), .ow vs, .no, .no, .no, .no, .no] = some (.rt (.bool true)) := (fFrz_ow (ds := vs) rfl).trans s12
  have s14 := (fSeq_nx (h := fFrz 1 (fSeq (f_law_1 fuel) (f_law_2 fuel))) s0).trans s13
  exact runF_of rfl s14
end K01
set_option maxHeartbeats 0
namespace K01
open PySem PySem.Spec PyProof.Rows L2 FL
def dd_is_name : He.DefD := ⟨("is_name", none), "is_name", "is_name", defArgs s_is_name, defBody s_is_name, defScope s_is_name, [], []⟩
def dd_is_variable : He.DefD := ⟨("is_variable", none), "is_variable", "is_variable", defArgs s_is_variable, defBody s_is_variable, defScope s_is_variable, [], []⟩
def dd_is_constant : He.DefD := ⟨("is_constant", none), "is_constant", "is_constant", defArgs s_is_constant, defBody s_is_constant, defScope s_is_constant, [], []⟩
def dd_is_free : He.DefD := ⟨("is_free", none), "is_free", "is_free", defArgs s_is_free, defBody s_is_free, defScope s_is_free, [], []⟩
def dd_is_rule_number : He.DefD := ⟨("is_rule_number", none), "is_rule_number", "is_rule_number", defArgs s_is_rule_number, defBody s_is_rule_number, defScope s_is_rule_number, [], []⟩
def dd_is_label : He.DefD := ⟨("is_label", none), "is_label", "is_label", defArgs s_is_label, defBody s_is_label, defScope s_is_label, [], []⟩
def dd_is_made_but_for_values : He.DefD := ⟨("is_made_but_for_values", none), "is_made_but_for_values", "is_made_but_for_values", defArgs s_is_made_but_for_values, defBody s_is_made_but_for_values, defScope s_is_made_but_for_values, [], []⟩
def dd_is_value : He.DefD := ⟨("is_value", none), "is_value", "is_value", defArgs s_is_value, defBody s_is_value, defScope s_is_value, [], []⟩
def dd_made_ones : He.DefD := ⟨("made_ones", none), "made_ones", "made_ones", defArgs s_made_ones, defBody s_made_ones, defScope s_made_ones, [], []⟩
def dd_depth : He.DefD := ⟨("depth", none), "depth", "depth", defArgs s_depth, defBody s_depth, defScope s_depth, [], []⟩
def dd_value_key : He.DefD := ⟨("value_key", none), "value_key", "value_key", defArgs s_value_key, defBody s_value_key, defScope s_value_key, [], []⟩
def dd_made : He.DefD := ⟨("made", none), "made", "made", defArgs s_made, defBody s_made, defScope s_made, [], []⟩
def dd_d_law_cell : He.DefD := ⟨("_law_cell", none), "_law_cell", "_law_cell", defArgs s_d_law_cell, defBody s_d_law_cell, defScope s_d_law_cell, [], []⟩
def dd_d_law_digits : He.DefD := ⟨("_law_digits", none), "_law_digits", "_law_digits", defArgs s_d_law_digits, defBody s_d_law_digits, defScope s_d_law_digits, [], []⟩
def dd_d_law_value : He.DefD := ⟨("_law_value", none), "_law_value", "_law_value", defArgs s_d_law_value, defBody s_d_law_value, defScope s_d_law_value, [], []⟩
def dd_d_law_depth : He.DefD := ⟨("_law_depth", none), "_law_depth", "_law_depth", defArgs s_d_law_depth, defBody s_d_law_depth, defScope s_d_law_depth, [], []⟩
def dd_d_law_spoiled : He.DefD := ⟨("_law_spoiled", none), "_law_spoiled", "_law_spoiled", defArgs s_d_law_spoiled, defBody s_d_law_spoiled, defScope s_d_law_spoiled, [], []⟩
def dd_d_law_key : He.DefD := ⟨("_law_key", none), "_law_key", "_law_key", defArgs s_d_law_key, defBody s_d_law_key, defScope s_d_law_key, [], []⟩
def dd_d_law_other : He.DefD := ⟨("_law_other", none), "_law_other", "_law_other", defArgs s_d_law_other, defBody s_d_law_other, defScope s_d_law_other, [], []⟩
def dd_law : He.DefD := ⟨("law", none), "law", "law", defArgs s_law, defBody s_law, defScope s_law, [], []⟩
def fn : List He.DefD := [dd_is_name, dd_is_variable, dd_is_constant, dd_is_free, dd_is_rule_number, dd_is_label, dd_is_made_but_for_values, dd_is_value, dd_made_ones, dd_depth, dd_value_key, dd_made, dd_d_law_cell, dd_d_law_digits, dd_d_law_value, dd_d_law_depth, dd_d_law_spoiled, dd_d_law_key, dd_d_law_other, dd_law]
def fa : List He.Fa := [.glo "is_name", .glo "is_variable", .glo "is_constant", .glo "is_free", .glo "is_rule_number", .glo "is_label", .glo "is_made_but_for_values", .glo "is_value", .glo "made_ones", .glo "depth", .glo "value_key", .glo "made", .glo "_law_cell", .glo "_law_digits", .glo "_law_value", .glo "_law_depth", .glo "_law_spoiled", .glo "_law_key", .glo "_law_other", .glo "law", .free "all", .free "bool", .free "int", .free "isinstance", .free "len", .free "max", .free "min", .free "range", .free "str", .free "tuple", .str "DIGITS" "0123456789", .str "LETTERS" "abcdefghijklmnopqrstuvwxyz", .int "LONGEST_NAME" 8, .str "SIGNS" "abcdefghijklmnopqrstuvwxyz0123456789"]
def tf : List He.Defn := [("is_name", none), ("is_rule_number", none)]
def exT : PySem.W.Frag → Bool := fun _ => true
abbrev R : PySem.W.OpenRow := PySem.W.OpenLaw.row PySem.Challenge.rw_everytarget_k01_values_and_depths
abbrev hk : PySem.W.Hook := He.hookX 4 fa fn [] tf exT
def ob (s : PySem.W.SharedT) : He.AlX := He.obsX 4 fa fn [] tf exT (HandSHeadRun.getT s)
theorem ob_eq (s : PySem.W.SharedT) : ob s = hk.obs s.abs := He.obsX_eq (HandSHeadRun.getT_eq s)
def lo0 : List Str := ["LETTERS", "DIGITS", "SIGNS", "LONGEST_NAME", "is_name", "is_variable", "is_constant", "is_free", "is_rule_number", "is_label", "is_made_but_for_values", "is_value", "made_ones", "depth", "value_key", "made", "_law_cell", "_law_digits", "_law_value", "_law_depth", "_law_spoiled", "_law_key", "_law_other"]
abbrev lo : List Str := lo0
theorem run (w : World) : HandSHeadRun.RunEq R (PySem.W.view R.prog [25]) hk ob 4000 lo w := by
  intro os
  kernel_rfl
def Ps (K : PySem.W.Frag) : List Addr := [(He.cT K ("is_name", none)).2, (He.cT K ("is_rule_number", none)).2]
theorem tr0 : TriplesOk (#[] : Array Value).toList := True.intro
theorem gT {base : Heap} {mg : Str → Option Value} {c P : Addr} (t : LamX.TabB base mg c P) : GxR.TabB base mg c P := ⟨t.code, t.bm, t.gP⟩
theorem glo {K : PySem.W.Frag} {h : Heap} {mg : Str → Option Value} {w : World} (X : K.In h) (G : h.Ns mainGlobals mg) (c : He.SaysX fa fn [] tf exT w h K) (i : Nat) {x : Str} (hi : fa[i]? = some (.glo x) := by rfl) : mg x = some (.ref (He.fAd K (x, none))) := He.glo_ok X G (c.t.d.fact i hi)
theorem fre {K : PySem.W.Frag} {h : Heap} {mg : Str → Option Value} {w : World} (X : K.In h) (G : h.Ns mainGlobals mg) (c : He.SaysX fa fn [] tf exT w h K) (i : Nat) {x : Str} (hi : fa[i]? = some (.free x) := by rfl) : mg x = none := He.free_ok X G (c.t.d.fact i hi)
theorem all_ok {P : Program} {w : World} {K : PySem.W.Frag} {mg : Str → Option Value} {h base : Heap} (X : K.In h) (G : h.Ns mainGlobals mg) (c : He.SaysX fa fn [] tf exT w h K) (TB : ∀ p ∈ tf.map (He.cT K), LamX.TabB base mg p.1 p.2) :
    ∃ fd : FuncData, FnP K "law" s_law (He.fAd K ("law", none)) fd ∧ FnOk P w K mg base CX0 10 (He.fAd K ("law", none)) fd ["script"] (spD K (Ps K) 1 g_law) := by
  obtain ⟨t_DIGITS, h_DIGITS⟩ := He.str_ok X G (c.t.d.fact 30 (f := .str "DIGITS" "0123456789") rfl)
  obtain ⟨t_LETTERS, h_LETTERS⟩ := He.str_ok X G (c.t.d.fact 31 (f := .str "LETTERS" "abcdefghijklmnopqrstuvwxyz") rfl)
  obtain ⟨t_LONGEST_NAME, h_LONGEST_NAME⟩ := He.int_ok X G (c.t.d.fact 32 (f := .int "LONGEST_NAME" 8) rfl)
  obtain ⟨t_SIGNS, h_SIGNS⟩ := He.str_ok X G (c.t.d.fact 33 (f := .str "SIGNS" "abcdefghijklmnopqrstuvwxyz0123456789") rfl)
  have T : Txt mg t_DIGITS t_LETTERS t_LONGEST_NAME t_SIGNS := ⟨fre X G c 20, fre X G c 21, fre X G c 22, fre X G c 23, fre X G c 24, fre X G c 25, fre X G c 26, fre X G c 27, fre X G c 28, fre X G c 29, h_DIGITS, h_LETTERS, h_LONGEST_NAME, h_SIGNS⟩
  obtain ⟨fd_is_name, F_is_name⟩ := c.t.d.def_ 0 (d := dd_is_name) rfl
  have F_is_name : FnP K "is_name" s_is_name (He.fAd K ("is_name", none)) fd_is_name := F_is_name
  have bi_is_name : Binds K fd_is_name ["value"] [] := F_is_name.bindsN fun _ _ _ _ _ _ us hl => match us, hl with | [_], _ => rfl
  have C_is_name : Cal P w K mg base (Ps K) "is_name" ["value"] 1 1 g_is_name := ⟨_, _, ok_is_name T F_is_name (by unfold Ps; simp) (gT (TB _ (List.mem_map.mpr ⟨("is_name", none), by unfold tf; simp, rfl⟩))) hg_run, glo X G c 0, F_is_name.kp, bi_is_name⟩
  obtain ⟨fd_is_variable, F_is_variable⟩ := c.t.d.def_ 1 (d := dd_is_variable) rfl
  have F_is_variable : FnP K "is_variable" s_is_variable (He.fAd K ("is_variable", none)) fd_is_variable := F_is_variable
  have bi_is_variable : Binds K fd_is_variable ["value"] [] := F_is_variable.bindsN fun _ _ _ _ _ _ us hl => match us, hl with | [_], _ => rfl
  have C_is_variable : Cal P w K mg base (Ps K) "is_variable" ["value"] 2 1 g_is_variable := ⟨_, _, ok_is_variable T F_is_variable C_is_name hg_run, glo X G c 1, F_is_variable.kp, bi_is_variable⟩
  obtain ⟨fd_is_constant, F_is_constant⟩ := c.t.d.def_ 2 (d := dd_is_constant) rfl
  have F_is_constant : FnP K "is_constant" s_is_constant (He.fAd K ("is_constant", none)) fd_is_constant := F_is_constant
  have bi_is_constant : Binds K fd_is_constant ["value"] [] := F_is_constant.bindsN fun _ _ _ _ _ _ us hl => match us, hl with | [_], _ => rfl
  have C_is_constant : Cal P w K mg base (Ps K) "is_constant" ["value"] 2 1 g_is_constant := ⟨_, _, ok_is_constant T F_is_constant C_is_name hg_run, glo X G c 2, F_is_constant.kp, bi_is_constant⟩
  obtain ⟨fd_is_free, F_is_free⟩ := c.t.d.def_ 3 (d := dd_is_free) rfl
  have F_is_free : FnP K "is_free" s_is_free (He.fAd K ("is_free", none)) fd_is_free := F_is_free
  have bi_is_free : Binds K fd_is_free ["value"] [] := F_is_free.bindsN fun _ _ _ _ _ _ us hl => match us, hl with | [_], _ => rfl
  have C_is_free : Cal P w K mg base (Ps K) "is_free" ["value"] 2 1 g_is_free := ⟨_, _, ok_is_free T F_is_free C_is_name hg_run, glo X G c 3, F_is_free.kp, bi_is_free⟩
  obtain ⟨fd_is_rule_number, F_is_rule_number⟩ := c.t.d.def_ 4 (d := dd_is_rule_number) rfl
  have F_is_rule_number : FnP K "is_rule_number" s_is_rule_number (He.fAd K ("is_rule_number", none)) fd_is_rule_number := F_is_rule_number
  have bi_is_rule_number : Binds K fd_is_rule_number ["text"] [] := F_is_rule_number.bindsN fun _ _ _ _ _ _ us hl => match us, hl with | [_], _ => rfl
  have C_is_rule_number : Cal P w K mg base (Ps K) "is_rule_number" ["text"] 1 1 g_is_rule_number := ⟨_, _, ok_is_rule_number T F_is_rule_number (by unfold Ps; simp) (gT (TB _ (List.mem_map.mpr ⟨("is_rule_number", none), by unfold tf; simp, rfl⟩))) hg_run, glo X G c 4, F_is_rule_number.kp, bi_is_rule_number⟩
  obtain ⟨fd_is_label, F_is_label⟩ := c.t.d.def_ 5 (d := dd_is_label) rfl
  have F_is_label : FnP K "is_label" s_is_label (He.fAd K ("is_label", none)) fd_is_label := F_is_label
  have bi_is_label : Binds K fd_is_label ["value"] [] := F_is_label.bindsN fun _ _ _ _ _ _ us hl => match us, hl with | [_], _ => rfl
  have C_is_label : Cal P w K mg base (Ps K) "is_label" ["value"] 3 1 g_is_label := ⟨_, _, ok_is_label T F_is_label C_is_variable C_is_rule_number hg_run, glo X G c 5, F_is_label.kp, bi_is_label⟩
  obtain ⟨fd_is_made_but_for_values, F_is_made_but_for_values⟩ := c.t.d.def_ 6 (d := dd_is_made_but_for_values) rfl
  have F_is_made_but_for_values : FnP K "is_made_but_for_values" s_is_made_but_for_values (He.fAd K ("is_made_but_for_values", none)) fd_is_made_but_for_values := F_is_made_but_for_values
  have bi_is_made_but_for_values : Binds K fd_is_made_but_for_values ["value"] [] := F_is_made_but_for_values.bindsN fun _ _ _ _ _ _ us hl => match us, hl with | [_], _ => rfl
  have C_is_made_but_for_values : Cal P w K mg base (Ps K) "is_made_but_for_values" ["value"] 4 1 g_is_made_but_for_values := ⟨_, _, ok_is_made_but_for_values T F_is_made_but_for_values C_is_label hg_run, glo X G c 6, F_is_made_but_for_values.kp, bi_is_made_but_for_values⟩
  obtain ⟨fd_is_value, F_is_value⟩ := c.t.d.def_ 7 (d := dd_is_value) rfl
  have F_is_value : FnP K "is_value" s_is_value (He.fAd K ("is_value", none)) fd_is_value := F_is_value
  have bi_is_value : Binds K fd_is_value ["value"] [] := F_is_value.bindsN fun _ _ _ _ _ _ us hl => match us, hl with | [_], _ => rfl
  have C_is_value : Cal P w K mg base (Ps K) "is_value" ["value"] 5 1 g_is_value := ⟨_, _, ok_is_value T F_is_value C_is_made_but_for_values C_is_free C_is_constant hg_run, glo X G c 7, F_is_value.kp, bi_is_value⟩
  obtain ⟨fd_made_ones, F_made_ones⟩ := c.t.d.def_ 8 (d := dd_made_ones) rfl
  have F_made_ones : FnP K "made_ones" s_made_ones (He.fAd K ("made_ones", none)) fd_made_ones := F_made_ones
  have bi_made_ones : Binds K fd_made_ones ["values"] [] := F_made_ones.bindsN fun _ _ _ _ _ _ us hl => match us, hl with | [_], _ => rfl
  have C_made_ones : Cal P w K mg base (Ps K) "made_ones" ["values"] 1 1 g_made_ones := ⟨_, _, ok_made_ones T F_made_ones hg_run, glo X G c 8, F_made_ones.kp, bi_made_ones⟩
  obtain ⟨fd_depth, F_depth⟩ := c.t.d.def_ 9 (d := dd_depth) rfl
  have F_depth : FnP K "depth" s_depth (He.fAd K ("depth", none)) fd_depth := F_depth
  have bi_depth : Binds K fd_depth ["value"] [] := F_depth.bindsN fun _ _ _ _ _ _ us hl => match us, hl with | [_], _ => rfl
  have C_depth : Cal P w K mg base (Ps K) "depth" ["value"] 2 1 g_depth := ⟨_, _, ok_depth T F_depth C_made_ones hg_run, glo X G c 9, F_depth.kp, bi_depth⟩
  obtain ⟨fd_value_key, F_value_key⟩ := c.t.d.def_ 10 (d := dd_value_key) rfl
  have F_value_key : FnP K "value_key" s_value_key (He.fAd K ("value_key", none)) fd_value_key := F_value_key
  have bi_value_key : Binds K fd_value_key ["value"] [] := F_value_key.bindsN fun _ _ _ _ _ _ us hl => match us, hl with | [_], _ => rfl
  have C_value_key : Cal P w K mg base (Ps K) "value_key" ["value"] 3 1 g_value_key := ⟨_, _, ok_value_key T F_value_key C_depth C_is_constant hg_run, glo X G c 10, F_value_key.kp, bi_value_key⟩
  obtain ⟨fd_made, F_made⟩ := c.t.d.def_ 11 (d := dd_made) rfl
  have F_made : FnP K "made" s_made (He.fAd K ("made", none)) fd_made := F_made
  have bi_made : Binds K fd_made ["rule", "variable", "values"] [] := F_made.bindsN fun _ _ _ _ _ _ us hl => match us, hl with | [_, _, _], _ => rfl
  have C_made : Cal P w K mg base (Ps K) "made" ["rule", "variable", "values"] 1 3 g_made := ⟨_, _, ok_made T F_made hg_run, glo X G c 11, F_made.kp, bi_made⟩
  obtain ⟨fd_d_law_cell, F_d_law_cell⟩ := c.t.d.def_ 12 (d := dd_d_law_cell) rfl
  have F_d_law_cell : FnP K "_law_cell" s_d_law_cell (He.fAd K ("_law_cell", none)) fd_d_law_cell := F_d_law_cell
  have bi_d_law_cell : Binds K fd_d_law_cell ["script", "k"] [] := F_d_law_cell.bindsN fun _ _ _ _ _ _ us hl => match us, hl with | [_, _], _ => rfl
  have C_d_law_cell : Cal P w K mg base (Ps K) "_law_cell" ["script", "k"] 1 2 g_d_law_cell := ⟨_, _, ok_d_law_cell T F_d_law_cell hg_run, glo X G c 12, F_d_law_cell.kp, bi_d_law_cell⟩
  obtain ⟨fd_d_law_digits, F_d_law_digits⟩ := c.t.d.def_ 13 (d := dd_d_law_digits) rfl
  have F_d_law_digits : FnP K "_law_digits" s_d_law_digits (He.fAd K ("_law_digits", none)) fd_d_law_digits := F_d_law_digits
  have bi_d_law_digits : Binds K fd_d_law_digits ["cell", "bases"] [] := F_d_law_digits.bindsN fun _ _ _ _ _ _ us hl => match us, hl with | [_, _], _ => rfl
  have C_d_law_digits : Cal P w K mg base (Ps K) "_law_digits" ["cell", "bases"] 1 2 g_d_law_digits := ⟨_, _, ok_d_law_digits T F_d_law_digits hg_run, glo X G c 13, F_d_law_digits.kp, bi_d_law_digits⟩
  obtain ⟨fd_d_law_value, F_d_law_value⟩ := c.t.d.def_ 14 (d := dd_d_law_value) rfl
  have F_d_law_value : FnP K "_law_value" s_d_law_value (He.fAd K ("_law_value", none)) fd_d_law_value := F_d_law_value
  have bi_d_law_value : Binds K fd_d_law_value ["cell", "most"] [] := F_d_law_value.bindsN fun _ _ _ _ _ _ us hl => match us, hl with | [_, _], _ => rfl
  have C_d_law_value : Cal P w K mg base (Ps K) "_law_value" ["cell", "most"] 2 2 g_d_law_value := ⟨_, _, ok_d_law_value T F_d_law_value C_d_law_digits hg_run, glo X G c 14, F_d_law_value.kp, bi_d_law_value⟩
  obtain ⟨fd_d_law_depth, F_d_law_depth⟩ := c.t.d.def_ 15 (d := dd_d_law_depth) rfl
  have F_d_law_depth : FnP K "_law_depth" s_d_law_depth (He.fAd K ("_law_depth", none)) fd_d_law_depth := F_d_law_depth
  have bi_d_law_depth : Binds K fd_d_law_depth ["value"] [] := F_d_law_depth.bindsN fun _ _ _ _ _ _ us hl => match us, hl with | [_], _ => rfl
  have G_d_law_depth : ∀ j, FnOk P w K mg base CX0 (j + 0) (He.fAd K ("_law_depth", none)) fd_d_law_depth ["value"] (spD K (Ps K) 1 (g_d_law_depth_at j)) := fun j => by
    induction j with
    | zero => exact ⟨fun vs H Q E h => h.1, fun A outer s H args us vs Q E hr e0 hb rv h => by
        obtain ⟨_, _, _, _, _, _, e, _⟩ := h
        cases e⟩
    | succ j ih => exact ok_d_law_depth_step T F_d_law_depth (gj := g_d_law_depth_at j) ⟨_, _, ih, glo X G c 15, F_d_law_depth.kp, bi_d_law_depth⟩ hg_run
  have C_d_law_depth : Cal P w K mg base (Ps K) "_law_depth" ["value"] 8 1 g_d_law_depth := ⟨_, _, G_d_law_depth 8, glo X G c 15, F_d_law_depth.kp, bi_d_law_depth⟩
  obtain ⟨fd_d_law_spoiled, F_d_law_spoiled⟩ := c.t.d.def_ 16 (d := dd_d_law_spoiled) rfl
  have F_d_law_spoiled : FnP K "_law_spoiled" s_d_law_spoiled (He.fAd K ("_law_spoiled", none)) fd_d_law_spoiled := F_d_law_spoiled
  have bi_d_law_spoiled : Binds K fd_d_law_spoiled ["value", "digit"] [] := F_d_law_spoiled.bindsN fun _ _ _ _ _ _ us hl => match us, hl with | [_, _], _ => rfl
  have C_d_law_spoiled : Cal P w K mg base (Ps K) "_law_spoiled" ["value", "digit"] 1 2 g_d_law_spoiled := ⟨_, _, ok_d_law_spoiled T F_d_law_spoiled hg_run, glo X G c 16, F_d_law_spoiled.kp, bi_d_law_spoiled⟩
  obtain ⟨fd_d_law_key, F_d_law_key⟩ := c.t.d.def_ 17 (d := dd_d_law_key) rfl
  have F_d_law_key : FnP K "_law_key" s_d_law_key (He.fAd K ("_law_key", none)) fd_d_law_key := F_d_law_key
  have bi_d_law_key : Binds K fd_d_law_key ["value"] [] := F_d_law_key.bindsN fun _ _ _ _ _ _ us hl => match us, hl with | [_], _ => rfl
  have C_d_law_key : Cal P w K mg base (Ps K) "_law_key" ["value"] 9 1 g_d_law_key := ⟨_, _, ok_d_law_key T F_d_law_key C_d_law_depth hg_run, glo X G c 17, F_d_law_key.kp, bi_d_law_key⟩
  obtain ⟨fd_d_law_other, F_d_law_other⟩ := c.t.d.def_ 18 (d := dd_d_law_other) rfl
  have F_d_law_other : FnP K "_law_other" s_d_law_other (He.fAd K ("_law_other", none)) fd_d_law_other := F_d_law_other
  have bi_d_law_other : Binds K fd_d_law_other ["told", "due"] [] := F_d_law_other.bindsN fun _ _ _ _ _ _ us hl => match us, hl with | [_, _], _ => rfl
  have C_d_law_other : Cal P w K mg base (Ps K) "_law_other" ["told", "due"] 1 2 g_d_law_other := ⟨_, _, ok_d_law_other T F_d_law_other hg_run, glo X G c 18, F_d_law_other.kp, bi_d_law_other⟩
  obtain ⟨fd_law, F_law⟩ := c.t.d.def_ 19 (d := dd_law) rfl
  have F_law : FnP K "law" s_law (He.fAd K ("law", none)) fd_law := F_law
  have bi_law : Binds K fd_law ["script"] [] := F_law.bindsN fun _ _ _ _ _ _ us hl => match us, hl with | [_], _ => rfl
  exact ⟨fd_law, F_law, ok_law T F_law C_d_law_value C_d_law_cell C_depth C_d_law_depth C_is_value C_d_law_other C_is_constant C_d_law_spoiled C_value_key C_d_law_key C_made hg_run⟩
theorem start_law {K : PySem.W.Frag} {H : Hp} {a : Addr} {ns : List Int} (hn : ns.length ≤ 63) (hT : ∀ p ∈ tf.map (He.cT K), H p.2 = some (.tbl #[])) (hS : SqL K H a (ns.map V.int)) : spD K (Ps K) 1 g_law [.ref a] H (fun v _ => v = .bl true) fun _ _ _ => False := by
  have hP : ∀ p ∈ Ps K, H p = some (.tbl #[]) := fun p hp => by
    have e : Ps K = (tf.map (He.cT K)).map (·.2) := rfl
    rw [e] at hp
    obtain ⟨q, hq, rfl⟩ := List.mem_map.mp hp
    exact hT q hq
  refine ⟨rfl, fun b => if b ∈ Ps K then none else H b, [.list (ns.map PyData.int)], .bool true, ⟨fun b o e => ?_, Same.refl _, fun _ h => .inl h, fun _ _ e _ => e, fun p hp => ⟨#[], hP p hp, tr0⟩, fun p hp => if_pos hp⟩, .cons (.lst (xs := ns.map V.int) ?_ (dpAll_ints ns)) .nil, law_true ns hn, fun v F' H' _ dv => by cases dv; rfl⟩
  · by_cases hb : b ∈ Ps K
    · rw [if_pos hb] at e; cases e
    · rw [if_neg hb] at e; exact e
  · rcases hS with (h | ⟨o, h⟩) | h
    · have nb : a ∉ Ps K := fun z => by rw [hP a z] at h; cases h
      exact .inl (.inl ((if_neg nb).trans h))
    · have nb : a ∉ Ps K := fun z => by rw [hP a z] at h; cases h
      exact .inl (.inr ⟨o, (if_neg nb).trans h⟩)
    · exact .inr h
theorem room_law : Room 10 callerA := ⟨rfl, by decide, by decide⟩
end K01
open PySem PySem.W PySem.Calls PyProof.Rows
theorem PySem.Challenge.cw_everytarget_k01_values_and_depths_holds : PySem.Challenge.rw_everytarget_k01_values_and_depths.Holds := by
  w_on; o_law
  refine HandSHeadRun.head_any (r := K01.R) (q := view (K01.R).prog [25]) (H := K01.hk) (ob := K01.ob) (M := 4000) (loose := K01.lo) (d := HandSHeadRun.topDef (K01.R).prog 25) (kwd := []) K01.ob_eq
    (by kernel_rfl) (fun s => by kernel_rfl) K01.run (by kernel_rfl) (by kernel_rfl) (by kernel_rfl) (by rfl) (by first | assumption | decide +kernel) (by decide +kernel) ⟨rfl, rfl, rfl, rfl, rfl, by decide +kernel⟩ ?hw ?hc
  case hw => w_witness2
  case hc =>
    refine LamX.walk_ofTsE (l := PySem.Challenge.rw_everytarget_k01_values_and_depths) (n := 63) (k := 10) (x := "script") (CX := fun _ => L2.CX0) rfl (by decide) (by kernel_rfl) K01.room_law ?F (fun _ _ _ _ _ z => z)
    intro w mg fa h Y G hmg0
    obtain ⟨K, KX, c⟩ := Y
    have hmg : mg ("law" : PySem.Str) = some (.ref fa) := by
      have e : (HandSHeadRun.topDef (K01.R).prog 25).name = ("law" : PySem.Str) := by kernel_rfl
      rw [← e]
      exact hmg0
    have hfa : fa = He.fAd K ("law", none) := by
      have e := hmg.symm.trans (K01.glo KX G c 19)
      cases e
      rfl
    refine ⟨K, KX, ?_⟩
    obtain ⟨fd, FL0⟩ := c.t.d.def_ 19 (d := K01.dd_law) rfl
    have fdu : ∀ {P : Program} {base : Heap}, (∀ p ∈ K01.tf.map (He.cT K), LamX.TabB base mg p.1 p.2) → L2.FnOk P w K mg base L2.CX0 10 fa fd ["script"] (FL.spD K (K01.Ps K) 1 K01.g_law) := fun {P base} TB => by
      obtain ⟨fd', F', ok⟩ := K01.all_ok (P := P) (base := base) KX G c TB
      have e : fd' = fd := by
        obtain ⟨_, _, _, _, _, _, _, _, _, _, e1, l1, _⟩ := F'.ex
        obtain ⟨_, _, _, _, _, _, _, _, _, _, e2, l2, _⟩ := FL0.ex
        have l3 := l1.symm.trans l2
        cases l3
        rfl
      rw [hfa, ← e]
      exact ok
    refine ⟨fd, K01.tf.map (He.cT K), FL.spD K (K01.Ps K) 1 K01.g_law, fun p hp => ?_, fun p hp => ?_, fun p hp => ?_, fun s u => ?_, fun H a ns hl _ hT hS => K01.start_law hl hT hS, fun base _ _ TB => fdu TB⟩
    · obtain ⟨q, hq, rfl⟩ := List.mem_map.mp hp
      exact c.empty q hq
    · obtain ⟨q, hq, rfl⟩ := List.mem_map.mp hp
      exact c.out q hq
    · obtain ⟨q, hq, rfl⟩ := List.mem_map.mp hp
      exact PySem.W.codeHd_of_K KX (c.hd q hq)
    · exact L2.FunD.bindsA (ps := ["script"]) FL0 (fun _ _ _ _ _ _ us hl => match us, hl with | [_], _ => rfl) s [u] rfl
