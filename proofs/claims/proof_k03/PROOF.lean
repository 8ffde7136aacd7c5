import PyProof.Rows.All
import Wide.All
import OpenK.AllK
import Wide.FinOn
import HandS.ForMost
import HandS.AnyAll
import HandS.IsInst
import HandS.FStr
import HandS.Wide
import HandS.EndTab
import KE.DatumOrd
import HandS.Style
import HandS.TupAny
import HandS.Codes
import HandS.HeadHook4
import HandS.HeadWalk
import HandS.Head2
import HandS.Defaults
import HandS.GenOver
import HandS.GenList
import HandS.TupMul
import HandS.Conv
import HandS.RaiseMore
import PySem.Challenge.RW_everytarget_k03_questions
set_option Elab.async false
set_option maxRecDepth 100000
set_option linter.all false
set_option maxHeartbeats 4000000
/-! FL1: a def's body as a function of data: the state, expressions, statements. -/
namespace FL
open PySem PySem.Spec PyProof.Rows L2

abbrev D := PyData
/-- what an object that one slot alone holds is -/
inductive Ob where
  | lst (ds : List D)
  | dct (kvs : List (D × D))
/-- what is known of a slot: nothing, a datum that never changes, an object that the slot alone holds -/
inductive En where
  | no
  | fz (d : D)
  | own (o : Ob)
abbrev En.ow (ds : List D) : En := .own (.lst ds)
abbrev En.od (kvs : List (D × D)) : En := .own (.dct kvs)

/-! ### data, dicts among them -/
def kD : Key → D
  | .inl i => .int i
  | .inr x => .str x
mutual
inductive Dp (K : PySem.W.Frag) (G : Hp) : V → D → Prop
  | non : Dp K G .non .none
  | bl (b : Bool) : Dp K G (.bl b) (.bool b)
  | int (i : Int) : Dp K G (.int i) (.int i)
  | str (x : Str) : Dp K G (.str x) (.str x)
  | lst {a : Addr} {xs : List V} {ds : List D} (h : SqL K G a xs) (k : DpAll K G xs ds) : Dp K G (.ref a) (.list ds)
  | tup {a : Addr} {xs : List V} {ds : List D} (h : SqT K G a xs) (k : DpAll K G xs ds) : Dp K G (.ref a) (.tuple ds)
  | dct {a : Addr} {kvs : List (Key × V)} {ps : List (D × D)} (h : Rd G a (.dK kvs)) (k : DpKV K G kvs ps) : Dp K G (.ref a) (.dict ps)
inductive DpAll (K : PySem.W.Frag) (G : Hp) : List V → List D → Prop
  | nil : DpAll K G [] []
  | cons {v : V} {vs : List V} {d : D} {ds : List D} (h : Dp K G v d) (k : DpAll K G vs ds) : DpAll K G (v :: vs) (d :: ds)
inductive DpKV (K : PySem.W.Frag) (G : Hp) : List (Key × V) → List (D × D) → Prop
  | nil : DpKV K G [] []
  | cons {x : Key} {v : V} {vs : List (Key × V)} {d : D} {ds : List (D × D)} (h : Dp K G v d) (k : DpKV K G vs ds) : DpKV K G ((x, v) :: vs) ((kD x, d) :: ds)
end
theorem rd_mono {H H' : Hp} (e : Same H H') {a : Addr} {u : HO} (h : Rd H a u) : Rd H' a u := by
  rcases h with h | ⟨o, h⟩
  · exact .inl (e _ _ h)
  · exact .inr ⟨o, e _ _ h⟩
mutual
theorem dp_mono' {K : PySem.W.Frag} {H H' : Hp} (e : Same H H') : ∀ {v : V} {d : D}, Dp K H v d → Dp K H' v d
  | _, _, .non => .non
  | _, _, .bl b => .bl b
  | _, _, .int i => .int i
  | _, _, .str x => .str x
  | _, _, .lst h k => .lst (e.seq h) (dpAll_mono' e k)
  | _, _, .tup h k => .tup (by
      rcases h with (h | ⟨o, h⟩) | h
      · exact .inl (.inl (e _ _ h))
      · exact .inl (.inr ⟨o, e _ _ h⟩)
      · exact .inr h) (dpAll_mono' e k)
  | _, _, .dct h k => .dct (rd_mono e h) (dpKV_mono' e k)
theorem dpAll_mono' {K : PySem.W.Frag} {H H' : Hp} (e : Same H H') : ∀ {vs : List V} {ds : List D}, DpAll K H vs ds → DpAll K H' vs ds
  | _, _, .nil => .nil
  | _, _, .cons h k => .cons (dp_mono' e h) (dpAll_mono' e k)
theorem dpKV_mono' {K : PySem.W.Frag} {H H' : Hp} (e : Same H H') : ∀ {vs : List (Key × V)} {ds : List (D × D)}, DpKV K H vs ds → DpKV K H' vs ds
  | _, _, .nil => .nil
  | _, _, .cons h k => .cons (dp_mono' e h) (dpKV_mono' e k)
end
theorem dp_mono {K : PySem.W.Frag} {H H' : Hp} (e : Same H H') (d : D) (v : V) (h : Dp K H v d) : Dp K H' v d := dp_mono' e h
theorem dpAll_mono {K : PySem.W.Frag} {H H' : Hp} (e : Same H H') (ds : List D) (vs : List V) (h : DpAll K H vs ds) : DpAll K H' vs ds := dpAll_mono' e h
/-- an object and what is told of it -/
inductive ObR (K : PySem.W.Frag) (H : Hp) : HO → Ob → Prop
  | lst {vs : List V} {ds : List D} (h : DpAll K H vs ds) : ObR K H (.lst vs) (.lst ds)
  | dct {vs : List (Key × V)} {ds : List (D × D)} (h : DpKV K H vs ds) : ObR K H (.dK vs) (.dct ds)
theorem ObR.mono {K : PySem.W.Frag} {H H' : Hp} (e : Same H H') {u : HO} {o : Ob} (h : ObR K H u o) : ObR K H' u o := by
  cases h with
  | lst h => exact .lst (dpAll_mono' e h)
  | dct h => exact .dct (dpKV_mono' e h)
/-- no table, no lasting object -/
theorem ObR.loose {K : PySem.W.Frag} {H : Hp} {u : HO} {o : Ob} (h : ObR K H u o) : ∀ ps, u ≠ .tbl ps := by
  cases h <;> intro ps z <;> cases z
theorem dpAll_len {K : PySem.W.Frag} {H : Hp} : ∀ {ds : List D} {vs : List V}, DpAll K H vs ds → vs.length = ds.length
  | [], _, h => by cases h; rfl
  | _ :: _, _, h => by
    cases h with
    | cons h1 h2 => simp [dpAll_len h2]
theorem dpAll_get {K : PySem.W.Frag} {H : Hp} : ∀ {ds : List D} {vs : List V} {i : Nat} {v : V}, DpAll K H vs ds → vs[i]? = some v → ∃ d, ds[i]? = some d ∧ Dp K H v d
  | [], _, i, v, h, e => by cases h; simp at e
  | _ :: _, _, 0, v, h, e => by
    cases h with
    | cons h1 h2 => simp at e; subst e; exact ⟨_, rfl, h1⟩
  | _ :: _, _, i + 1, v, h, e => by
    cases h with
    | cons h1 h2 =>
      obtain ⟨d, a, b⟩ := dpAll_get (i := i) h2 (by simpa using e)
      exact ⟨d, by simpa using a, b⟩
theorem dpAll_get' {K : PySem.W.Frag} {H : Hp} {ds : List D} {vs : List V} {i : Nat} {d : D} (h : DpAll K H vs ds) (e : ds[i]? = some d) : ∃ v, vs[i]? = some v ∧ Dp K H v d := by
  have hl := dpAll_len h
  have hi : i < vs.length := by
    have := (List.getElem?_eq_some_iff.mp e).1
    omega
  obtain ⟨d', a, b⟩ := dpAll_get h (List.getElem?_eq_getElem hi)
  rw [e] at a
  cases a
  exact ⟨_, List.getElem?_eq_getElem hi, b⟩
theorem dpAll_app {K : PySem.W.Frag} {H : Hp} : ∀ {ds es : List D} {vs ws : List V}, DpAll K H vs ds → DpAll K H ws es → DpAll K H (vs ++ ws) (ds ++ es)
  | [], _, _, _, h, k => by cases h; exact k
  | _ :: _, _, _, _, h, k => by
    cases h with
    | cons h1 h2 => exact .cons h1 (dpAll_app h2 k)

/-! ### the state -/
/-- F, the frozen part; H, all that is tracked; F0, H0: the same at the entry; Ps: the tables -/
structure Ok (Ps : List Addr) (F0 H0 F H : Hp) : Prop where
  sub : Same F H
  grow : Same F0 F
  new : ∀ a, F a ≠ none → F0 a ≠ none ∨ H0 a = none
  ext : ∀ a o, H0 a = some o → a ∉ Ps → H a = some o
  tab : ∀ p ∈ Ps, GxR.TabG H p
  fno : ∀ p ∈ Ps, F p = none
theorem Ok.refl {Ps F0 H0 F H} (h : Ok Ps F0 H0 F H) : Ok Ps F H F H := ⟨h.sub, Same.refl _, fun _ h => .inl h, fun _ _ e _ => e, h.tab, h.fno⟩
theorem Ok.trans {Ps F0 H0 F1 H1 F2 H2} (a : Ok Ps F0 H0 F1 H1) (b : Ok Ps F1 H1 F2 H2) : Ok Ps F0 H0 F2 H2 where
  sub := b.sub
  grow := a.grow.trans b.grow
  new := fun x h => by
    rcases b.new x h with h | h
    · exact a.new x h
    · refine .inr ?_
      cases q : H0 x with
      | none => rfl
      | some o =>
        by_cases hp : x ∈ Ps
        · obtain ⟨ps, e, _⟩ := a.tab x hp
          rw [h] at e
          cases e
        · rw [a.ext x o q hp] at h
          cases h
  ext := fun x o e hp => b.ext x o (a.ext x o e hp) hp
  tab := b.tab
  fno := b.fno
/-- a new object, frozen at once -/
theorem Ok.new_fz {Ps F0 H0 F H} (h : Ok Ps F0 H0 F H) {p : Addr} (hp : H p = none) (o : HO) : Ok Ps F H (upd F p o) (upd H p o) where
  sub := fun a u e => by
    by_cases q : a = p
    · subst q; rw [upd_same] at e ⊢; exact e
    · rw [upd_ne q] at e ⊢; exact h.sub a u e
  grow := fun a u e => by
    have q : a ≠ p := fun z => by subst z; rw [h.sub a u e] at hp; cases hp
    rw [upd_ne q]; exact e
  new := fun a e => by
    by_cases q : a = p
    · subst q; exact .inr hp
    · rw [upd_ne q] at e; exact .inl e
  ext := fun a u e _ => by
    have q : a ≠ p := fun z => by subst z; rw [e] at hp; cases hp
    rw [upd_ne q]; exact e
  tab := fun q hq => by
    obtain ⟨ps, e, t⟩ := h.tab q hq
    exact ⟨ps, by rw [upd_ne (ne_of_none e hp)]; exact e, t⟩
  fno := fun q hq => by
    obtain ⟨ps, e, t⟩ := h.tab q hq
    rw [upd_ne (ne_of_none e hp)]; exact h.fno q hq
/-- a new object, not frozen -/
theorem Ok.new_ow {Ps F0 H0 F H} (h : Ok Ps F0 H0 F H) {p : Addr} (hp : H p = none) (o : HO) : Ok Ps F H F (upd H p o) where
  sub := fun a u e => by
    have q : a ≠ p := fun z => by subst z; rw [h.sub a u e] at hp; cases hp
    rw [upd_ne q]; exact h.sub a u e
  grow := Same.refl _
  new := fun a e => .inl e
  ext := fun a u e _ => by
    have q : a ≠ p := fun z => by subst z; rw [e] at hp; cases hp
    rw [upd_ne q]; exact e
  tab := fun q hq => by
    obtain ⟨ps, e, t⟩ := h.tab q hq
    exact ⟨ps, by rw [upd_ne (ne_of_none e hp)]; exact e, t⟩
  fno := h.fno
theorem fno_new {Ps F0 H0 F H} (h : Ok Ps F0 H0 F H) {p : Addr} (hp : H p = none) : F p = none := h.sub.free hp

/-- an object that neither the entry nor the frozen part knows is changed -/
theorem Ok.mutW {Ps F0 H0 F H} (h : Ok Ps F0 H0 F H) {a : Addr} {u u' : HO} (h0 : H0 a = none) (f0 : F a = none) (e : H a = some u) (nt : ∀ ps, u ≠ .tbl ps) : Ok Ps F0 H0 F (upd H a u') where
  sub := fun b o q => by
    have z : b ≠ a := fun z => by subst z; rw [f0] at q; cases q
    rw [upd_ne z]; exact h.sub b o q
  grow := h.grow
  new := h.new
  ext := fun b o q hp => by
    have z : b ≠ a := fun z => by subst z; rw [h0] at q; cases q
    rw [upd_ne z]; exact h.ext b o q hp
  tab := fun p hp => by
    obtain ⟨ps, e3, t⟩ := h.tab p hp
    refine ⟨ps, ?_, t⟩
    have z : p ≠ a := fun z => by
      subst z
      rw [e] at e3
      exact nt ps (Option.some.inj e3)
    rw [upd_ne z]; exact e3
  fno := h.fno
theorem Ok.mut {Ps F0 H0 F H} (h : Ok Ps F0 H0 F H) {a : Addr} {xs ys : List V} (h0 : H0 a = none) (f0 : F a = none) (e : H a = some (.lst xs)) : Ok Ps F0 H0 F (upd H a (.lst ys)) := h.mutW h0 f0 e fun _ z => by cases z
/-- what is not known at the entry and not frozen stays so -/
theorem Ok.keepW {Ps F0 H0 F H F' H'} (h : Ok Ps F0 H0 F H) (m : Ok Ps F H F' H') {a : Addr} {u : HO} (f0 : F a = none) (e : H a = some u) (nt : ∀ ps, u ≠ .tbl ps) : F' a = none ∧ H' a = some u := by
  refine ⟨?_, m.ext a _ e fun hp => ?_⟩
  · cases q : F' a with
    | none => rfl
    | some o =>
      rcases m.new a (by rw [q]; simp) with z | z
      · exact absurd f0 z
      · rw [e] at z; cases z
  · obtain ⟨ps, e3, _⟩ := h.tab a hp
    rw [e] at e3
    exact nt ps (Option.some.inj e3)
theorem Ok.keepO {Ps F0 H0 F H F' H'} (h : Ok Ps F0 H0 F H) (m : Ok Ps F H F' H') {a : Addr} {xs : List V} (f0 : F a = none) (e : H a = some (.lst xs)) : F' a = none ∧ H' a = some (.lst xs) := h.keepW m f0 e fun _ z => by cases z

def SlotOk (K : PySem.W.Frag) (H0 F H : Hp) (s : Option V) : En → Prop
  | .no => True
  | .fz d => ∃ v, s = some v ∧ Dp K F v d
  | .own w => ∃ a u, s = some (.ref a) ∧ H0 a = none ∧ F a = none ∧ H a = some u ∧ ObR K F u w

structure EnvOk (K : PySem.W.Frag) (Ps : List Addr) (F0 H0 F H : Hp) (σ : L2.St) (ρ : List En) : Prop where
  ok : Ok Ps F0 H0 F H
  len : σ.length = ρ.length
  slot : ∀ (i : Nat) s e, σ[i]? = some s → ρ[i]? = some e → SlotOk K H0 F H s e
  dis : ∀ (i j : Nat) ds es a, ρ[i]? = some (.own ds) → ρ[j]? = some (.own es) → σ[i]? = some (some (.ref a)) → σ[j]? = some (some (.ref a)) → i = j
section
variable {K : PySem.W.Frag} {Ps : List Addr} {F0 H0 F H F' H' : Hp} {σ : L2.St} {ρ : List En}
theorem EnvOk.move (h : EnvOk K Ps F0 H0 F H σ ρ) (m : Ok Ps F H F' H') : EnvOk K Ps F0 H0 F' H' σ ρ where
  ok := h.ok.trans m
  len := h.len
  dis := h.dis
  slot := fun i s e hs he => by
    have q := h.slot i s e hs he
    cases e with
    | no => exact True.intro
    | fz d =>
      obtain ⟨v, e1, d1⟩ := q
      exact ⟨v, e1, dp_mono m.grow d v d1⟩
    | own w =>
      obtain ⟨a, u, e1, h0, f0, e2, d1⟩ := q
      obtain ⟨f1, e3⟩ := h.ok.keepW m f0 e2 d1.loose
      exact ⟨a, u, e1, h0, f1, e3, d1.mono m.grow⟩
theorem EnvOk.get (h : EnvOk K Ps F0 H0 F H σ ρ) {i : Nat} {d : D} (e : ρ[i]? = some (.fz d)) : ∃ v, σ[i]? = some (some v) ∧ Dp K F v d := by
  have hi : i < σ.length := by rw [h.len]; exact (List.getElem?_eq_some_iff.mp e).1
  obtain ⟨v, e1, d1⟩ := h.slot i _ _ (List.getElem?_eq_getElem hi) e
  exact ⟨v, by rw [List.getElem?_eq_getElem hi, e1], d1⟩
theorem EnvOk.getW (h : EnvOk K Ps F0 H0 F H σ ρ) {i : Nat} {w : Ob} (e : ρ[i]? = some (.own w)) : ∃ a u, σ[i]? = some (some (.ref a)) ∧ H0 a = none ∧ F a = none ∧ H a = some u ∧ ObR K F u w := by
  have hi : i < σ.length := by rw [h.len]; exact (List.getElem?_eq_some_iff.mp e).1
  obtain ⟨a, u, e1, r⟩ := h.slot i _ _ (List.getElem?_eq_getElem hi) e
  exact ⟨a, u, by rw [List.getElem?_eq_getElem hi, e1], r⟩
theorem EnvOk.getO (h : EnvOk K Ps F0 H0 F H σ ρ) {i : Nat} {ds : List D} (e : ρ[i]? = some (.ow ds)) : ∃ a vs, σ[i]? = some (some (.ref a)) ∧ H0 a = none ∧ F a = none ∧ H a = some (.lst vs) ∧ DpAll K F vs ds := by
  obtain ⟨a, u, e1, e2, e3, e4, e5⟩ := h.getW e
  cases e5 with
  | lst d => exact ⟨a, _, e1, e2, e3, e4, d⟩
theorem EnvOk.getD (h : EnvOk K Ps F0 H0 F H σ ρ) {i : Nat} {ds : List (D × D)} (e : ρ[i]? = some (.od ds)) : ∃ a vs, σ[i]? = some (some (.ref a)) ∧ H0 a = none ∧ F a = none ∧ H a = some (.dK vs) ∧ DpKV K F vs ds := by
  obtain ⟨a, u, e1, e2, e3, e4, e5⟩ := h.getW e
  cases e5 with
  | dct d => exact ⟨a, _, e1, e2, e3, e4, d⟩
/-- a slot is stored: a datum -/
theorem EnvOk.set (h : EnvOk K Ps F0 H0 F H σ ρ) {i : Nat} {v : V} {d : D} (hd : Dp K F v d) : EnvOk K Ps F0 H0 F H (σ.set i (some v)) (ρ.set i (.fz d)) where
  ok := h.ok
  len := by simp [h.len]
  slot := fun j s e hs he => by
    by_cases q : i = j
    · subst q
      have hi : i < σ.length := by
        have := (List.getElem?_eq_some_iff.mp hs).1
        simpa using this
      rw [List.getElem?_set_self hi] at hs
      rw [List.getElem?_set_self (by rw [← h.len]; exact hi)] at he
      cases hs
      cases he
      exact ⟨v, rfl, hd⟩
    · rw [List.getElem?_set_ne q] at hs he
      exact h.slot j s e hs he
  dis := fun j k ds es a h1 h2 h3 h4 => by
    have nj : i ≠ j := fun z => by
      subst z
      have hi : i < ρ.length := by
        have := (List.getElem?_eq_some_iff.mp h1).1
        simpa using this
      rw [List.getElem?_set_self hi] at h1
      cases h1
    have nk : i ≠ k := fun z => by
      subst z
      have hi : i < ρ.length := by
        have := (List.getElem?_eq_some_iff.mp h2).1
        simpa using this
      rw [List.getElem?_set_self hi] at h2
      cases h2
    rw [List.getElem?_set_ne nj] at h1 h3
    rw [List.getElem?_set_ne nk] at h2 h4
    exact h.dis j k ds es a h1 h2 h3 h4
theorem Ok.none0 {Ps F0 H0 F H} (h : Ok Ps F0 H0 F H) {a : Addr} (hn : H a = none) : H0 a = none := by
  cases q : H0 a with
  | none => rfl
  | some o =>
    by_cases hp : a ∈ Ps
    · obtain ⟨ps, e, _⟩ := h.tab a hp
      rw [hn] at e; cases e
    · rw [h.ext a o q hp] at hn; cases hn
/-- a slot is stored: a new object of its own -/
theorem EnvOk.setW (h : EnvOk K Ps F0 H0 F H σ ρ) (mv : Ok Ps F H F' H') {i : Nat} {a : Addr} {u : HO} {w : Ob} (hn : H a = none) (hf : F' a = none) (ha : H' a = some u) (hd : ObR K F' u w) :
    EnvOk K Ps F0 H0 F' H' (σ.set i (some (.ref a))) (ρ.set i (.own w)) := by
  have h0 : H0 a = none := h.ok.none0 hn
  have m := h.move mv
  have other : ∀ (j : Nat) es b, ρ[j]? = some (.own es) → σ[j]? = some (some (.ref b)) → b ≠ a := fun j es b h1 h2 z => by
    subst z
    obtain ⟨c, ws, e1, _, _, e2, _⟩ := h.getW h1
    rw [h2] at e1
    cases e1
    rw [hn] at e2; cases e2
  refine ⟨m.ok, by simp [h.len], fun j s e hs he => ?_, fun j k es es' b h1 h2 h3 h4 => ?_⟩
  · by_cases q : i = j
    · subst q
      have hi : i < σ.length := by
        have := (List.getElem?_eq_some_iff.mp hs).1
        simpa using this
      rw [List.getElem?_set_self hi] at hs
      rw [List.getElem?_set_self (by rw [← h.len]; exact hi)] at he
      cases hs
      cases he
      exact ⟨a, u, rfl, h0, hf, ha, hd⟩
    · rw [List.getElem?_set_ne q] at hs he
      exact m.slot j s e hs he
  · by_cases qj : i = j
    · by_cases qk : i = k
      · exact qj.symm.trans qk
      · subst qj
        have hi : i < ρ.length := by
          have := (List.getElem?_eq_some_iff.mp h1).1
          simpa using this
        rw [List.getElem?_set_self (by rw [h.len]; exact hi)] at h3
        cases h3
        rw [List.getElem?_set_ne qk] at h2 h4
        exact absurd rfl (other k es' a h2 h4)
    · by_cases qk : i = k
      · subst qk
        have hi : i < ρ.length := by
          have := (List.getElem?_eq_some_iff.mp h2).1
          simpa using this
        rw [List.getElem?_set_self (by rw [h.len]; exact hi)] at h4
        cases h4
        rw [List.getElem?_set_ne qj] at h1 h3
        exact absurd rfl (other j es a h1 h3)
      · rw [List.getElem?_set_ne qj] at h1 h3
        rw [List.getElem?_set_ne qk] at h2 h4
        exact h.dis j k es es' b h1 h2 h3 h4
theorem EnvOk.setO (h : EnvOk K Ps F0 H0 F H σ ρ) (mv : Ok Ps F H F' H') {i : Nat} {a : Addr} {vs : List V} {ds : List D} (hn : H a = none) (hf : F' a = none) (ha : H' a = some (.lst vs)) (hd : DpAll K F' vs ds) :
    EnvOk K Ps F0 H0 F' H' (σ.set i (some (.ref a))) (ρ.set i (.ow ds)) := h.setW mv hn hf ha (.lst hd)
/-- the object that slot i alone holds is changed -/
theorem EnvOk.mutW (h : EnvOk K Ps F0 H0 F H σ ρ) {i : Nat} {a : Addr} {w0 w : Ob} {u : HO} (e : ρ[i]? = some (.own w0)) (es : σ[i]? = some (some (.ref a))) (hd : ObR K F u w) :
    EnvOk K Ps F0 H0 F (upd H a u) σ (ρ.set i (.own w)) := by
  obtain ⟨a', u0, e1, h0, f0, e2, r0⟩ := h.getW e
  rw [es] at e1
  cases e1
  have hi : i < ρ.length := (List.getElem?_eq_some_iff.mp e).1
  refine ⟨h.ok.mutW h0 f0 e2 r0.loose, by simp [h.len], fun j s en hs he => ?_, fun j k es1 es2 b h1 h2 h3 h4 => ?_⟩
  · by_cases q : i = j
    · subst q
      rw [List.getElem?_set_self hi] at he
      cases he
      rw [es] at hs
      cases hs
      exact ⟨a, u, rfl, h0, f0, upd_same, hd⟩
    · rw [List.getElem?_set_ne q] at he
      have r := h.slot j s en hs he
      cases en with
      | no => exact True.intro
      | fz d => exact r
      | own ds' =>
        obtain ⟨b, ws, e5, h5, f5, e6, d5⟩ := r
        refine ⟨b, ws, e5, h5, f5, ?_, d5⟩
        have z : b ≠ a := fun z => by
          subst z
          rw [e5] at hs
          exact q (h.dis i j w0 ds' b e he es hs)
        rw [upd_ne z]; exact e6
  · have aux : ∀ (m : Nat) es', (ρ.set i (.own w))[m]? = some (.own es') → ∃ es'', ρ[m]? = some (.own es'') := fun m es' hm => by
      by_cases q : i = m
      · subst q; exact ⟨_, e⟩
      · rw [List.getElem?_set_ne q] at hm; exact ⟨_, hm⟩
    obtain ⟨x1, y1⟩ := aux j es1 h1
    obtain ⟨x2, y2⟩ := aux k es2 h2
    exact h.dis j k x1 x2 b y1 y2 h3 h4
theorem EnvOk.mut (h : EnvOk K Ps F0 H0 F H σ ρ) {i : Nat} {a : Addr} {ds0 ds : List D} {vs : List V} (e : ρ[i]? = some (.ow ds0)) (es : σ[i]? = some (some (.ref a))) (hd : DpAll K F vs ds) :
    EnvOk K Ps F0 H0 F (upd H a (.lst vs)) σ (ρ.set i (.ow ds)) := h.mutW e es (.lst hd)
/-- an object as a datum -/
def Ob.dat : Ob → D
  | .lst ds => .list ds
  | .dct kvs => .dict kvs
theorem ObR.dat {G : Hp} {a : Addr} {u : HO} {w : Ob} (h : ObR K G u w) (e : G a = some u) : Dp K G (.ref a) w.dat := by
  cases h with
  | lst h => exact .lst (SqL.of e) h
  | dct h => exact .dct (.inl e) h
/-- the object that slot i alone holds is frozen -/
theorem EnvOk.freezeW (h : EnvOk K Ps F0 H0 F H σ ρ) {i : Nat} {w : Ob} (e : ρ[i]? = some (.own w)) : ∃ F', Same F F' ∧ EnvOk K Ps F0 H0 F' H σ (ρ.set i (.fz w.dat)) := by
  obtain ⟨a, u, e1, h0, f0, e2, d1⟩ := h.getW e
  have hi : i < ρ.length := (List.getElem?_eq_some_iff.mp e).1
  have g : Same F (upd F a u) := fun b o q => by
    have z : b ≠ a := fun z => by subst z; rw [f0] at q; cases q
    rw [upd_ne z]; exact q
  refine ⟨upd F a u, g, ⟨fun b o q => ?_, h.ok.grow.trans g, fun b q => ?_, h.ok.ext, h.ok.tab, fun p hp => ?_⟩, by simp [h.len], fun j s en hs he => ?_, fun j k es1 es2 b h1 h2 h3 h4 => ?_⟩
  · by_cases z : b = a
    · subst z; rw [upd_same] at q; cases q; exact e2
    · rw [upd_ne z] at q; exact h.ok.sub b o q
  · by_cases z : b = a
    · subst z; exact .inr h0
    · rw [upd_ne z] at q; exact h.ok.new b q
  · have z : p ≠ a := fun z => by
      subst z
      obtain ⟨ps, e3, t⟩ := h.ok.tab p hp
      rw [e2] at e3
      exact d1.loose ps (Option.some.inj e3)
    rw [upd_ne z]; exact h.ok.fno p hp
  · by_cases q : i = j
    · subst q
      rw [List.getElem?_set_self hi] at he
      cases he
      rw [e1] at hs
      cases hs
      exact ⟨_, rfl, (d1.mono g).dat upd_same⟩
    · rw [List.getElem?_set_ne q] at he
      have r := h.slot j s en hs he
      cases en with
      | no => exact True.intro
      | fz d =>
        obtain ⟨v, e5, d5⟩ := r
        exact ⟨v, e5, dp_mono g d v d5⟩
      | own ds' =>
        obtain ⟨b, ws, e5, h5, f5, e6, d5⟩ := r
        have z : b ≠ a := fun z => by
          subst z
          rw [e5] at hs
          exact q (h.dis i j w ds' b e he e1 hs)
        exact ⟨b, ws, e5, h5, by rw [upd_ne z]; exact f5, e6, d5.mono g⟩
  · have aux : ∀ (m : Nat) es', (ρ.set i (.fz w.dat))[m]? = some (.own es') → ρ[m]? = some (.own es') := fun m es' hm => by
      by_cases q : i = m
      · subst q; rw [List.getElem?_set_self hi] at hm; cases hm
      · rw [List.getElem?_set_ne q] at hm; exact hm
    exact h.dis j k es1 es2 b (aux j es1 h1) (aux k es2 h2) h3 h4
theorem EnvOk.freeze (h : EnvOk K Ps F0 H0 F H σ ρ) {i : Nat} {ds : List D} (e : ρ[i]? = some (.ow ds)) : ∃ F', Same F F' ∧ EnvOk K Ps F0 H0 F' H σ (ρ.set i (.fz (.list ds))) := h.freezeW e
end

/-- a slot is forgotten -/
theorem EnvOk.setNo {K : PySem.W.Frag} {Ps : List Addr} {F0 H0 F H : Hp} {σ : L2.St} {ρ : List En} (h : EnvOk K Ps F0 H0 F H σ ρ) (i : Nat) : EnvOk K Ps F0 H0 F H (σ.set i none) (ρ.set i .no) where
  ok := h.ok
  len := by simp [h.len]
  slot := fun j s e hs he => by
    by_cases q : i = j
    · subst q
      have hi : i < ρ.length := by
        have := (List.getElem?_eq_some_iff.mp he).1
        simpa using this
      rw [List.getElem?_set_self hi] at he
      cases he
      exact True.intro
    · rw [List.getElem?_set_ne q] at hs he
      exact h.slot j s e hs he
  dis := fun j k ds es a h1 h2 h3 h4 => by
    have nj : ∀ (m : Nat) es', (ρ.set i .no)[m]? = some (.own es') → i ≠ m := fun m es' hm z => by
      subst z
      have hi : i < ρ.length := by
        have := (List.getElem?_eq_some_iff.mp hm).1
        simpa using this
      rw [List.getElem?_set_self hi] at hm
      cases hm
    have a1 := nj j ds h1
    have a2 := nj k es h2
    rw [List.getElem?_set_ne a1] at h1 h3
    rw [List.getElem?_set_ne a2] at h2 h4
    exact h.dis j k ds es a h1 h2 h3 h4
def wipeR (ρ : List En) : List Nat → List En
  | [] => ρ
  | v :: vs => (wipeR ρ vs).set v .no
theorem EnvOk.wipe {K : PySem.W.Frag} {Ps : List Addr} {F0 H0 F H : Hp} {σ : L2.St} {ρ : List En} (h : EnvOk K Ps F0 H0 F H σ ρ) : ∀ vs : List Nat, EnvOk K Ps F0 H0 F H (L2.wipe σ vs) (wipeR ρ vs)
  | [] => h
  | v :: vs => (EnvOk.wipe h vs).setNo v

/-! ### readings as functions -/
abbrev Ro := List En
def SemE (K : PySem.W.Frag) (Ps : List Addr) (t : TE) (f : Ro → Option D) : Prop :=
  ∀ (F0 H0 F H : Hp) (σ : L2.St) (ρ : Ro) (d : D), EnvOk K Ps F0 H0 F H σ ρ → f ρ = some d → ∀ Q : VK, (∀ v F' H', Ok Ps F H F' H' → Dp K F' v d → Q v H') → t σ H Q
def SemT (K : PySem.W.Frag) (Ps : List Addr) (t : TT) (f : Ro → Option Bool) : Prop :=
  ∀ (F0 H0 F H : Hp) (σ : L2.St) (ρ : Ro) (b : Bool), EnvOk K Ps F0 H0 F H σ ρ → f ρ = some b → ∀ Q : Bool → Hp → Prop, (∀ F' H', Ok Ps F H F' H' → Q b H') → t σ H Q
def SemA (K : PySem.W.Frag) (Ps : List Addr) (t : TA) (f : Ro → Option (List D)) : Prop :=
  ∀ (F0 H0 F H : Hp) (σ : L2.St) (ρ : Ro) (ds : List D), EnvOk K Ps F0 H0 F H σ ρ → f ρ = some ds → ∀ Q : List V → Hp → Prop, (∀ vs F' H', Ok Ps F H F' H' → DpAll K F' vs ds → Q vs H') → t σ H Q
/-- a new list: its items -/
def SemL (K : PySem.W.Frag) (Ps : List Addr) (t : TE) (f : Ro → Option (List D)) : Prop :=
  ∀ (F0 H0 F H : Hp) (σ : L2.St) (ρ : Ro) (ds : List D), EnvOk K Ps F0 H0 F H σ ρ → f ρ = some ds → ∀ Q : VK, (∀ a vs F' H', Ok Ps F H F' H' → H a = none → F' a = none → H' a = some (.lst vs) → DpAll K F' vs ds → Q (.ref a) H') → t σ H Q
def Sem2 (K : PySem.W.Frag) (Ps : List Addr) (r : R2) (g : D → D → Option D) : Prop :=
  ∀ (F H : Hp) (x y : V) (d e z : D), Ok Ps F H F H → Dp K F x d → Dp K F y e → g d e = some z → ∀ Q : VK, (∀ v F' H', Ok Ps F H F' H' → Dp K F' v z → Q v H') → r x y H Q
def Sem1 (K : PySem.W.Frag) (Ps : List Addr) (r : V → Hp → VK → Prop) (g : D → Option D) : Prop :=
  ∀ (F H : Hp) (x : V) (d z : D), Ok Ps F H F H → Dp K F x d → g d = some z → ∀ Q : VK, (∀ v F' H', Ok Ps F H F' H' → Dp K F' v z → Q v H') → r x H Q
def SemC (K : PySem.W.Frag) (Ps : List Addr) (r : List V → Hp → VK → Prop) (g : List D → Option D) : Prop :=
  ∀ (F H : Hp) (xs : List V) (ds : List D) (z : D), Ok Ps F H F H → DpAll K F xs ds → g ds = some z → ∀ Q : VK, (∀ v F' H', Ok Ps F H F' H' → Dp K F' v z → Q v H') → r xs H Q
def SemTr (K : PySem.W.Frag) (Ps : List Addr) (r : V → Hp → (Bool → Hp → Prop) → Prop) (g : D → Option Bool) : Prop :=
  ∀ (F H : Hp) (x : V) (d : D) (b : Bool), Ok Ps F H F H → Dp K F x d → g d = some b → ∀ Q : Bool → Hp → Prop, Q b H → r x H Q

structure PD (X : Cx) (Ps : List Addr) (e : Expr) (f : Ro → Option D) : Prop where
  ex : ∃ t, PE X e t ∧ SemE X.K Ps t f
structure TD (X : Cx) (Ps : List Addr) (e : Expr) (f : Ro → Option Bool) : Prop where
  ex : ∃ t, PT X e t ∧ SemT X.K Ps t f
structure WD (X : Cx) (Ps : List Addr) (e : Expr) (f : Ro → Option Bool) : Prop where
  ex : ∃ t, PW X e t ∧ SemT X.K Ps t f
structure AD (X : Cx) (Ps : List Addr) (es : List Expr) (f : Ro → Option (List D)) : Prop where
  ex : ∃ t, PA X es t ∧ SemA X.K Ps t f
structure LD (X : Cx) (Ps : List Addr) (e : Expr) (f : Ro → Option (List D)) : Prop where
  ex : ∃ t, PE X e t ∧ SemL X.K Ps t f

/-- the one reading that stands for all -/
def cE (K : PySem.W.Frag) (Ps : List Addr) (f : Ro → Option D) : TE := fun σ H Q => ∃ F0 H0 F ρ d, EnvOk K Ps F0 H0 F H σ ρ ∧ f ρ = some d ∧ ∀ v F' H', Ok Ps F H F' H' → Dp K F' v d → Q v H'
def cT (K : PySem.W.Frag) (Ps : List Addr) (f : Ro → Option Bool) : TT := fun σ H Q => ∃ F0 H0 F ρ d, EnvOk K Ps F0 H0 F H σ ρ ∧ f ρ = some d ∧ ∀ F' H', Ok Ps F H F' H' → Q d H'
theorem PD.c {X : Cx} {Ps : List Addr} {e : Expr} {f : Ro → Option D} (h : PD X Ps e f) : PE X e (cE X.K Ps f) := by
  obtain ⟨t, p, s⟩ := h.ex
  exact ⟨fun pins s0 σ H Q I ⟨F0, H0, F, ρ, d, hE, hf, q⟩ => p.run pins s0 σ H Q I (s F0 H0 F H σ ρ d hE hf Q q)⟩
theorem cE_sem {K : PySem.W.Frag} {Ps : List Addr} {f : Ro → Option D} : SemE K Ps (cE K Ps f) f := fun F0 H0 F H σ ρ d hE hf Q q => ⟨F0, H0, F, ρ, d, hE, hf, q⟩
theorem TD.c {X : Cx} {Ps : List Addr} {e : Expr} {f : Ro → Option Bool} (h : TD X Ps e f) : PT X e (cT X.K Ps f) := by
  obtain ⟨t, p, s⟩ := h.ex
  exact ⟨fun pins s0 σ H Q I ⟨F0, H0, F, ρ, d, hE, hf, q⟩ => p.run pins s0 σ H Q I (s F0 H0 F H σ ρ d hE hf Q q)⟩
theorem cT_sem {K : PySem.W.Frag} {Ps : List Addr} {f : Ro → Option Bool} : SemT K Ps (cT K Ps f) f := fun F0 H0 F H σ ρ d hE hf Q q => ⟨F0, H0, F, ρ, d, hE, hf, q⟩

section
variable {X : Cx} {Ps : List Addr} {e a b c : Expr} {es : List Expr} {f f1 f2 : Ro → Option D} {fl : Ro → Option (List D)} {ft fu : Ro → Option Bool} {pos : Pos}
def fVar (i : Nat) : Ro → Option D := fun ρ => match ρ[i]? with | some (.fz d) => some d | _ => none
theorem pd_var (i : Nat) {x : Str} (hN : X.N[i]? = some x := by rfl) (hv : Vis X.env.scope x := by first | exact Or.inl rfl | exact Or.inr (Or.inl rfl) | exact Or.inr (Or.inr rfl)) (hd : (x == ("__debug__" : Str)) = false := by decide)
    (hcd : (x == ("__classdict__" : Str)) = false := by decide) : PD X Ps (.Name x pos) (fVar i) :=
  ⟨tVar i, pe_var hN hv hd hcd, fun F0 H0 F H σ ρ d hE hf Q q => by
    have e : ρ[i]? = some (.fz d) := by
      unfold fVar at hf
      split at hf
      · rename_i d' e; cases hf; exact e
      · cases hf
    obtain ⟨v, e1, d1⟩ := hE.get e
    exact ⟨v, e1, q v F H hE.ok.refl d1⟩⟩
theorem pd_int {i : Int} {j} : PD X Ps (.Constant (.int i) j pos) (fun _ => some (.int i)) := ⟨_, pe_int, fun F0 H0 F H σ ρ d hE hf Q q => by cases hf; exact q _ F H hE.ok.refl (.int i)⟩
theorem pd_bl {i : Bool} {j} : PD X Ps (.Constant (.bool i) j pos) (fun _ => some (.bool i)) := ⟨_, pe_bl, fun F0 H0 F H σ ρ d hE hf Q q => by cases hf; exact q _ F H hE.ok.refl (.bl i)⟩
theorem pd_non {j} : PD X Ps (.Constant .none j pos) (fun _ => some .none) := ⟨_, pe_non, fun F0 H0 F H σ ρ d hE hf Q q => by cases hf; exact q _ F H hE.ok.refl .non⟩
theorem pd_str {x : Str} {j} : PD X Ps (.Constant (.str x) j pos) (fun _ => some (.str x)) := ⟨_, pe_str, fun F0 H0 F H σ ρ d hE hf Q q => by cases hf; exact q _ F H hE.ok.refl (.str x)⟩
/-- a constant of the module: a text or a number -/
theorem pd_gstr {x z : Str} {t : Tok} (hg : Gl X x) (hm : X.mg x = some (.str z t)) (hd : (x == ("__debug__" : Str)) = false := by decide) : PD X Ps (.Name x pos) (fun _ => some (.str z)) :=
  ⟨_, pe_glob hg hm (show RelV (.str z) _ from ⟨t, rfl⟩) hd, fun F0 H0 F H σ ρ d hE hf Q q => by cases hf; exact q _ F H hE.ok.refl (.str z)⟩
theorem pd_gint {x : Str} {z : Int} {t : Tok} (hg : Gl X x) (hm : X.mg x = some (.int z t)) (hd : (x == ("__debug__" : Str)) = false := by decide) : PD X Ps (.Name x pos) (fun _ => some (.int z)) :=
  ⟨_, pe_glob hg hm (show RelV (.int z) _ from ⟨t, rfl⟩) hd, fun F0 H0 F H σ ρ d hE hf Q q => by cases hf; exact q _ F H hE.ok.refl (.int z)⟩

/-! arguments -/
theorem ad_nil : AD X Ps [] (fun _ => some []) := ⟨_, pa_nil, fun F0 H0 F H σ ρ d hE hf Q q => by cases hf; exact q [] F H hE.ok.refl .nil⟩
def fCons (f : Ro → Option D) (fl : Ro → Option (List D)) : Ro → Option (List D) := fun ρ => (f ρ).bind fun x => (fl ρ).bind fun xs => some (x :: xs)
theorem ad_cons (h : PD X Ps e f) (hr : AD X Ps es fl) (hs : starEach (e :: es) X.env = (false, eval e X.env) :: starEach es X.env := by rfl) : AD X Ps (e :: es) (fCons f fl) := by
  obtain ⟨t, p, s⟩ := h.ex
  obtain ⟨u, p2, s2⟩ := hr.ex
  refine ⟨_, pa_cons p p2 hs, fun F0 H0 F H σ ρ ds hE hf Q q => ?_⟩
  obtain ⟨x, e1, hf⟩ := Option.bind_eq_some_iff.mp hf
  obtain ⟨xs, e2, hf⟩ := Option.bind_eq_some_iff.mp hf
  cases hf
  refine s F0 H0 F H σ ρ x hE e1 _ fun v F1 H1 m1 d1 => ?_
  refine s2 F0 H0 F1 H1 σ ρ xs (hE.move m1) e2 _ fun vs F2 H2 m2 d2 => ?_
  exact q (v :: vs) F2 H2 (m1.trans m2) (.cons (dp_mono m2.grow _ _ d1) d2)

end
end FL
set_option maxHeartbeats 4000000
/-! FL2: expressions as functions of data. -/
namespace FL
open PySem PySem.Spec PyProof.Rows L2

theorem Ok.refl' {Ps F0 H0 F H} (h : Ok Ps F0 H0 F H) : Ok Ps F H F H := h.refl
theorem small_size {n : Nat} (h : n ≤ 1000000) : n ≤ sizeLine := Nat.le_trans h (by decide)

section
variable {X : Cx} {Ps : List Addr} {e a b c : Expr} {es : List Expr} {f f1 f3 : Ro → Option D} {fl : Ro → Option (List D)} {ft fu : Ro → Option Bool} {pos : Pos}

/-! ### displays -/
def mkT (ds : List D) : Option D := if ds.length ≤ 1000000 then some (.tuple ds) else none
def mkL (ds : List D) : Option (List D) := if ds.length ≤ 1000000 then some ds else none
def fTup (fl : Ro → Option (List D)) : Ro → Option D := fun ρ => (fl ρ).bind mkT
theorem pd_tup {k} (h : AD X Ps es fl) : PD X Ps (.Tuple es k pos) (fTup fl) := by
  obtain ⟨t, p, s⟩ := h.ex
  refine ⟨_, pe_tup p, fun F0 H0 F H σ ρ d hE hf Q q => ?_⟩
  obtain ⟨ds, e1, hf1⟩ := Option.bind_eq_some_iff.mp hf
  unfold mkT at hf1
  split at hf1
  · rename_i hz
    cases hf1
    refine s F0 H0 F H σ ρ ds hE e1 _ fun vs F1 H1 m1 d1 => ⟨by rw [dpAll_len d1]; exact small_size hz, fun p hp => ?_⟩
    have m2 := m1.new_fz hp (.tup vs)
    exact q _ _ _ (m1.trans m2) (.tup (.inl (.inl upd_same)) (dpAll_mono m2.grow _ _ d1))
  · cases hf1
def fLst (fl : Ro → Option (List D)) : Ro → Option (List D) := fun ρ => (fl ρ).bind mkL
theorem ld_lst (h : AD X Ps es fl) : LD X Ps (.List es pos) (fLst fl) := by
  obtain ⟨t, p, s⟩ := h.ex
  refine ⟨_, pe_lst p, fun F0 H0 F H σ ρ d hE hf Q q => ?_⟩
  obtain ⟨ds, e1, hf1⟩ := Option.bind_eq_some_iff.mp hf
  unfold mkL at hf1
  split at hf1
  · rename_i hz
    cases hf1
    refine s F0 H0 F H σ ρ _ hE e1 _ fun vs F1 H1 m1 d1 => ⟨by rw [dpAll_len d1]; exact small_size hz, fun p hp => ?_⟩
    exact q p vs F1 _ (m1.trans (m1.new_ow hp (.lst vs))) (m1.none0 hp) (fno_new m1 hp) upd_same d1
  · cases hf1
/-- a new list as a datum -/
def fL (fl : Ro → Option (List D)) : Ro → Option D := fun ρ => (fl ρ).map .list
theorem pd_ld (h : LD X Ps e fl) : PD X Ps e (fL fl) := by
  obtain ⟨t, p, s⟩ := h.ex
  refine ⟨t, p, fun F0 H0 F H σ ρ d hE hf Q q => ?_⟩
  obtain ⟨ds, e1, hf1⟩ := Option.map_eq_some_iff.mp hf
  subst hf1
  refine s F0 H0 F H σ ρ ds hE e1 _ fun a vs F1 H1 m1 hn hf ha d1 => ?_
  have g : Same F1 (upd F1 a (.lst vs)) := fun b o q => by
    have z : b ≠ a := fun z => by subst z; rw [hf] at q; cases q
    rw [upd_ne z]; exact q
  refine q _ _ _ ⟨fun b o q => ?_, m1.grow.trans g, fun b q => ?_, m1.ext, m1.tab, fun p hp => ?_⟩ (.lst (SqL.of upd_same) (dpAll_mono g _ _ d1))
  · by_cases z : b = a
    · subst z; rw [upd_same] at q; cases q; exact ha
    · rw [upd_ne z] at q; exact m1.sub b o q
  · by_cases z : b = a
    · subst z; exact .inr hn
    · rw [upd_ne z] at q; exact m1.new b q
  · have z : p ≠ a := fun z => by
      subst z
      obtain ⟨ps, e3, t⟩ := m1.tab p hp
      rw [ha] at e3; cases e3
    rw [upd_ne z]; exact m1.fno p hp

/-! ### operators, comparisons, subscripts, calls of built-ins, all by data -/
def fOp (g : D → D → Option D) (fa fb : Ro → Option D) : Ro → Option D := fun ρ => (fa ρ).bind fun x => (fb ρ).bind fun y => g x y
theorem sem2 {ta tb : TE} {r : R2} {g : D → D → Option D} (ha : SemE X.K Ps ta f1) (hb : SemE X.K Ps tb f3) (hr : Sem2 X.K Ps r g) : SemE X.K Ps (tOp r ta tb) (fOp g f1 f3) := by
  intro F0 H0 F H σ ρ d hE hf Q q
  obtain ⟨x, e1, hf1⟩ := Option.bind_eq_some_iff.mp hf
  obtain ⟨y, e2, hf2⟩ := Option.bind_eq_some_iff.mp hf1
  refine ha F0 H0 F H σ ρ x hE e1 _ fun v F1 H1 m1 d1 => ?_
  refine hb F0 H0 F1 H1 σ ρ y (hE.move m1) e2 _ fun u F2 H2 m2 d2 => ?_
  exact hr F2 H2 v u x y d (m1.trans m2).refl (dp_mono m2.grow _ _ d1) d2 hf2 Q fun z F3 H3 m3 d3 => q z F3 H3 ((m1.trans m2).trans m3) d3
theorem pd_op {op : Operator} {r : R2} {g : D → D → Option D} (ho : OpR X (binaryOp op) r) (hr : Sem2 X.K Ps r g) (ha : PD X Ps a f1) (hb : PD X Ps b f3) : PD X Ps (.BinOp a op b pos) (fOp g f1 f3) := by
  obtain ⟨t, p, s⟩ := ha.ex
  obtain ⟨u, p2, s2⟩ := hb.ex
  exact ⟨_, pe_op ho p p2, sem2 s s2 hr⟩
theorem pd_cmp {op : CmpOp} {r : R2} {g : D → D → Option D} (ho : OpR X (compareOp op) r) (hr : Sem2 X.K Ps r g) (ha : PD X Ps a f1) (hb : PD X Ps b f3) (hm : behindInMarks op b = false) : PD X Ps (.Compare a [op] [b] pos) (fOp g f1 f3) := by
  obtain ⟨t, p, s⟩ := ha.ex
  obtain ⟨u, p2, s2⟩ := hb.ex
  exact ⟨_, pe_cmpR ho p p2 hm, sem2 s s2 hr⟩
theorem pd_ix {r : R2} {g : D → D → Option D} (ho : IxR X r) (hr : Sem2 X.K Ps r g) (ha : PD X Ps a f1) (hb : PD X Ps b f3) (hs : PlainIx b) : PD X Ps (.Subscript a b pos) (fOp g f1 f3) := by
  obtain ⟨t, p, s⟩ := ha.ex
  obtain ⟨u, p2, s2⟩ := hb.ex
  exact ⟨_, pe_ix ho p p2 hs, sem2 s s2 hr⟩
/-- a datum that is a bool -/
def asB : D → Option Bool
  | .bool b => some b
  | _ => none
theorem asB_some {d : D} {b : Bool} (h : asB d = some b) : d = .bool b := by
  cases d <;> simp [asB] at h
  rw [h]
def fB (f : Ro → Option D) : Ro → Option Bool := fun ρ => (f ρ).bind asB
theorem semB {t : TE} (h : SemE X.K Ps t f) : SemT X.K Ps (tTest t) (fB f) := by
  intro F0 H0 F H σ ρ b hE hf Q q
  obtain ⟨x, e1, hf1⟩ := Option.bind_eq_some_iff.mp hf
  cases asB_some hf1
  refine h F0 H0 F H σ ρ _ hE e1 _ fun v F1 H1 m1 d1 => ?_
  cases d1
  exact ⟨b, rfl, q F1 H1 m1⟩
theorem td_cmp {op : CmpOp} {r : R2} {g : D → D → Option D} (ho : OpR X (compareOp op) r) (hr : Sem2 X.K Ps r g) (ha : PD X Ps a f1) (hb : PD X Ps b f3) (hm : behindInMarks op b = false) : TD X Ps (.Compare a [op] [b] pos) (fB (fOp g f1 f3)) := by
  obtain ⟨t, p, s⟩ := ha.ex
  obtain ⟨u, p2, s2⟩ := hb.ex
  exact ⟨_, pt_cmpR ho p p2 hm, semB (sem2 s s2 hr)⟩
/-- a chain a op b op' c -/
def fCh (g g' : D → D → Option D) (fa fb fc : Ro → Option D) : Ro → Option Bool := fun ρ => (fa ρ).bind fun x => (fb ρ).bind fun y => ((g x y).bind asB).bind fun k => if k = true then (fc ρ).bind fun z => (g' y z).bind asB else some false
theorem td_chain {op op' : CmpOp} {r r' : R2} {g g' : D → D → Option D} {fc : Ro → Option D} (ho : OpR X (compareOp op) r) (ho' : OpR X (compareOp op') r') (hr : Sem2 X.K Ps r g) (hr' : Sem2 X.K Ps r' g') (ha : PD X Ps a f1) (hb : PD X Ps b f3) (hc : PD X Ps c fc)
    (hm : lastMarks [op, op'] [b, c] = false := by with_unfolding_all rfl) : TD X Ps (.Compare a [op, op'] [b, c] pos) (fCh g g' f1 f3 fc) := by
  obtain ⟨t, p, s⟩ := ha.ex
  obtain ⟨u, p2, s2⟩ := hb.ex
  obtain ⟨u3, p3, s3⟩ := hc.ex
  refine ⟨_, pt_chain ho ho' p p2 p3 hm, fun F0 H0 F H σ ρ bb hE hf Q q => ?_⟩
  obtain ⟨x, e1, hf1⟩ := Option.bind_eq_some_iff.mp hf
  obtain ⟨y, e2, hf2⟩ := Option.bind_eq_some_iff.mp hf1
  obtain ⟨k, e3, hf3⟩ := Option.bind_eq_some_iff.mp hf2
  obtain ⟨z, e4, e5⟩ := Option.bind_eq_some_iff.mp e3
  cases asB_some e5
  refine s F0 H0 F H σ ρ x hE e1 _ fun v F1 H1 m1 d1 => ?_
  refine s2 F0 H0 F1 H1 σ ρ y (hE.move m1) e2 _ fun u F2 H2 m2 d2 => ?_
  refine hr F2 H2 v u x y _ (m1.trans m2).refl (dp_mono m2.grow _ _ d1) d2 e4 _ fun z F3 H3 m3 d3 => ?_
  cases d3
  have m13 := (m1.trans m2).trans m3
  cases k with
  | true =>
    rw [if_pos rfl] at hf3
    obtain ⟨zc, e6, hf4⟩ := Option.bind_eq_some_iff.mp hf3
    obtain ⟨zd, e7, e8⟩ := Option.bind_eq_some_iff.mp hf4
    cases asB_some e8
    refine ⟨true, rfl, ?_⟩
    rw [if_pos rfl]
    refine s3 F0 H0 F3 H3 σ ρ zc (hE.move m13) e6 _ fun w F4 H4 m4 d4 => ?_
    refine hr' F4 H4 u w y zc _ (m13.trans m4).refl (dp_mono (m3.grow.trans m4.grow) _ _ d2) d4 e7 _ fun z F5 H5 m5 d5 => ?_
    cases d5
    exact ⟨bb, rfl, q F5 H5 ((m13.trans m4).trans m5)⟩
  | false =>
    rw [if_neg Bool.false_ne_true] at hf3
    cases hf3
    refine ⟨false, rfl, ?_⟩
    rw [if_neg Bool.false_ne_true]
    exact ⟨false, rfl, q F3 H3 m13⟩
/-! tests -/
def fNot (f : Ro → Option Bool) : Ro → Option Bool := fun ρ => (f ρ).map (!·)
def fAnd (f g : Ro → Option Bool) : Ro → Option Bool := fun ρ => (f ρ).bind fun x => if x = true then g ρ else some false
def fOr (f g : Ro → Option Bool) : Ro → Option Bool := fun ρ => (f ρ).bind fun x => if x = true then some true else g ρ
theorem td_w (h : WD X Ps e ft) : TD X Ps e ft := by
  obtain ⟨t, p, s⟩ := h.ex
  exact ⟨t, p.pt, s⟩
theorem td_val (h : PD X Ps e f) (he : ∀ whole, isTrue e X.env whole = (do let v ← whole; standAt e.pos; holding [v] (truthy v)) := by intro _; rfl) : TD X Ps e (fB f) := by
  obtain ⟨t, p, s⟩ := h.ex
  refine ⟨_, pt_val p he, ?_⟩
  exact semB s
theorem td_not (h : TD X Ps e ft) : TD X Ps (.UnaryOp .Not e pos) (fNot ft) := by
  obtain ⟨t, p, s⟩ := h.ex
  refine ⟨_, pt_not p, fun F0 H0 F H σ ρ b hE hf Q q => ?_⟩
  obtain ⟨x, e1, hf1⟩ := Option.map_eq_some_iff.mp hf
  subst hf1
  exact s F0 H0 F H σ ρ x hE e1 _ fun F1 H1 m1 => q F1 H1 m1
theorem wd_and1 (h : TD X Ps e ft) : WD X Ps (.BoolOp .And [e] pos) ft := by
  obtain ⟨t, p, s⟩ := h.ex
  exact ⟨t, pw_and1 p, s⟩
theorem wd_or1 (h : TD X Ps e ft) : WD X Ps (.BoolOp .Or [e] pos) ft := by
  obtain ⟨t, p, s⟩ := h.ex
  exact ⟨t, pw_or1 p, s⟩
variable {rest : List Expr}
theorem semAnd {t u : TT} (s : SemT X.K Ps t ft) (s2 : SemT X.K Ps u fu) : SemT X.K Ps (tAnd t u) (fAnd ft fu) := by
  intro F0 H0 F H σ ρ bb hE hf Q q
  obtain ⟨x, e1, hf1⟩ := Option.bind_eq_some_iff.mp hf
  refine s F0 H0 F H σ ρ x hE e1 _ fun F1 H1 m1 => ?_
  cases x with
  | true =>
    rw [if_pos rfl] at hf1 ⊢
    exact s2 F0 H0 F1 H1 σ ρ bb (hE.move m1) hf1 _ fun F2 H2 m2 => q F2 H2 (m1.trans m2)
  | false =>
    rw [if_neg Bool.false_ne_true] at hf1 ⊢
    cases hf1
    exact q F1 H1 m1
theorem semOr {t u : TT} (s : SemT X.K Ps t ft) (s2 : SemT X.K Ps u fu) : SemT X.K Ps (tOr t u) (fOr ft fu) := by
  intro F0 H0 F H σ ρ bb hE hf Q q
  obtain ⟨x, e1, hf1⟩ := Option.bind_eq_some_iff.mp hf
  refine s F0 H0 F H σ ρ x hE e1 _ fun F1 H1 m1 => ?_
  cases x with
  | false =>
    rw [if_neg Bool.false_ne_true] at hf1 ⊢
    exact s2 F0 H0 F1 H1 σ ρ bb (hE.move m1) hf1 _ fun F2 H2 m2 => q F2 H2 (m1.trans m2)
  | true =>
    rw [if_pos rfl] at hf1 ⊢
    cases hf1
    exact q F1 H1 m1
theorem wd_and (h : TD X Ps a ft) (hr : WD X Ps (.BoolOp .And (b :: rest) pos) fu) : WD X Ps (.BoolOp .And (a :: b :: rest) pos) (fAnd ft fu) := by
  obtain ⟨t, p, s⟩ := h.ex
  obtain ⟨u, p2, s2⟩ := hr.ex
  exact ⟨_, pw_and p p2, semAnd s s2⟩
theorem wd_or (h : TD X Ps a ft) (hr : WD X Ps (.BoolOp .Or (b :: rest) pos) fu) : WD X Ps (.BoolOp .Or (a :: b :: rest) pos) (fOr ft fu) := by
  obtain ⟨t, p, s⟩ := h.ex
  obtain ⟨u, p2, s2⟩ := hr.ex
  exact ⟨_, pw_or p p2, semOr s s2⟩
/-! and, or, not as values -/
def fAndV (f g : Ro → Option D) : Ro → Option D := fun ρ => (f ρ).bind fun x => (asB x).bind fun k => if k = true then g ρ else some (.bool false)
def fOrV (f g : Ro → Option D) : Ro → Option D := fun ρ => (f ρ).bind fun x => (asB x).bind fun k => if k = true then some (.bool true) else g ρ
theorem pd_one {op} (h : PD X Ps e f) : PD X Ps (.BoolOp op [e] pos) f := by
  obtain ⟨t, p, s⟩ := h.ex
  exact ⟨t, pe_one p, s⟩
theorem pd_and (h : PD X Ps a f1) (hr : PD X Ps (.BoolOp .And (b :: rest) pos) f3) : PD X Ps (.BoolOp .And (a :: b :: rest) pos) (fAndV f1 f3) := by
  obtain ⟨t, p, s⟩ := h.ex
  obtain ⟨u, p2, s2⟩ := hr.ex
  refine ⟨_, pe_and p p2, fun F0 H0 F H σ ρ bb hE hf Q q => ?_⟩
  obtain ⟨x, e1, hf1⟩ := Option.bind_eq_some_iff.mp hf
  obtain ⟨k, e2, hf2⟩ := Option.bind_eq_some_iff.mp hf1
  cases asB_some e2
  refine s F0 H0 F H σ ρ _ hE e1 _ fun v F1 H1 m1 d1 => ?_
  cases d1
  refine ⟨k, rfl, ?_⟩
  cases k with
  | true =>
    rw [if_pos rfl] at hf2 ⊢
    exact s2 F0 H0 F1 H1 σ ρ bb (hE.move m1) hf2 _ fun v F2 H2 m2 d2 => q v F2 H2 (m1.trans m2) d2
  | false =>
    rw [if_neg Bool.false_ne_true] at hf2 ⊢
    cases hf2
    exact q _ F1 H1 m1 (.bl false)
theorem pd_or (h : PD X Ps a f1) (hr : PD X Ps (.BoolOp .Or (b :: rest) pos) f3) : PD X Ps (.BoolOp .Or (a :: b :: rest) pos) (fOrV f1 f3) := by
  obtain ⟨t, p, s⟩ := h.ex
  obtain ⟨u, p2, s2⟩ := hr.ex
  refine ⟨_, pe_or p p2, fun F0 H0 F H σ ρ bb hE hf Q q => ?_⟩
  obtain ⟨x, e1, hf1⟩ := Option.bind_eq_some_iff.mp hf
  obtain ⟨k, e2, hf2⟩ := Option.bind_eq_some_iff.mp hf1
  cases asB_some e2
  refine s F0 H0 F H σ ρ _ hE e1 _ fun v F1 H1 m1 d1 => ?_
  cases d1
  refine ⟨k, rfl, ?_⟩
  cases k with
  | false =>
    rw [if_neg Bool.false_ne_true] at hf2 ⊢
    exact s2 F0 H0 F1 H1 σ ρ bb (hE.move m1) hf2 _ fun v F2 H2 m2 d2 => q v F2 H2 (m1.trans m2) d2
  | true =>
    rw [if_pos rfl] at hf2 ⊢
    cases hf2
    exact q _ F1 H1 m1 (.bl true)
def fNotV (f : Ro → Option D) : Ro → Option D := fun ρ => (f ρ).bind fun x => (asB x).map fun k => .bool (!k)
theorem pd_not (h : PD X Ps a f1) : PD X Ps (.UnaryOp .Not a pos) (fNotV f1) := by
  obtain ⟨t, p, s⟩ := h.ex
  refine ⟨_, pe_not p, fun F0 H0 F H σ ρ bb hE hf Q q => ?_⟩
  obtain ⟨x, e1, hf1⟩ := Option.bind_eq_some_iff.mp hf
  obtain ⟨k, e2, hf2⟩ := Option.map_eq_some_iff.mp hf1
  cases asB_some e2
  subst hf2
  refine s F0 H0 F H σ ρ _ hE e1 _ fun v F1 H1 m1 d1 => ?_
  cases d1
  exact ⟨k, rfl, q _ F1 H1 m1 (.bl _)⟩
def fIf (f : Ro → Option Bool) (g h : Ro → Option D) : Ro → Option D := fun ρ => (f ρ).bind fun x => if x = true then g ρ else h ρ
theorem pd_ifE (h : TD X Ps c ft) (ha : PD X Ps a f1) (hb : PD X Ps b f3) : PD X Ps (.IfExp c a b pos) (fIf ft f1 f3) := by
  obtain ⟨t, p, s⟩ := h.ex
  obtain ⟨u, p2, s2⟩ := ha.ex
  obtain ⟨u3, p3, s3⟩ := hb.ex
  refine ⟨_, pe_ifExp p p2 p3, fun F0 H0 F H σ ρ bb hE hf Q q => ?_⟩
  obtain ⟨x, e1, hf1⟩ := Option.bind_eq_some_iff.mp hf
  refine s F0 H0 F H σ ρ x hE e1 _ fun F1 H1 m1 => ?_
  cases x with
  | true =>
    rw [if_pos rfl] at hf1 ⊢
    exact s2 F0 H0 F1 H1 σ ρ bb (hE.move m1) hf1 _ fun v F2 H2 m2 d2 => q v F2 H2 (m1.trans m2) d2
  | false =>
    rw [if_neg Bool.false_ne_true] at hf1 ⊢
    exact s3 F0 H0 F1 H1 σ ρ bb (hE.move m1) hf1 _ fun v F2 H2 m2 d2 => q v F2 H2 (m1.trans m2) d2
/-! ### calls -/
def fCall (g : List D → Option D) (fl : Ro → Option (List D)) : Ro → Option D := fun ρ => (fl ρ).bind g
theorem pd_callB {x : Str} {p : Pos} {id : String} {r : List V → Hp → VK → Prop} {g : List D → Option D} (hc : CallR X (.builtin id) r) (hr : SemC X.K Ps r g) (hg : Gl X x) (hm : X.mg x = none) (hv : bootBuiltins x = some (.builtin id)) (ha : AD X Ps (e :: es) fl) (hn : x ≠ "__name__" := by decide) (hdb : (x == ("__debug__" : Str)) = false := by decide)
    (he : starEach (e :: es) X.env = (false, eval e X.env) :: starEach es X.env := by rfl) (hpl : (backTo pos (starEach es X.env)).any (·.1) = false := by rfl) : PD X Ps (.Call (.Name x p) (e :: es) [] pos) (fCall g fl) := by
  obtain ⟨t, p1, s⟩ := ha.ex
  refine ⟨_, pe_callB hc hg hm hv p1 hn hdb he hpl, fun F0 H0 F H σ ρ d hE hf Q q => ?_⟩
  obtain ⟨x, e1, hf1⟩ := Option.bind_eq_some_iff.mp hf
  exact s F0 H0 F H σ ρ x hE e1 _ fun vs F1 H1 m1 d1 => hr F1 H1 vs x d m1.refl' d1 hf1 Q fun v F2 H2 m2 d2 => q v F2 H2 (m1.trans m2) d2
theorem pd_callTy {x : Str} {p : Pos} {T : String} {r : List V → Hp → VK → Prop} {g : List D → Option D} (hc : CallR X (.type T) r) (hr : SemC X.K Ps r g) (hg : Gl X x) (hm : X.mg x = none) (hv : bootBuiltins x = some (.type T)) (ha : AD X Ps (e :: es) fl) (hn : x ≠ "__name__" := by decide) (hdb : (x == ("__debug__" : Str)) = false := by decide)
    (he : starEach (e :: es) X.env = (false, eval e X.env) :: starEach es X.env := by rfl) (hpl : (backTo pos (starEach es X.env)).any (·.1) = false := by rfl) : PD X Ps (.Call (.Name x p) (e :: es) [] pos) (fCall g fl) := by
  obtain ⟨t, p1, s⟩ := ha.ex
  refine ⟨_, pe_callTy hc hg hm hv p1 hn hdb he hpl, fun F0 H0 F H σ ρ d hE hf Q q => ?_⟩
  obtain ⟨x, e1, hf1⟩ := Option.bind_eq_some_iff.mp hf
  exact s F0 H0 F H σ ρ x hE e1 _ fun vs F1 H1 m1 d1 => hr F1 H1 vs x d m1.refl' d1 hf1 Q fun v F2 H2 m2 d2 => q v F2 H2 (m1.trans m2) d2
/-- the promise of a def by a function of data -/
def spD (K : PySem.W.Frag) (Ps : List Addr) (n : Nat) (g : List D → Option D) : Sp := fun vs H Q _ => vs.length = n ∧ ∃ F ds d, Ok Ps F H F H ∧ DpAll K F vs ds ∧ g ds = some d ∧ ∀ v F' H', Ok Ps F H F' H' → Dp K F' v d → Q v H'
theorem pd_call {x : Str} {p : Pos} {n k : Nat} {fa : Addr} {fd : FuncData} {ps : List Str} {g : List D → Option D} (G : FnOk X.prog X.w X.K X.mg X.base CX0 k fa fd ps (spD X.K Ps n g)) (hr : Room k X.A) (hg : Gl X x) (hm : X.mg x = some (.ref fa)) (hk : PySem.W.keepIn X.K (.ref fa) = true) (hb : Binds X.K fd ps [])
    (ha : AD X Ps (e :: es) fl) (hn : ∀ ρ ds, fl ρ = some ds → ds.length = n) (hdb : (x == ("__debug__" : Str)) = false := by decide) (he : starEach (e :: es) X.env = (false, eval e X.env) :: starEach es X.env := by rfl) (hpl : (backTo pos (starEach es X.env)).any (·.1) = false := by rfl) :
    PD X Ps (.Call (.Name x p) (e :: es) [] pos) (fCall g fl) := by
  obtain ⟨t, p1, s⟩ := ha.ex
  refine ⟨_, pe_call G hr hg hm hk hb .nil pass0 p1 hdb he hpl, fun F0 H0 F H σ ρ d hE hf Q q => ?_⟩
  obtain ⟨x, e1, hf1⟩ := Option.bind_eq_some_iff.mp hf
  refine s F0 H0 F H σ ρ x hE e1 _ fun vs F1 H1 m1 d1 => ?_
  show spD X.K Ps n g (vs ++ []) H1 Q E0
  rw [List.append_nil]
  exact ⟨by rw [dpAll_len d1]; exact hn ρ x e1, F1, x, d, m1.refl', d1, hf1, fun v F2 H2 m2 d2 => q v F2 H2 (m1.trans m2) d2⟩
end
end FL
set_option maxHeartbeats 4000000
/-! FL3: statements, walks, loops, comprehensions, defs. -/
namespace FL
open PySem PySem.Spec PyProof.Rows L2

inductive Out where
  | nx (ρ : Ro)
  | rt (d : D)
  | bk (ρ : Ro)
  | ct (ρ : Ro)
/-- what follows takes the outcome o -/
def MeetsO (K : PySem.W.Frag) (Ps : List Addr) (F0 H0 F : Hp) (o : Out) (E : Ends) : Prop := match o with
  | .nx ρ => ∀ F' H σ, EnvOk K Ps F0 H0 F' H σ ρ → Same F F' → E.nx σ H
  | .bk ρ => ∀ F' H σ, EnvOk K Ps F0 H0 F' H σ ρ → Same F F' → E.bk σ H
  | .ct ρ => ∀ F' H σ, EnvOk K Ps F0 H0 F' H σ ρ → Same F F' → E.ct σ H
  | .rt d => ∀ F' H v, Ok Ps F0 H0 F' H → Dp K F' v d → E.rt v H
theorem MeetsO.mono {K : PySem.W.Frag} {Ps : List Addr} {F0 H0 F F1 : Hp} {o : Out} {E : Ends} (h : MeetsO K Ps F0 H0 F o E) (g : Same F F1) : MeetsO K Ps F0 H0 F1 o E := by
  cases o with
  | nx ρ => exact fun F' H σ hE g' => h F' H σ hE (g.trans g')
  | bk ρ => exact fun F' H σ hE g' => h F' H σ hE (g.trans g')
  | ct ρ => exact fun F' H σ hE g' => h F' H σ hE (g.trans g')
  | rt d => exact h
def SemS (K : PySem.W.Frag) (Ps : List Addr) (t : TS) (f : Ro → Option Out) : Prop :=
  ∀ (F0 H0 F H : Hp) (σ : L2.St) (ρ : Ro) (o : Out) (E : Ends), EnvOk K Ps F0 H0 F H σ ρ → f ρ = some o → MeetsO K Ps F0 H0 F o E → t E σ H
structure SD (X : Cx) (Ps : List Addr) (st : Stmt) (f : Ro → Option Out) : Prop where
  ex : ∃ t, PS X st t ∧ SemS X.K Ps t f
structure BD (X : Cx) (Ps : List Addr) (sts : List Stmt) (f : Ro → Option Out) : Prop where
  ex : ∃ t, PSs X sts t ∧ SemS X.K Ps t f

section
variable {X : Cx} {Ps : List Addr} {e a b c : Expr} {es : List Expr} {f f1 f3 : Ro → Option D} {fl : Ro → Option (List D)} {ft fu : Ro → Option Bool} {g h : Ro → Option Out} {pos : Pos} {st : Stmt} {rest : List Stmt}
def fNext : Ro → Option Out := fun ρ => some (.nx ρ)
def fSeq (g h : Ro → Option Out) : Ro → Option Out := fun ρ => (g ρ).bind fun o => match o with
  | .nx ρ' => h ρ'
  | o => some o
theorem bd_nil : BD X Ps [] fNext := ⟨_, pss_nil, fun F0 H0 F H σ ρ o E hE hf q => by cases hf; exact q F H σ hE (Same.refl _)⟩
theorem bd_cons (p : SD X Ps st g) (r : BD X Ps rest h) : BD X Ps (st :: rest) (fSeq g h) := by
  obtain ⟨t, p1, s1⟩ := p.ex
  obtain ⟨u, p2, s2⟩ := r.ex
  refine ⟨_, pss_cons p1 p2, fun F0 H0 F H σ ρ o E hE hf q => ?_⟩
  obtain ⟨o1, e1, hf1⟩ := Option.bind_eq_some_iff.mp hf
  refine s1 F0 H0 F H σ ρ o1 _ hE e1 ?_
  cases o1 with
  | nx ρ' => exact fun F' H' σ' hE' g' => s2 F0 H0 F' H' σ' ρ' o E hE' hf1 (q.mono g')
  | rt d => cases hf1; exact q
  | bk ρ' => cases hf1; exact q
  | ct ρ' => cases hf1; exact q
theorem bd_one (p : SD X Ps st g) : BD X Ps [st] g := by
  obtain ⟨t, p1, s1⟩ := p.ex
  exact ⟨t, pss_one p1, s1⟩
theorem sd_pass : SD X Ps (.Pass pos) fNext := ⟨_, ps_pass, fun F0 H0 F H σ ρ o E hE hf q => by cases hf; exact q F H σ hE (Same.refl _)⟩
theorem sd_break : SD X Ps (.Break pos) (fun ρ => some (.bk ρ)) := ⟨_, ps_break, fun F0 H0 F H σ ρ o E hE hf q => by cases hf; exact q F H σ hE (Same.refl _)⟩
theorem sd_cont : SD X Ps (.Continue pos) (fun ρ => some (.ct ρ)) := ⟨_, ps_continue, fun F0 H0 F H σ ρ o E hE hf q => by cases hf; exact q F H σ hE (Same.refl _)⟩
def fRet (f : Ro → Option D) : Ro → Option Out := fun ρ => (f ρ).map .rt
theorem sd_ret (p : PD X Ps e f) : SD X Ps (.Return (some e) pos) (fRet f) := by
  obtain ⟨t, p1, s1⟩ := p.ex
  refine ⟨_, ps_ret p1, fun F0 H0 F H σ ρ o E hE hf q => ?_⟩
  obtain ⟨d, e1, hf1⟩ := Option.map_eq_some_iff.mp hf
  subst hf1
  exact s1 F0 H0 F H σ ρ d hE e1 _ fun v F1 H1 m1 d1 => q F1 H1 v (hE.ok.trans m1) d1
theorem sd_retN : SD X Ps (.Return none pos) (fun _ => some (.rt .none)) := ⟨_, ps_retN, fun F0 H0 F H σ ρ o E hE hf q => by cases hf; exact q F H .non hE.ok .non⟩
def fIfS (ft : Ro → Option Bool) (g h : Ro → Option Out) : Ro → Option Out := fun ρ => (ft ρ).bind fun x => if x = true then g ρ else h ρ
theorem sd_if {sa sb : List Stmt} (p : TD X Ps c ft) (pa : BD X Ps sa g) (pb : BD X Ps sb h) : SD X Ps (.If c sa sb pos) (fIfS ft g h) := by
  obtain ⟨t, p1, s1⟩ := p.ex
  obtain ⟨u, p2, s2⟩ := pa.ex
  obtain ⟨w, p3, s3⟩ := pb.ex
  refine ⟨_, ps_if p1 p2 p3, fun F0 H0 F H σ ρ o E hE hf q => ?_⟩
  obtain ⟨x, e1, hf1⟩ := Option.bind_eq_some_iff.mp hf
  refine s1 F0 H0 F H σ ρ x hE e1 _ fun F1 H1 m1 => ?_
  cases x with
  | true =>
    rw [if_pos rfl] at hf1 ⊢
    exact s2 F0 H0 F1 H1 σ ρ o E (hE.move m1) hf1 (q.mono m1.grow)
  | false =>
    rw [if_neg Bool.false_ne_true] at hf1 ⊢
    exact s3 F0 H0 F1 H1 σ ρ o E (hE.move m1) hf1 (q.mono m1.grow)
def fSet (i : Nat) (f : Ro → Option D) : Ro → Option Out := fun ρ => (f ρ).map fun d => .nx (ρ.set i (.fz d))
theorem sd_set {i : Nat} {x : Str} {pos' : Pos} (hN : X.N.Nodup) (hi : X.N[i]? = some x) (hx : Loc X.env.scope x) (p : PD X Ps e f) (hs : swapsWith e (some (.Name x pos')) pos.line X.env = pure false := by rfl)
    (hf : X.fn x = true ∨ X.env.scope.names.lookup x = some .local := by first | exact .inl rfl | exact .inr rfl | assumption) : SD X Ps (.Assign [.Name x pos'] e pos) (fSet i f) := by
  obtain ⟨t, p1, s1⟩ := p.ex
  refine ⟨_, ps_set hN hi hx p1 hs hf, fun F0 H0 F H σ ρ o E hE hf q => ?_⟩
  obtain ⟨d, e1, hf1⟩ := Option.map_eq_some_iff.mp hf
  subst hf1
  exact s1 F0 H0 F H σ ρ d hE e1 _ fun v F1 H1 m1 d1 => q F1 H1 _ ((hE.move m1).set d1) m1.grow
def fSetO (i : Nat) (f : Ro → Option (List D)) : Ro → Option Out := fun ρ => (f ρ).map fun ds => .nx (ρ.set i (.ow ds))
theorem sd_setO {i : Nat} {x : Str} {pos' : Pos} (hN : X.N.Nodup) (hi : X.N[i]? = some x) (hx : Loc X.env.scope x) (p : LD X Ps e fl) (hs : swapsWith e (some (.Name x pos')) pos.line X.env = pure false := by rfl)
    (hf : X.fn x = true ∨ X.env.scope.names.lookup x = some .local := by first | exact .inl rfl | exact .inr rfl | assumption) : SD X Ps (.Assign [.Name x pos'] e pos) (fSetO i fl) := by
  obtain ⟨t, p1, s1⟩ := p.ex
  refine ⟨_, ps_set hN hi hx p1 hs hf, fun F0 H0 F H σ ρ o E hE hf q => ?_⟩
  obtain ⟨d, e1, hf1⟩ := Option.map_eq_some_iff.mp hf
  subst hf1
  exact s1 F0 H0 F H σ ρ d hE e1 _ fun a vs F1 H1 m1 hn hf ha d1 => q F1 H1 _ (hE.setO m1 hn hf ha d1) m1.grow
/-- ahead of a statement the list at slot i is frozen -/
def fFrz (i : Nat) (g : Ro → Option Out) : Ro → Option Out := fun ρ => match ρ[i]? with
  | some (.own w) => g (ρ.set i (.fz w.dat))
  | _ => g ρ
theorem sd_frz (i : Nat) (p : SD X Ps st g) : SD X Ps st (fFrz i g) := by
  obtain ⟨t, p1, s1⟩ := p.ex
  refine ⟨t, p1, fun F0 H0 F H σ ρ o E hE hf q => ?_⟩
  unfold fFrz at hf
  split at hf
  · rename_i ds e
    obtain ⟨F', g', hE'⟩ := hE.freezeW e
    exact s1 F0 H0 F' H σ _ o E hE' hf (q.mono g')
  · exact s1 F0 H0 F H σ ρ o E hE hf q
theorem bd_frz (i : Nat) {sts : List Stmt} (p : BD X Ps sts g) : BD X Ps sts (fFrz i g) := by
  obtain ⟨t, p1, s1⟩ := p.ex
  refine ⟨t, p1, fun F0 H0 F H σ ρ o E hE hf q => ?_⟩
  unfold fFrz at hf
  split at hf
  · rename_i ds e
    obtain ⟨F', g', hE'⟩ := hE.freezeW e
    exact s1 F0 H0 F' H σ _ o E hE' hf (q.mono g')
  · exact s1 F0 H0 F H σ ρ o E hE hf q
/-- an int at a name, op= -/
def fAug (i : Nat) (u : Int → Int → Int) (f : Ro → Option D) : Ro → Option Out := fun ρ => match ρ[i]? with
  | some (.fz (.int n)) => (f ρ).bind fun d => match d with
    | .int m => some (.nx (ρ.set i (.fz (.int (u n m)))))
    | _ => none
  | _ => none
theorem sd_aug {i : Nat} {x : Str} {op : Operator} {u : Int → Int → Int} {pos' : Pos} (hN : X.N.Nodup) (hi : X.N[i]? = some x) (hx : Loc X.env.scope x) (p : PD X Ps e f) (ho : PIp X op (ipI u)) (hf : X.fn x = true ∨ X.env.scope.names.lookup x = some .local := by first | exact .inl rfl | exact .inr rfl | assumption) :
    SD X Ps (.AugAssign (.Name x pos') op e pos) (fAug i u f) := by
  obtain ⟨t, p1, s1⟩ := p.ex
  refine ⟨_, ps_aug hN hi hx p1 ho hf, fun F0 H0 F H σ ρ o E hE hf q => ?_⟩
  unfold fAug at hf
  split at hf
  · rename_i n e0
    obtain ⟨d, e1, hf1⟩ := Option.bind_eq_some_iff.mp hf
    obtain ⟨v, e2, d2⟩ := hE.get e0
    cases d2
    refine ⟨_, e2, s1 F0 H0 F H σ ρ d hE e1 _ fun v F1 H1 m1 d1 => ?_⟩
    cases d with
    | int m =>
      cases hf1
      cases d1
      exact ⟨n, m, rfl, rfl, q F1 H1 _ ((hE.move m1).set (.int _)) m1.grow⟩
    | _ => cases hf1
  · cases hf

/-! ### the list that a slot alone holds: append, extend, pop, len, truth -/
def fApp (i : Nat) (f : Ro → Option D) : Ro → Option Out := fun ρ => match ρ[i]? with
  | some (.own (.lst ds)) => (f ρ).bind fun d => if ds.length < 1000000 then some (.nx (ρ.set i (.ow (ds ++ [d])))) else none
  | _ => none
theorem dpAll_one {K : PySem.W.Frag} {H : Hp} {v : V} {d : D} (h : Dp K H v d) : DpAll K H [v] [d] := .cons h .nil
theorem sd_app {i : Nat} {x : Str} {apos cpos p0 : Pos} (hN : X.N[i]? = some x := by rfl) (hv : Vis X.env.scope x := by first | exact Or.inl rfl | exact Or.inr (Or.inl rfl) | exact Or.inr (Or.inr rfl)) (hd : (x == ("__debug__" : Str)) = false := by decide) (hcd : (x == ("__classdict__" : Str)) = false := by decide)
    (p : PD X Ps e f) (hbase : attributeBase (.Name x p0) "append" X.env (eval (.Name x p0) X.env) = eval (.Name x p0) X.env := by rfl)
    (hfew : ((backTo cpos (starEach [e] X.env)).all (fun x => !x.1) && (backToKw cpos (keywordEach [] X.env)).all (fun x => x.1.isSome) && decide ([e].length + ([] : List Keyword).length + (if ([] : List Keyword).isEmpty then 0 else 1) < 30)) = true := by rfl)
    (hline : (apos.endLine == cpos.line) = true := by rfl) (hs : starEach [e] X.env = (false, eval e X.env) :: starEach [] X.env := by rfl) (hplain : (backTo cpos (starEach [] X.env)).any (·.1) = false := by rfl)
    (hsw : swapsWith (.Call (.Attribute (.Name x p0) "append" apos) [e] [] cpos) none pos.line X.env = pure false := by rfl) :
    SD X Ps (.Expr (.Call (.Attribute (.Name x p0) "append" apos) [e] [] cpos) pos) (fApp i f) := by
  obtain ⟨t, p1, s1⟩ := p.ex
  refine ⟨_, ps_expr (pe_bm PySem.F.plainAttrs_list PySem.F.slot_list_append PySem.F.type_list_append mt_append (pe_var hN hv hd hcd) (pa_cons p1 pa_nil hs) hbase hfew hline hs hplain) hsw, fun F0 H0 F H σ ρ o E hE hf q => ?_⟩
  unfold fApp at hf
  split at hf
  · rename_i ds e0
    obtain ⟨d, e1, hf1⟩ := Option.bind_eq_some_iff.mp hf
    split at hf1
    · rename_i hz
      cases hf1
      obtain ⟨a, vs, e2, h0, f0, e3, d3⟩ := hE.getO e0
      refine ⟨_, e2, .inl ⟨rfl, vs, SqL.of e3⟩, ?_⟩
      refine s1 F0 H0 F H σ ρ d hE e1 _ fun v F1 H1 m1 d1 => ?_
      have hE1 := hE.move m1
      obtain ⟨a', vs', e2', h0', f0', e3', d3'⟩ := hE1.getO e0
      rw [e2] at e2'
      cases e2'
      refine ⟨a, vs', v, rfl, rfl, e3', Nat.lt_of_lt_of_le (by rw [dpAll_len d3']; exact hz) (by decide), ?_⟩
      exact q F1 _ σ (hE1.mut e0 e2 (dpAll_app d3' (dpAll_one d1))) m1.grow
    · cases hf1
  · cases hf
/-- list.extend of a tuple -/
theorem list_extend_tup (l : Addr) (items : Array Value) (n : Nat) (b : Addr) (items2 : Array Value) (n2 : Nat) (dd : Option Addr) (sl : Array (Option Value)) (hs0 : ¬(!items.isEmpty && Builtin.List.listTooLong (items.size + items2.size)) = true) (hs1 : items.size ≤ sizeLine) (hs2 : items.size + items2.size ≤ sizeLine + 1) :
    Meets (Builtin.«list.extend» ⟨[.ref l, .ref b], []⟩) (fun _ R s => s.heap.get? l = some { cls := .type "list", dict := none, data := .seq items n, slots := #[] } ∧ s.heap.get? b = some { cls := .type "tuple", dict := dd, data := .seq items2 n2, slots := sl } ∧ R (.ok (.ret Value.none)) { s with heap := s.heap.update l (Obj.mapSeq fun x => x ++ items2), toks := s.toks }) :=
  .of_wp fun prog w A R s h => by
    obtain ⟨hp, g, d, tk, os⟩ := s; obtain ⟨hl, hb, h⟩ := h
    have f1 := AutoSeq1.idx_int; have f2 := AutoSeq1.sub_tuple_tuple; have f3 := AutoSeq1.sub_list_list; have f4 := AutoSeq1.sub_tuple_list; have f5 := AutoSeq1.sub_list_tuple
    have hz' : (items ++ items2).size ≤ sizeLine + 1 := by rw [Array.size_append]; exact hs2
    wp_walk using (wpAny_updateSeq hl rfl (hz := hs1) (_hz' := hz')), AutoSeq1.wpAny_loadPart' hl, AutoSeq1.wpAny_loadPart' hb
    exact ⟨_, rfl, h⟩
def rExtendT (K : PySem.W.Frag) : V → List V → Hp → VK → Prop := fun x vs H Q => ∃ l b xs zs, x = .ref l ∧ vs = [.ref b] ∧ H l = some (.lst xs) ∧ SqT K H b zs ∧ xs.length + zs.length ≤ sizeLine ∧ Q .non (upd H l (.lst (xs ++ zs)))
theorem mt_extendT : MtM X "list.extend" (rExtendT X.K) := by
  intro pins s σ H x vs v us Q I rx rv h
  obtain ⟨l, b, xs, zs, rfl, rfl, hH, hB, hz, q⟩ := h
  cases rx
  obtain ⟨u, rfl, ru⟩ := rv.one
  cases ru
  obtain ⟨z, its, n, r, hl, e⟩ := I.lstM hH
  obtain ⟨its2, r2, ⟨o2, e2, hc2, n2, hd2⟩, hl2⟩ := I.tuple hB
  have r2l := r2.length
  have hsz : its.toArray.size + its2.toArray.size ≤ sizeLine := by rw [List.size_toArray, List.size_toArray]; omega
  have hsz2 : its.toArray.size + its2.toArray.size ≤ sizeLine + 1 := by omega
  have hlong : ¬ (!its.toArray.isEmpty && Builtin.List.listTooLong (its.toArray.size + its2.toArray.size)) = true := by
    rw [notLongL hsz, Bool.and_false]
    exact Bool.false_ne_true
  obtain ⟨cls2, dd2, data2, sl2⟩ := o2
  simp only at hc2 hd2
  subst hc2 hd2
  refine call_meets PySem.F.slot_list_extend ⟨_, e, rfl⟩ PySem.F.entry_list_extend (PySem.F.args_list_extend_2 _ _)
    (list_extend_tup l its.toArray n b its2.toArray n2 dd2 sl2 hlong (by rw [List.size_toArray]; omega) hsz2) ⟨e, e2, ?_⟩
  refine ⟨.non, _, I.lset (its' := its ++ its2) hH e (by simp) (r.append r2) ?_, rfl, q⟩
  rw [List.length_append]
  omega
/-- x.extend(a tuple) -/
def fExt (i : Nat) (f : Ro → Option D) : Ro → Option Out := fun ρ => match ρ[i]? with
  | some (.own (.lst ds)) => (f ρ).bind fun d => match d with
    | .tuple zs => if ds.length + zs.length ≤ 1000000 then some (.nx (ρ.set i (.ow (ds ++ zs)))) else none
    | _ => none
  | _ => none
theorem sd_extT {i : Nat} {x : Str} {apos cpos p0 : Pos} (hN : X.N[i]? = some x := by rfl) (hv : Vis X.env.scope x := by first | exact Or.inl rfl | exact Or.inr (Or.inl rfl) | exact Or.inr (Or.inr rfl)) (hd : (x == ("__debug__" : Str)) = false := by decide) (hcd : (x == ("__classdict__" : Str)) = false := by decide)
    (p : PD X Ps e f) (hbase : attributeBase (.Name x p0) "extend" X.env (eval (.Name x p0) X.env) = eval (.Name x p0) X.env := by rfl)
    (hfew : ((backTo cpos (starEach [e] X.env)).all (fun x => !x.1) && (backToKw cpos (keywordEach [] X.env)).all (fun x => x.1.isSome) && decide ([e].length + ([] : List Keyword).length + (if ([] : List Keyword).isEmpty then 0 else 1) < 30)) = true := by rfl)
    (hline : (apos.endLine == cpos.line) = true := by rfl) (hs : starEach [e] X.env = (false, eval e X.env) :: starEach [] X.env := by rfl) (hplain : (backTo cpos (starEach [] X.env)).any (·.1) = false := by rfl)
    (hsw : swapsWith (.Call (.Attribute (.Name x p0) "extend" apos) [e] [] cpos) none pos.line X.env = pure false := by rfl) :
    SD X Ps (.Expr (.Call (.Attribute (.Name x p0) "extend" apos) [e] [] cpos) pos) (fExt i f) := by
  obtain ⟨t, p1, s1⟩ := p.ex
  refine ⟨_, ps_expr (pe_bm PySem.F.plainAttrs_list PySem.F.slot_list_extend PySem.F.type_list_extend mt_extendT (pe_var hN hv hd hcd) (pa_cons p1 pa_nil hs) hbase hfew hline hs hplain) hsw, fun F0 H0 F H σ ρ o E hE hf q => ?_⟩
  unfold fExt at hf
  split at hf
  · rename_i ds e0
    obtain ⟨d, e1, hf1⟩ := Option.bind_eq_some_iff.mp hf
    cases d with
    | tuple zs =>
      simp only at hf1
      split at hf1
      · rename_i hz
        cases hf1
        obtain ⟨a, vs, e2, h0, f0, e3, d3⟩ := hE.getO e0
        refine ⟨_, e2, .inl ⟨rfl, vs, SqL.of e3⟩, ?_⟩
        refine s1 F0 H0 F H σ ρ _ hE e1 _ fun v F1 H1 m1 d1 => ?_
        have hE1 := hE.move m1
        obtain ⟨a', vs', e2', h0', f0', e3', d3'⟩ := hE1.getO e0
        rw [e2] at e2'
        cases e2'
        have d1' := dp_mono hE1.ok.sub _ _ d1
        cases d1 with
        | @tup b ws _ hs1 ha1 =>
          cases d1' with
          | tup hs1' ha1' =>
            refine ⟨a, b, vs', ws, rfl, rfl, e3', ?_, ?_, ?_⟩
            · rcases hs1 with (h | ⟨o, h⟩) | h
              · exact .inl (.inl (hE1.ok.sub _ _ h))
              · exact .inl (.inr ⟨o, hE1.ok.sub _ _ h⟩)
              · exact .inr h
            · rw [dpAll_len d3', dpAll_len ha1]
              exact small_size hz
            · exact q F1 _ σ (hE1.mut e0 e2 (dpAll_app d3' ha1)) m1.grow
      · cases hf1
    | _ => cases hf1
  · cases hf
/-- y = x.pop() -/
def fPop (i j : Nat) : Ro → Option Out := fun ρ => match ρ[i]? with
  | some (.own (.lst ds)) => (ds[ds.length - 1]?).map fun d => .nx ((ρ.set i (.ow ds.dropLast)).set j (.fz d))
  | _ => none
theorem dpAll_dropLast {K : PySem.W.Frag} {H : Hp} : ∀ {ds : List D} {vs : List V}, DpAll K H vs ds → DpAll K H vs.dropLast ds.dropLast
  | [], _, h => by cases h; exact .nil
  | [d], _, h => by
    cases h with
    | cons h1 h2 => cases h2; exact .nil
  | d :: d' :: ds, _, h => by
    cases h with
    | cons h1 h2 =>
      cases h2 with
      | cons h3 h4 => exact .cons h1 (dpAll_dropLast (.cons h3 h4))
theorem sd_pop {i j : Nat} {x y : Str} {apos cpos p0 p1 : Pos} (hNd : X.N.Nodup) (hN : X.N[i]? = some x) (hj : X.N[j]? = some y) (hy : Loc X.env.scope y) (hv : Vis X.env.scope x := by first | exact Or.inl rfl | exact Or.inr (Or.inl rfl) | exact Or.inr (Or.inr rfl)) (hd : (x == ("__debug__" : Str)) = false := by decide) (hcd : (x == ("__classdict__" : Str)) = false := by decide)
    (hbase : attributeBase (.Name x p0) "pop" X.env (eval (.Name x p0) X.env) = eval (.Name x p0) X.env := by rfl) (hline : (apos.endLine == cpos.line) = true := by rfl)
    (hs : swapsWith (.Call (.Attribute (.Name x p0) "pop" apos) [] [] cpos) (some (.Name y p1)) pos.line X.env = pure false := by rfl) (hf : X.fn y = true ∨ X.env.scope.names.lookup y = some .local := by first | exact .inl rfl | exact .inr rfl | assumption) :
    SD X Ps (.Assign [.Name y p1] (.Call (.Attribute (.Name x p0) "pop" apos) [] [] cpos) pos) (fPop i j) := by
  refine ⟨_, ps_set hNd hj hy (pe_bm0 PySem.F.plainAttrs_list PySem.F.slot_list_pop PySem.F.type_list_pop mt_pop (pe_var hN hv hd hcd) hbase hline) hs hf, fun F0 H0 F H σ ρ o E hE hf q => ?_⟩
  unfold fPop at hf
  split at hf
  · rename_i ds e0
    obtain ⟨d, e1, hf1⟩ := Option.map_eq_some_iff.mp hf
    subst hf1
    obtain ⟨a, vs, e2, h0, f0, e3, d3⟩ := hE.getO e0
    obtain ⟨v, ev, dv⟩ := dpAll_get' d3 e1
    refine ⟨_, e2, .inl ⟨rfl, vs, SqL.of e3⟩, a, vs, v, rfl, rfl, e3, by rw [dpAll_len d3]; exact ev, ?_⟩
    exact q F _ _ ((hE.mut e0 e2 (dpAll_dropLast d3)).set dv) (Same.refl _)
  · cases hf
/-- len(x) > 0 by truth: while x, if x -/
def fTruO (i : Nat) : Ro → Option Bool := fun ρ => match ρ[i]? with
  | some (.own (.lst ds)) => some (!ds.isEmpty)
  | some (.fz (.list ds)) => some (!ds.isEmpty)
  | some (.fz (.tuple ds)) => some (!ds.isEmpty)
  | _ => none
theorem dp_empty {K : PySem.W.Frag} {H : Hp} {ds : List D} {vs : List V} (h : DpAll K H vs ds) : vs.isEmpty = ds.isEmpty := by
  cases h <;> rfl
theorem td_truO (i : Nat) {x : Str} {p0 : Pos} (hN : X.N[i]? = some x := by rfl) (hv : Vis X.env.scope x := by first | exact Or.inl rfl | exact Or.inr (Or.inl rfl) | exact Or.inr (Or.inr rfl)) (hd : (x == ("__debug__" : Str)) = false := by decide) (hcd : (x == ("__classdict__" : Str)) = false := by decide) :
    TD X Ps (.Name x p0) (fTruO i) := by
  refine ⟨_, pt_truth (pe_var hN hv hd hcd) (by intro _; rfl), fun F0 H0 F H σ ρ o hE hf Q q => ?_⟩
  unfold fTruO at hf
  split at hf
  · rename_i ds e0
    cases hf
    obtain ⟨a, vs, e2, h0, f0, e3, d3⟩ := hE.getO e0
    exact ⟨_, e2, _, .inl ⟨vs, SqL.of e3, by rw [dp_empty d3]⟩, q F H hE.ok.refl⟩
  · rename_i ds e0
    cases hf
    obtain ⟨v, e2, d2⟩ := hE.get e0
    have d3 := dp_mono hE.ok.sub _ _ d2
    cases d3 with
    | lst hs ha => exact ⟨_, e2, _, .inl ⟨_, hs, by rw [dp_empty ha]⟩, q F H hE.ok.refl⟩
  · rename_i ds e0
    cases hf
    obtain ⟨v, e2, d2⟩ := hE.get e0
    have d3 := dp_mono hE.ok.sub _ _ d2
    cases d3 with
    | tup hs ha => exact ⟨_, e2, _, .inr (.inl ⟨_, hs, by rw [dp_empty ha]⟩), q F H hE.ok.refl⟩
  · cases hf
end
end FL
set_option maxHeartbeats 4000000
/-! FL4: walks, targets, loops, comprehensions, defs. -/
namespace FL
open PySem PySem.Spec PyProof.Rows L2

/-- J yields ds, whatever is made meanwhile -/
def Wk (K : PySem.W.Frag) (Ps : List Addr) (J : It) (F : Hp) (ds : List D) : Prop :=
  ∀ (i : Nat) (F0 H0 F2 H2 : Hp), Ok Ps F0 H0 F2 H2 → Same F F2 →
    (∀ d, ds[i]? = some d → J.go i H2 ∧ ∀ x H3, J.yld i H2 x H3 → ∃ F3, Ok Ps F2 H2 F3 H3 ∧ Dp K F3 x d) ∧ (ds.length ≤ i → J.stop i H2)
def SemI (K : PySem.W.Frag) (Ps : List Addr) (wi : TI) (fs : Ro → Option (List D)) : Prop :=
  ∀ (F0 H0 F H : Hp) (σ : L2.St) (ρ : Ro) (ds : List D), EnvOk K Ps F0 H0 F H σ ρ → fs ρ = some ds → ∀ R : It → Hp → Prop, (∀ J F' H', Ok Ps F H F' H' → Wk K Ps J F' ds → R J H') → wi σ H R
structure ID (X : Cx) (Ps : List Addr) (tg e : Expr) (fs : Ro → Option (List D)) : Prop where
  ex : ∃ wi, PI X tg e wi ∧ SemI X.K Ps wi fs
def cI (K : PySem.W.Frag) (Ps : List Addr) (fs : Ro → Option (List D)) : TI := fun σ H R => ∃ F0 H0 F ρ ds, EnvOk K Ps F0 H0 F H σ ρ ∧ fs ρ = some ds ∧ ∀ J F' H', Ok Ps F H F' H' → Wk K Ps J F' ds → R J H'
theorem ID.c {X : Cx} {Ps : List Addr} {tg e : Expr} {fs : Ro → Option (List D)} (h : ID X Ps tg e fs) : PI X tg e (cI X.K Ps fs) := by
  obtain ⟨t, p, s⟩ := h.ex
  exact ⟨fun pins s0 σ H R I ⟨F0, H0, F, ρ, d, hE, hf, q⟩ => p.run pins s0 σ H R I (s F0 H0 F H σ ρ d hE hf R q)⟩
theorem cI_sem {K : PySem.W.Frag} {Ps : List Addr} {fs : Ro → Option (List D)} : SemI K Ps (cI K Ps fs) fs := fun F0 H0 F H σ ρ d hE hf R q => ⟨F0, H0, F, ρ, d, hE, hf, q⟩
theorem sqT_sub {K : PySem.W.Frag} {F H : Hp} (g : Same F H) {a : Addr} {xs : List V} (h : SqT K F a xs) : SqT K H a xs := by
  rcases h with (h | ⟨o, h⟩) | h
  · exact .inl (.inl (g _ _ h))
  · exact .inl (.inr ⟨o, g _ _ h⟩)
  · exact .inr h

section
variable {X : Cx} {Ps : List Addr} {e a b c tg : Expr} {es : List Expr} {f f1 f3 : Ro → Option D} {fl fs : Ro → Option (List D)} {ft fu : Ro → Option Bool} {g h : Ro → Option Out} {pos : Pos}
def seqL : D → Option (List D)
  | .list ds => some ds
  | _ => none
def seqT : D → Option (List D)
  | .tuple ds => some ds
  | _ => none
def signs (s : Str) : List D := s.cps.toList.map fun c => .str ⟨#[c]⟩
def seqS : D → Option (List D)
  | .str s => some (signs s)
  | _ => none
def fSq (k : D → Option (List D)) (f : Ro → Option D) : Ro → Option (List D) := fun ρ => (f ρ).bind k
theorem id_list (p : PD X Ps e f) : ID X Ps tg e (fSq seqL f) := by
  obtain ⟨t, p1, s1⟩ := p.ex
  refine ⟨_, pi_list p1, fun F0 H0 F H σ ρ ds hE hf R q => ?_⟩
  obtain ⟨d, e1, hf1⟩ := Option.bind_eq_some_iff.mp hf
  cases d with
  | list ds' =>
    cases hf1
    refine s1 F0 H0 F H σ ρ _ hE e1 _ fun v F1 H1 m1 d1 => ?_
    cases d1 with
    | @lst a vs _ hs ha =>
      refine ⟨a, rfl, ⟨vs, m1.sub.seq hs⟩, q _ F1 H1 m1 fun i F0' H0' F2 H2 hO g => ⟨fun d hd => ?_, fun hl => ⟨vs, hO.sub.seq (g.seq hs), by rw [dpAll_len ha]; exact hl⟩⟩⟩
      obtain ⟨v, hv, dv⟩ := dpAll_get' ha hd
      refine ⟨⟨vs, v, hO.sub.seq (g.seq hs), hv⟩, fun x H3 y => ?_⟩
      obtain ⟨rfl, y⟩ := y
      have := y vs (hO.sub.seq (g.seq hs))
      rw [hv] at this
      cases this
      exact ⟨F2, hO.refl, dp_mono g _ _ dv⟩
  | _ => cases hf1
theorem id_tup (p : PD X Ps e f) : ID X Ps tg e (fSq seqT f) := by
  obtain ⟨t, p1, s1⟩ := p.ex
  refine ⟨_, pi_tup p1, fun F0 H0 F H σ ρ ds hE hf R q => ?_⟩
  obtain ⟨d, e1, hf1⟩ := Option.bind_eq_some_iff.mp hf
  cases d with
  | tuple ds' =>
    cases hf1
    refine s1 F0 H0 F H σ ρ _ hE e1 _ fun v F1 H1 m1 d1 => ?_
    cases d1 with
    | @tup a vs _ hs ha =>
      refine ⟨a, rfl, ⟨vs, sqT_sub m1.sub hs⟩, q _ F1 H1 m1 fun i F0' H0' F2 H2 hO g => ⟨fun d hd => ?_, fun hl => ⟨vs, sqT_sub hO.sub (sqT_sub g hs), by rw [dpAll_len ha]; exact hl⟩⟩⟩
      obtain ⟨v, hv, dv⟩ := dpAll_get' ha hd
      refine ⟨⟨vs, v, sqT_sub hO.sub (sqT_sub g hs), hv⟩, fun x H3 y => ?_⟩
      obtain ⟨rfl, y⟩ := y
      have := y vs (sqT_sub hO.sub (sqT_sub g hs))
      rw [hv] at this
      cases this
      exact ⟨F2, hO.refl, dp_mono g _ _ dv⟩
  | _ => cases hf1
theorem id_str (p : PD X Ps e f) : ID X Ps tg e (fSq seqS f) := by
  obtain ⟨t, p1, s1⟩ := p.ex
  refine ⟨_, pi_str p1, fun F0 H0 F H σ ρ ds hE hf R q => ?_⟩
  obtain ⟨d, e1, hf1⟩ := Option.bind_eq_some_iff.mp hf
  cases d with
  | str z =>
    cases hf1
    refine s1 F0 H0 F H σ ρ _ hE e1 _ fun v F1 H1 m1 d1 => ?_
    cases d1
    refine ⟨z, rfl, q _ F1 H1 m1 fun i F0' H0' F2 H2 hO g => ⟨fun d hd => ?_, fun hl => ?_⟩⟩
    · unfold signs at hd
      rw [List.getElem?_map] at hd
      obtain ⟨c, hc, rfl⟩ := Option.map_eq_some_iff.mp hd
      have hc' : z.cps[i]? = some c := by rw [← Array.getElem?_toList]; exact hc
      refine ⟨(Array.getElem?_eq_some_iff.mp hc').1, fun x H3 y => ?_⟩
      obtain ⟨rfl, c', h1, rfl⟩ := y
      rw [hc'] at h1
      cases h1
      exact ⟨F2, hO.refl, .str _⟩
    · unfold signs at hl
      rw [List.length_map] at hl
      show z.cps.size ≤ i
      simpa using hl
  | _ => cases hf1
/-- range(n) -/
def rngN (n : Int) : List D := (List.range n.toNat).map fun (i : Nat) => .int (i : Int)
def seqR : List D → Option (List D)
  | [.int n] => if -1000000 ≤ n ∧ n ≤ 1000000 then some (rngN n) else none
  | _ => none
def fRng (fl : Ro → Option (List D)) : Ro → Option (List D) := fun ρ => (fl ρ).bind seqR
theorem id_range {p : Pos} (hg : Gl X "range") (hm : X.mg "range" = none) (pa : AD X Ps [a] fl) (hs : starEach [a] X.env = [(false, eval a X.env)] := by rfl) : ID X Ps tg (.Call (.Name "range" p) [a] [] pos) (fRng fl) := by
  obtain ⟨t, p1, s1⟩ := pa.ex
  refine ⟨_, pi_range1 hg hm p1 hs, fun F0 H0 F H σ ρ ds hE hf R q => ?_⟩
  obtain ⟨xs, e1, hf1⟩ := Option.bind_eq_some_iff.mp hf
  unfold seqR at hf1
  split at hf1
  · rename_i n
    split at hf1
    · rename_i hn
      cases hf1
      refine s1 F0 H0 F H σ ρ _ hE e1 _ fun vs F1 H1 m1 d1 => ?_
      cases d1 with
      | cons d1 d2 =>
        cases d2
        cases d1
        refine ⟨n, rfl, by omega, by omega, q _ F1 H1 m1 fun i F0' H0' F2 H2 hO g => ⟨fun d hd => ?_, fun hl => ?_⟩⟩
        · unfold rngN at hd
          rw [List.getElem?_map] at hd
          obtain ⟨c, hc, rfl⟩ := Option.map_eq_some_iff.mp hd
          obtain ⟨hi, ei⟩ := List.getElem?_eq_some_iff.mp hc
          rw [List.length_range] at hi
          rw [List.getElem_range] at ei
          subst ei
          refine ⟨hi, fun x H3 y => ?_⟩
          obtain ⟨rfl, rfl⟩ := y
          refine ⟨F2, hO.refl, ?_⟩
          rw [Int.zero_add]
          exact .int _
        · unfold rngN at hl
          rw [List.length_map, List.length_range] at hl
          exact hl
    · cases hf1
  · cases hf1

/-- what is held alone was so before -/
def OwnSub (σ : L2.St) (ρ : Ro) (σ' : L2.St) (ρ' : Ro) : Prop := ∀ (k : Nat) es, ρ'[k]? = some (.own es) → ρ[k]? = some (.own es) ∧ σ'[k]? = σ[k]?
theorem OwnSub.trans {σ σ1 σ2 : L2.St} {ρ ρ1 ρ2 : Ro} (a : OwnSub σ ρ σ1 ρ1) (b : OwnSub σ1 ρ1 σ2 ρ2) : OwnSub σ ρ σ2 ρ2 := fun k es h => by
  obtain ⟨h1, h2⟩ := b k es h
  obtain ⟨h3, h4⟩ := a k es h1
  exact ⟨h3, h2.trans h4⟩
theorem OwnSub.set {σ : L2.St} {ρ : Ro} (i : Nat) (v : Option V) (d : D) : OwnSub σ ρ (σ.set i v) (ρ.set i (.fz d)) := fun k es h => by
  have n : i ≠ k := fun z => by
    subst z
    have hi : i < ρ.length := by
      have := (List.getElem?_eq_some_iff.mp h).1
      simpa using this
    rw [List.getElem?_set_self hi] at h
    cases h
  rw [List.getElem?_set_ne n] at h
  exact ⟨h, List.getElem?_set_ne n⟩

/-! ### targets -/
def SemG (K : PySem.W.Frag) (Ps : List Addr) (g : TG) (js : List Nat) (fg : D → Ro → Option Ro) : Prop :=
  ∀ (F0 H0 F H : Hp) (σ : L2.St) (ρ : Ro) (v : V) (d : D) (ρ' : Ro), EnvOk K Ps F0 H0 F H σ ρ → Dp K F v d → fg d ρ = some ρ' → ∀ Q : L2.St → Hp → Prop,
    (∀ σ', EnvOk K Ps F0 H0 F H σ' ρ' → σ'.length = σ.length → (∀ k, k ∉ js → σ'[k]? = σ[k]?) → OwnSub σ ρ σ' ρ' → Q σ' H) → g v σ H Q
def SemGs (K : PySem.W.Frag) (Ps : List Addr) (g : TGs) (js : List Nat) (fg : List D → Ro → Option Ro) : Prop :=
  ∀ (F0 H0 F H : Hp) (σ : L2.St) (ρ : Ro) (vs : List V) (ds : List D) (ρ' : Ro), EnvOk K Ps F0 H0 F H σ ρ → DpAll K F vs ds → fg ds ρ = some ρ' → ∀ Q : L2.St → Hp → Prop,
    (∀ σ', EnvOk K Ps F0 H0 F H σ' ρ' → σ'.length = σ.length → (∀ k, k ∉ js → σ'[k]? = σ[k]?) → OwnSub σ ρ σ' ρ' → Q σ' H) → g vs σ H Q
structure GD (X : Cx) (Ps : List Addr) (tg : Expr) (js : List Nat) (fg : D → Ro → Option Ro) : Prop where
  ex : ∃ g, PG X tg g ∧ SemG X.K Ps g js fg
structure GsD (X : Cx) (Ps : List Addr) (tgs : List Expr) (js : List Nat) (fg : List D → Ro → Option Ro) : Prop where
  ex : ∃ g, PGs X tgs g ∧ SemGs X.K Ps g js fg
def cG (K : PySem.W.Frag) (Ps : List Addr) (js : List Nat) (fg : D → Ro → Option Ro) : TG := fun v σ H Q => ∃ F0 H0 F ρ d ρ', EnvOk K Ps F0 H0 F H σ ρ ∧ Dp K F v d ∧ fg d ρ = some ρ' ∧ (∀ σ', EnvOk K Ps F0 H0 F H σ' ρ' → σ'.length = σ.length → (∀ k, k ∉ js → σ'[k]? = σ[k]?) → OwnSub σ ρ σ' ρ' → Q σ' H)
theorem GD.can {js : List Nat} {fg : D → Ro → Option Ro} (h : GD X Ps tg js fg) : PG X tg (cG X.K Ps js fg) := by
  obtain ⟨t, p, s⟩ := h.ex
  exact ⟨fun pins s0 σ H v u Q I r ⟨F0, H0, F, ρ, d, ρ', hE, hd, hf, q⟩ => p.run pins s0 σ H v u Q I r (s F0 H0 F H σ ρ v d ρ' hE hd hf Q q)⟩
theorem cG_sem {K : PySem.W.Frag} {js : List Nat} {fg : D → Ro → Option Ro} : SemG K Ps (cG K Ps js fg) js fg := fun F0 H0 F H σ ρ v d ρ' hE hd hf Q q => ⟨F0, H0, F, ρ, d, ρ', hE, hd, hf, q⟩
def gN (i : Nat) : D → Ro → Option Ro := fun d ρ => some (ρ.set i (.fz d))
theorem gd_name {i : Nat} {x : Str} (hN : X.N.Nodup) (hi : X.N[i]? = some x) (hx : Loc X.env.scope x) (hf : X.fn x = true ∨ X.env.scope.names.lookup x = some .local := by first | exact .inl rfl | exact .inr rfl | assumption) : GD X Ps (.Name x pos) [i] (gN i) :=
  ⟨_, pg_name hN hi hx hf, fun F0 H0 F H σ ρ v d ρ' hE hd hf Q q => by
    cases hf
    exact q _ (hE.set hd) (by simp) (fun k hk => List.getElem?_set_ne (fun z => hk (by simp [z]))) (OwnSub.set i _ _)⟩
def gsN : List D → Ro → Option Ro
  | [], ρ => some ρ
  | _ :: _, _ => none
theorem gsd_nil : GsD X Ps [] [] gsN := ⟨_, pgs_nil, fun F0 H0 F H σ ρ vs ds ρ' hE hd hf Q q => by
  cases ds with
  | nil =>
    cases hd
    cases hf
    exact ⟨rfl, q σ hE rfl (fun _ _ => rfl) fun _ _ h => ⟨h, rfl⟩⟩
  | cons _ _ => cases hf⟩
def gsC (g : D → Ro → Option Ro) (gs : List D → Ro → Option Ro) : List D → Ro → Option Ro
  | [], _ => none
  | d :: ds, ρ => (g d ρ).bind fun ρ1 => gs ds ρ1
theorem gsd_cons {js js' : List Nat} {fg : D → Ro → Option Ro} {fgs : List D → Ro → Option Ro} (p : GD X Ps e js fg) (r : GsD X Ps es js' fgs) (hs : (assignEach (e :: es) X.env).map (·.2) = assign e X.env :: (assignEach es X.env).map (·.2) := by rfl) : GsD X Ps (e :: es) (js ++ js') (gsC fg fgs) := by
  obtain ⟨t, p1, s1⟩ := p.ex
  obtain ⟨u, p2, s2⟩ := r.ex
  refine ⟨_, pgs_cons p1 p2 hs, fun F0 H0 F H σ ρ vs ds ρ' hE hd hf Q q => ?_⟩
  cases hd with
  | nil => cases hf
  | @cons v vs d ds h1 h2 =>
    obtain ⟨ρ1, e1, hf1⟩ := Option.bind_eq_some_iff.mp hf
    refine ⟨v, vs, rfl, s1 F0 H0 F H σ ρ v d ρ1 hE h1 e1 _ fun σ1 hE1 l1 k1 w1 => ?_⟩
    exact s2 F0 H0 F H σ1 ρ1 vs ds ρ' hE1 h2 hf1 Q fun σ2 hE2 l2 k2 w2 => q σ2 hE2 (l2.trans l1) (fun k hk => by
      rw [List.mem_append, not_or] at hk
      exact (k2 k hk.2).trans (k1 k hk.1)) (w1.trans w2)
def gT (n : Nat) (gs : List D → Ro → Option Ro) : D → Ro → Option Ro
  | .tuple ds, ρ => if ds.length = n then gs ds ρ else none
  | _, _ => none
theorem gd_tup {k n : Nat} {js : List Nat} {fgs : List D → Ro → Option Ro} (hc : X.calm = true) (p : GsD X Ps es js fgs) (hn : (assignEach es X.env).length = n := by rfl) (hst : (assignEach es X.env).findIdx? (·.1) = none := by rfl) : GD X Ps (.Tuple es k pos) js (gT n fgs) := by
  obtain ⟨t, p1, s1⟩ := p.ex
  refine ⟨_, pg_tup hc p1 hn hst, fun F0 H0 F H σ ρ v d ρ' hE hd hf Q q => ?_⟩
  cases d with
  | tuple ds =>
    cases hd with
    | @tup a vs _ hs ha =>
      have hf : (if ds.length = n then fgs ds ρ else none) = some ρ' := hf
      split at hf
      · rename_i hl
        exact ⟨a, vs, rfl, sqT_sub hE.ok.sub hs, (dpAll_len ha).trans hl, s1 F0 H0 F H σ ρ vs ds ρ' hE ha hf Q q⟩
      · cases hf
  | _ => cases hf
def fAsg (fg : D → Ro → Option Ro) (f : Ro → Option D) : Ro → Option Out := fun ρ => (f ρ).bind fun d => (fg d ρ).map .nx
theorem sd_asg {js : List Nat} {fg : D → Ro → Option Ro} (p : PD X Ps e f) (pg : GD X Ps tg js fg) (hs : swapsWithSole [tg] e pos.line X.env = pure false := by rfl) (hw : swappedStores [tg] e X.env = pure none := by rfl)
    (h1 : (assignEach [tg] X.env).map (·.2) = [assign tg X.env] := by rfl) : SD X Ps (.Assign [tg] e pos) (fAsg fg f) := by
  obtain ⟨t, p1, s1⟩ := p.ex
  obtain ⟨u, p2, s2⟩ := pg.ex
  refine ⟨_, ps_asg p1 p2 hs hw h1, fun F0 H0 F H σ ρ o E hE hf q => ?_⟩
  obtain ⟨d, e1, hf1⟩ := Option.bind_eq_some_iff.mp hf
  obtain ⟨ρ1, e2, rfl⟩ := Option.map_eq_some_iff.mp hf1
  exact s1 F0 H0 F H σ ρ d hE e1 _ fun v F1 H1 m1 d1 => s2 F0 H0 F1 H1 σ ρ v d ρ1 (hE.move m1) d1 e2 _ fun σ' hE' _ _ _ => q F1 H1 σ' hE' m1.grow

/-! ### for, while -/
def loopF (fg : D → Ro → Option Ro) (fb : Ro → Option Out) : List D → Ro → Option Out
  | [], ρ => some (.nx ρ)
  | d :: ds, ρ => (fg d ρ).bind fun ρ1 => (fb ρ1).bind fun o => match o with
    | .nx ρ2 => loopF fg fb ds ρ2
    | .ct ρ2 => loopF fg fb ds ρ2
    | .bk ρ2 => some (.nx ρ2)
    | .rt d => some (.rt d)
def fFor (fs : Ro → Option (List D)) (fg : D → Ro → Option Ro) (fb : Ro → Option Out) : Ro → Option Out := fun ρ => (fs ρ).bind fun ds => loopF fg fb ds ρ
theorem sd_for {js : List Nat} {fg : D → Ro → Option Ro} {fb : Ro → Option Out} {body : List Stmt} (hp : PassesOwn (model X.prog X.w) X.A X.env X.xe) (hc : X.calm = true) (pi : ID X Ps tg e fs) (pg : GD X Ps tg js fg) (pb : BD X Ps body fb)
    (hs : ∀ x, foldedSetIterable e X.env x = pure x := by intro _; rfl) : SD X Ps (.For tg e body [] pos) (fFor fs fg fb) := by
  obtain ⟨wi, p1, s1⟩ := pi.ex
  obtain ⟨tg', p2, s2⟩ := pg.ex
  obtain ⟨tb, p3, s3⟩ := pb.ex
  refine ⟨_, ps_for hp hc p1 p2 p3 hs, fun F0 H0 F H σ ρ o E hE hf q => ?_⟩
  obtain ⟨ds, e1, hf1⟩ := Option.bind_eq_some_iff.mp hf
  refine s1 F0 H0 F H σ ρ ds hE e1 _ fun J F1 H1 m1 wk => ?_
  refine ⟨fun i m σ' H' => m = ds.length - i ∧ i ≤ ds.length ∧ ∃ F' ρ', EnvOk X.K Ps F0 H0 F' H' σ' ρ' ∧ Same F1 F' ∧ loopF fg fb (ds.drop i) ρ' = some o, ⟨_, rfl, Nat.zero_le _, F1, ρ, hE.move m1, Same.refl _, hf1⟩, ?_⟩
  rintro i m σ' H' ⟨rfl, hi, F', ρ', hE', g', hl⟩
  obtain ⟨hgo, hst⟩ := wk i F0 H0 F' H' hE'.ok g'
  by_cases hlt : i < ds.length
  · have hd : ds[i]? = some ds[i] := List.getElem?_eq_getElem hlt
    obtain ⟨go, yl⟩ := hgo _ hd
    rw [List.drop_eq_getElem_cons hlt] at hl
    obtain ⟨ρ1, e2, hl1⟩ := Option.bind_eq_some_iff.mp hl
    obtain ⟨o1, e3, hl2⟩ := Option.bind_eq_some_iff.mp hl1
    refine .inr ⟨go, fun σ2 H2 => ∃ F2 ρ2, EnvOk X.K Ps F0 H0 F2 H2 σ2 ρ2 ∧ Same F1 F2 ∧ loopF fg fb (ds.drop (i + 1)) ρ2 = some o, fun σ2 H2 w => ⟨ds.length - (i + 1), by omega, rfl, hlt, w⟩, fun x H3 y => ?_⟩
    obtain ⟨F3, m3, d3⟩ := yl x H3 y
    refine s2 F0 H0 F3 H3 σ' ρ' x _ ρ1 (hE'.move m3) d3 e2 _ fun σ4 hE4 _ _ _ => ?_
    have g3 : Same F1 F3 := g'.trans m3.grow
    refine s3 F0 H0 F3 H3 σ4 ρ1 o1 _ hE4 e3 ?_
    cases o1 with
    | nx ρ2 => exact fun F5 H5 σ5 hE5 g5 => ⟨F5, ρ2, hE5, g3.trans g5, hl2⟩
    | ct ρ2 => exact fun F5 H5 σ5 hE5 g5 => ⟨F5, ρ2, hE5, g3.trans g5, hl2⟩
    | bk ρ2 =>
      cases hl2
      exact fun F5 H5 σ5 hE5 g5 => q F5 H5 σ5 hE5 ((m1.grow.trans g3).trans g5)
    | rt d =>
      cases hl2
      exact q
  · have e : i = ds.length := by omega
    subst e
    rw [List.drop_length] at hl
    cases hl
    exact .inl ⟨hst (Nat.le_refl _), q F' H' σ' hE' (m1.grow.trans g')⟩
def whileF (ft : Ro → Option Bool) (fb : Ro → Option Out) : Nat → Ro → Option Out
  | 0, _ => none
  | n + 1, ρ => (ft ρ).bind fun b => if b = true then (fb ρ).bind fun o => match o with
      | .nx ρ2 => whileF ft fb n ρ2
      | .ct ρ2 => whileF ft fb n ρ2
      | .bk ρ2 => some (.nx ρ2)
      | .rt d => some (.rt d)
    else some (.nx ρ)
theorem sd_while {fb : Ro → Option Out} {body : List Stmt} (n : Nat) (hp : PassesOwn (model X.prog X.w) X.A X.env X.xe) (pc : TD X Ps c ft) (pb : BD X Ps body fb) : SD X Ps (.While c body [] pos) (whileF ft fb n) := by
  obtain ⟨tc, p1, s1⟩ := pc.ex
  obtain ⟨tb, p3, s3⟩ := pb.ex
  refine ⟨_, ps_while hp p1 p3, fun F0 H0 F H σ ρ o E hE hf q => ?_⟩
  refine ⟨fun m σ' H' => ∃ F' ρ', EnvOk X.K Ps F0 H0 F' H' σ' ρ' ∧ Same F F' ∧ whileF ft fb m ρ' = some o, ⟨n, F, ρ, hE, Same.refl _, hf⟩, ?_⟩
  rintro m σ' H' ⟨F', ρ', hE', g', hl⟩
  cases m with
  | zero => cases hl
  | succ m =>
    obtain ⟨b, e1, hl1⟩ := Option.bind_eq_some_iff.mp hl
    refine s1 F0 H0 F' H' σ' ρ' b hE' e1 _ fun F1 H1 m1 => ?_
    cases b with
    | true =>
      rw [if_pos rfl] at hl1 ⊢
      obtain ⟨o1, e3, hl2⟩ := Option.bind_eq_some_iff.mp hl1
      refine ⟨fun σ2 H2 => ∃ F2 ρ2, EnvOk X.K Ps F0 H0 F2 H2 σ2 ρ2 ∧ Same F F2 ∧ whileF ft fb m ρ2 = some o, fun σ2 H2 w => ⟨m, Nat.lt_succ_self m, w⟩, ?_⟩
      refine s3 F0 H0 F1 H1 σ' ρ' o1 _ (hE'.move m1) e3 ?_
      have g1 : Same F F1 := g'.trans m1.grow
      cases o1 with
      | nx ρ2 => exact fun F5 H5 σ5 hE5 g5 => ⟨F5, ρ2, hE5, g1.trans g5, hl2⟩
      | ct ρ2 => exact fun F5 H5 σ5 hE5 g5 => ⟨F5, ρ2, hE5, g1.trans g5, hl2⟩
      | bk ρ2 =>
        cases hl2
        exact fun F5 H5 σ5 hE5 g5 => q F5 H5 σ5 hE5 (g1.trans g5)
      | rt d =>
        cases hl2
        exact q
    | false =>
      rw [if_neg Bool.false_ne_true] at hl1 ⊢
      cases hl1
      exact q F1 H1 σ' (hE'.move m1) (g'.trans m1.grow)
end
end FL
set_option maxHeartbeats 4000000
/-! FL5: comprehensions, the rule of a def. -/
namespace FL
open PySem PySem.Spec PyProof.Rows L2

theorem wipe_in {σ : L2.St} {k : Nat} : ∀ {vs : List Nat}, k ∈ vs → k < σ.length → (wipe σ vs)[k]? = some none
  | v :: vs, h, hk => by
    unfold wipe
    by_cases q : v = k
    · subst q
      exact List.getElem?_set_self (by rw [wipe_length]; exact hk)
    · rw [List.getElem?_set_ne q]
      rcases List.mem_cons.mp h with z | z
      · exact absurd z.symm q
      · exact wipe_in z hk
theorem wipe_same {σ σ2 : L2.St} {vs js : List Nat} (hj : ∀ j ∈ js, j ∈ vs) (hl : σ2.length = σ.length) (hk : ∀ k, k ∉ js → σ2[k]? = (wipe σ vs)[k]?) : wipe σ2 vs = wipe σ vs := by
  apply List.ext_getElem?
  intro k
  by_cases h : k ∈ vs
  · by_cases hlt : k < σ.length
    · rw [wipe_in h hlt, wipe_in h (by rw [hl]; exact hlt)]
    · rw [List.getElem?_eq_none (by rw [wipe_length, hl]; omega), List.getElem?_eq_none (by rw [wipe_length]; omega)]
  · rw [wipe_out h]
    exact hk k fun z => h (hj k z)

def NotOwn (A : Addr) (σ : L2.St) (ρ : Ro) : Prop := ∀ (k : Nat) es, ρ[k]? = some (.own es) → σ[k]? ≠ some (some (.ref A))
theorem NotOwn.sub {A : Addr} {σ σ' : L2.St} {ρ ρ' : Ro} (h : NotOwn A σ ρ) (w : OwnSub σ ρ σ' ρ') : NotOwn A σ' ρ' := fun k es e => by
  obtain ⟨h1, h2⟩ := w k es e
  rw [h2]
  exact h k es h1
theorem EnvOk.notOwn {K : PySem.W.Frag} {Ps : List Addr} {F0 H0 F H : Hp} {σ : L2.St} {ρ : Ro} (h : EnvOk K Ps F0 H0 F H σ ρ) {A : Addr} (hA : H A = none) : NotOwn A σ ρ := fun k es e z => by
  obtain ⟨a, vs, e1, _, _, e2, _⟩ := h.getW e
  rw [z] at e1
  cases e1
  rw [hA] at e2
  cases e2
theorem EnvOk.mutOut {K : PySem.W.Frag} {Ps : List Addr} {F0 H0 F H : Hp} {σ : L2.St} {ρ : Ro} (h : EnvOk K Ps F0 H0 F H σ ρ) {A : Addr} {xs ys : List V} (h0 : H0 A = none) (f0 : F A = none) (e : H A = some (.lst xs)) (no : NotOwn A σ ρ) : EnvOk K Ps F0 H0 F (upd H A (.lst ys)) σ ρ where
  ok := h.ok.mut h0 f0 e
  len := h.len
  dis := h.dis
  slot := fun i s en hs he => by
    have r := h.slot i s en hs he
    cases en with
    | no => exact True.intro
    | fz d => exact r
    | own ds =>
      obtain ⟨b, ws, e5, h5, f5, e6, d5⟩ := r
      refine ⟨b, ws, e5, h5, f5, ?_, d5⟩
      have z : b ≠ A := fun z => by
        subst z
        rw [e5] at hs
        exact no i ds he hs
      rw [upd_ne z]
      exact e6

def TsD (X : Cx) (Ps : List Addr) (ifs : List Expr) (ft : Ro → Option Bool) : Prop := PTs X ifs (cT X.K Ps ft)
section
variable {X : Cx} {Ps : List Addr} {e a b c tg : Expr} {es : List Expr} {f f1 f3 : Ro → Option D} {fl fs : Ro → Option (List D)} {ft fu : Ro → Option Bool} {g h : Ro → Option Out} {pos : Pos}
def fYes : Ro → Option Bool := fun _ => some true
theorem tsd_nil : TsD X Ps [] fYes := ⟨fun pins s σ H Q I ⟨F0, H0, F, ρ, d, hE, hf, q⟩ => by cases hf; exact pts_nil.run pins s σ H Q I (q F H hE.ok.refl)⟩
theorem tsd_one (p : TD X Ps e ft) : TsD X Ps [e] ft := pts_one p.c

def lcF (fg : D → Ro → Option Ro) (ft : Ro → Option Bool) (fe : Ro → Option D) (ρ0 : Ro) : List D → List D → Option (List D)
  | [], acc => some acc
  | x :: xs, acc => (fg x ρ0).bind fun ρ1 => (ft ρ1).bind fun b => if b = true then (fe ρ1).bind fun d => if acc.length < 1000000 then lcF fg ft fe ρ0 xs (acc ++ [d]) else none else lcF fg ft fe ρ0 xs acc
def fLc (vs : List Nat) (fs : Ro → Option (List D)) (fg : D → Ro → Option Ro) (ft : Ro → Option Bool) (fe : Ro → Option D) : Ro → Option (List D) := fun ρ => (fs ρ).bind fun ds => lcF fg ft fe (wipeR ρ vs) ds []
theorem lt_size {n : Nat} (h : n < 1000000) : n < sizeLine := Nat.lt_of_lt_of_le h (by decide)
theorem sem_lc {K : PySem.W.Frag} {vs js : List Nat} {wi : TI} {fg : D → Ro → Option Ro} {fe : Ro → Option D} (hj : ∀ j ∈ js, j ∈ vs) (s1 : SemI K Ps wi fs) : SemL K Ps (tLc wi (cG K Ps js fg) (cT K Ps ft) (cE K Ps fe) vs) (fLc vs fs fg ft fe) := by
  intro F0 H0 F H σ ρ res hE hf Q q
  obtain ⟨ds, e1, hf1⟩ := Option.bind_eq_some_iff.mp hf
  refine s1 F0 H0 F H σ ρ ds hE e1 _ fun J F1 H1 m1 wk A hA => ?_
  have hE1 := hE.move m1
  have m2 := m1.new_ow hA (.lst [])
  have fA : F1 A = none := fno_new m1 hA
  refine ⟨fun i m H' => m = ds.length - i ∧ i ≤ ds.length ∧ ∃ F' vs' acc, Ok Ps F1 H1 F' H' ∧ F' A = none ∧ H' A = some (.lst vs') ∧ DpAll K F' vs' acc ∧ lcF fg ft fe (wipeR ρ vs) (ds.drop i) acc = some res, ⟨_, rfl, Nat.zero_le _, F1, [], [], m2, fA, upd_same, .nil, hf1⟩, ?_⟩
  rintro i m H' ⟨rfl, hi, F', vs', acc, o', f', e', d', hl⟩
  have hE' := hE1.move o'
  obtain ⟨hgo, hst⟩ := wk i F0 H0 F' H' hE'.ok o'.grow
  by_cases hlt : i < ds.length
  · have hd : ds[i]? = some ds[i] := List.getElem?_eq_getElem hlt
    obtain ⟨go, yl⟩ := hgo _ hd
    rw [List.drop_eq_getElem_cons hlt] at hl
    obtain ⟨ρ1, e2, hl1⟩ := Option.bind_eq_some_iff.mp hl
    obtain ⟨b, e3, hl2⟩ := Option.bind_eq_some_iff.mp hl1
    refine .inr ⟨go, fun H2 => ∃ F' vs' acc, Ok Ps F1 H1 F' H2 ∧ F' A = none ∧ H2 A = some (.lst vs') ∧ DpAll K F' vs' acc ∧ lcF fg ft fe (wipeR ρ vs) (ds.drop (i + 1)) acc = some res, fun H2 w => ⟨ds.length - (i + 1), by omega, rfl, hlt, w⟩, fun x H3 y => ?_⟩
    obtain ⟨F3, m3, d3⟩ := yl x H3 y
    have hE3 := (hE'.move m3).wipe vs
    refine cG_sem F0 H0 F3 H3 _ _ x _ ρ1 hE3 d3 e2 _ fun σ4 hE4 l4 k4 w4 => ⟨wipe_same hj (by rw [l4, wipe_length]) k4, ?_⟩
    refine cT_sem F0 H0 F3 H3 σ4 ρ1 b hE4 e3 _ fun F5 H5 m5 => ?_
    have o3 := o'.trans (m3.trans m5)
    obtain ⟨f5, e5⟩ := o'.keepO (m3.trans m5) f' e'
    have d5 := dpAll_mono (m3.grow.trans m5.grow) _ _ d'
    cases b with
    | true =>
      rw [if_pos rfl] at hl2 ⊢
      obtain ⟨dd, e6, hl3⟩ := Option.bind_eq_some_iff.mp hl2
      split at hl3
      · rename_i hz
        refine cE_sem F0 H0 F5 H5 σ4 ρ1 dd (hE4.move m5) e6 _ fun v F7 H7 m7 d7 => ?_
        obtain ⟨f7, e7⟩ := o3.keepO m7 f5 e5
        have d8 := dpAll_mono m7.grow _ _ d5
        refine ⟨vs', e7, lt_size (by rw [dpAll_len d8]; exact hz), F7, vs' ++ [v], acc ++ [dd], (o3.trans m7).mut hA f7 e7, f7, upd_same, dpAll_app d8 (dpAll_one d7), hl3⟩
      · cases hl3
    | false =>
      rw [if_neg Bool.false_ne_true] at hl2 ⊢
      exact ⟨F5, vs', acc, o3, f5, e5, d5, hl2⟩
  · have e : i = ds.length := by omega
    subst e
    rw [List.drop_length] at hl
    cases hl
    exact .inl ⟨hst (Nat.le_refl _), q A vs' F' H' (m1.trans o') (m1.none0 hA) f' e' d'⟩
theorem ld_lc {elt : Expr} {ifs : List Expr} {scope : Scope} {own : List (Str × Nat)} {js : List Nat} {fg : D → Ro → Option Ro} {fe : Ro → Option D} (hc : X.calm = true) (hN : X.N.Nodup) (pi : ID X Ps tg e fs) (ok : BlkOk X.N X.env.scope scope own) (hj : ∀ j ∈ js, j ∈ own.map (·.2))
    (pg : ∀ (s : Shared) (H : Hp) (C : Addr) (cl : List (Str × Addr)) (fp : List Addr), GD (X.blk s H scope (compEnvC scope cl C X.env) fp) Ps tg js fg) (pt : ∀ (s : Shared) (H : Hp) (C : Addr) (cl : List (Str × Addr)) (fp : List Addr), TsD (X.blk s H scope (compEnvC scope cl C X.env) fp) Ps ifs ft)
    (pe : ∀ (s : Shared) (H : Hp) (C : Addr) (cl : List (Str × Addr)) (fp : List Addr), PD (X.blk s H scope (compEnvC scope cl C X.env) fp) Ps elt fe) (hs : ∀ x, foldedSetIterable e X.env x = pure x := by intro _; rfl) :
    LD X Ps (.ListComp elt [⟨tg, e, ifs, 0⟩] scope pos) (fLc (own.map (·.2)) fs fg ft fe) := by
  obtain ⟨wi, p1, s1⟩ := pi.ex
  exact ⟨_, pe_lc (g := cG X.K Ps js fg) (tt := cT X.K Ps ft) (te := cE X.K Ps fe) hc hN p1 ok (fun s H C cl fp => (pg s H C cl fp).can) (fun s H C cl fp => pt s H C cl fp) (fun s H C cl fp => (pe s H C cl fp).c) hs, sem_lc hj s1⟩
/-- y = [..] -/
theorem sd_setLc {elt : Expr} {ifs : List Expr} {scope : Scope} {own : List (Str × Nat)} {js : List Nat} {fg : D → Ro → Option Ro} {fe : Ro → Option D} {i : Nat} {y : Str} {py spos : Pos} (hc : X.calm = true) (hN : X.N.Nodup) (hy : X.N[i]? = some y) (hyl : X.env.scope.names.lookup y = some .local)
    (hsw : swapsWith (.ListComp elt [⟨tg, e, ifs, 0⟩] scope pos) (some (.Name y py)) spos.line X.env = pure true) (pi : ID X Ps tg e fs) (ok : BlkOk X.N X.env.scope scope own) (hj : ∀ j ∈ js, j ∈ own.map (·.2))
    (pg : ∀ (s : Shared) (H : Hp) (C : Addr) (cl : List (Str × Addr)) (fp : List Addr), GD (X.blk s H scope (compEnvC scope cl C X.env) fp) Ps tg js fg) (pt : ∀ (s : Shared) (H : Hp) (C : Addr) (cl : List (Str × Addr)) (fp : List Addr), TsD (X.blk s H scope (compEnvC scope cl C X.env) fp) Ps ifs ft)
    (pe : ∀ (s : Shared) (H : Hp) (C : Addr) (cl : List (Str × Addr)) (fp : List Addr), PD (X.blk s H scope (compEnvC scope cl C X.env) fp) Ps elt fe) (hs : ∀ x, foldedSetIterable e X.env x = pure x := by intro _; rfl) :
    SD X Ps (.Assign [.Name y py] (.ListComp elt [⟨tg, e, ifs, 0⟩] scope pos) spos) (fSetO i (fLc (own.map (·.2)) fs fg ft fe)) := by
  obtain ⟨wi, p1, s1⟩ := pi.ex
  refine ⟨_, ps_setLc (g := cG X.K Ps js fg) (tt := cT X.K Ps ft) (te := cE X.K Ps fe) hc hN hy hyl hsw p1 ok (fun s H C cl fp => (pg s H C cl fp).can) (fun s H C cl fp => pt s H C cl fp) (fun s H C cl fp => (pe s H C cl fp).c) hs, fun F0 H0 F H σ ρ o E hE hf q => ?_⟩
  obtain ⟨d, e1, hf1⟩ := Option.map_eq_some_iff.mp hf
  subst hf1
  exact sem_lc hj s1 F0 H0 F H σ ρ d hE e1 _ fun a vs F1 H1 m1 hn hf ha d1 => q F1 H1 _ (hE.setO m1 hn hf ha d1) m1.grow

/-! two clauses -/
def lcF2 (fg : D → Ro → Option Ro) (ft : Ro → Option Bool) (fs1 : Ro → Option (List D)) (vs1 : List Nat) (fg1 : D → Ro → Option Ro) (ft1 : Ro → Option Bool) (fe : Ro → Option D) (ρ0 : Ro) : List D → List D → Option (List D)
  | [], acc => some acc
  | x :: xs, acc => (fg x ρ0).bind fun ρ1 => (ft ρ1).bind fun b => if b = true then (fs1 ρ1).bind fun ys => (lcF fg1 ft1 fe (wipeR ρ1 vs1) ys acc).bind fun acc' => lcF2 fg ft fs1 vs1 fg1 ft1 fe ρ0 xs acc' else lcF2 fg ft fs1 vs1 fg1 ft1 fe ρ0 xs acc
def fLc2 (vs vs1 : List Nat) (fs : Ro → Option (List D)) (fg : D → Ro → Option Ro) (ft : Ro → Option Bool) (fs1 : Ro → Option (List D)) (fg1 : D → Ro → Option Ro) (ft1 : Ro → Option Bool) (fe : Ro → Option D) : Ro → Option (List D) := fun ρ => (fs ρ).bind fun ds => lcF2 fg ft fs1 vs1 fg1 ft1 fe (wipeR ρ vs) ds []
theorem sem_lc2 {K : PySem.W.Frag} {vs vs1 js js1 : List Nat} {wi : TI} {fg fg1 : D → Ro → Option Ro} {fe : Ro → Option D} {fs1 : Ro → Option (List D)} {ft1 : Ro → Option Bool} (hj : ∀ j ∈ js, j ∈ vs) (hj1 : ∀ j ∈ js1, j ∈ vs1) (s1 : SemI K Ps wi fs) :
    SemL K Ps (tLc2 wi (cG K Ps js fg) (cT K Ps ft) (cI K Ps fs1) (cG K Ps js1 fg1) (cT K Ps ft1) (cE K Ps fe) vs vs1) (fLc2 vs vs1 fs fg ft fs1 fg1 ft1 fe) := by
  intro F0 H0 F H σ ρ res hE hf Q q
  obtain ⟨ds, e1, hf1⟩ := Option.bind_eq_some_iff.mp hf
  refine s1 F0 H0 F H σ ρ ds hE e1 _ fun J F1 H1 m1 wk A hA => ?_
  have hE1 := hE.move m1
  have m2 := m1.new_ow hA (.lst [])
  have fA : F1 A = none := fno_new m1 hA
  refine ⟨fun i m H' => m = ds.length - i ∧ i ≤ ds.length ∧ ∃ F' vs' acc, Ok Ps F1 H1 F' H' ∧ F' A = none ∧ H' A = some (.lst vs') ∧ DpAll K F' vs' acc ∧ lcF2 fg ft fs1 vs1 fg1 ft1 fe (wipeR ρ vs) (ds.drop i) acc = some res, ⟨_, rfl, Nat.zero_le _, F1, [], [], m2, fA, upd_same, .nil, hf1⟩, ?_⟩
  rintro i m H' ⟨rfl, hi, F', vs', acc, o', f', e', d', hl⟩
  have hE' := hE1.move o'
  obtain ⟨hgo, hst⟩ := wk i F0 H0 F' H' hE'.ok o'.grow
  by_cases hlt : i < ds.length
  · have hd : ds[i]? = some ds[i] := List.getElem?_eq_getElem hlt
    obtain ⟨go, yl⟩ := hgo _ hd
    rw [List.drop_eq_getElem_cons hlt] at hl
    obtain ⟨ρ1, e2, hl1⟩ := Option.bind_eq_some_iff.mp hl
    obtain ⟨b, e3, hl2⟩ := Option.bind_eq_some_iff.mp hl1
    refine .inr ⟨go, fun H2 => ∃ F' vs' acc, Ok Ps F1 H1 F' H2 ∧ F' A = none ∧ H2 A = some (.lst vs') ∧ DpAll K F' vs' acc ∧ lcF2 fg ft fs1 vs1 fg1 ft1 fe (wipeR ρ vs) (ds.drop (i + 1)) acc = some res, fun H2 w => ⟨ds.length - (i + 1), by omega, rfl, hlt, w⟩, fun x H3 y => ?_⟩
    obtain ⟨F3, m3, d3⟩ := yl x H3 y
    have hE3 := (hE'.move m3).wipe vs
    refine cG_sem F0 H0 F3 H3 _ _ x _ ρ1 hE3 d3 e2 _ fun σ4 hE4 l4 k4 w4 => ⟨wipe_same hj (by rw [l4, wipe_length]) k4, ?_⟩
    refine cT_sem F0 H0 F3 H3 σ4 ρ1 b hE4 e3 _ fun F5 H5 m5 => ?_
    have o3 := o'.trans (m3.trans m5)
    obtain ⟨f5, e5⟩ := o'.keepO (m3.trans m5) f' e'
    have d5 := dpAll_mono (m3.grow.trans m5.grow) _ _ d'
    cases b with
    | true =>
      rw [if_pos rfl] at hl2 ⊢
      obtain ⟨ys, e6, hl3⟩ := Option.bind_eq_some_iff.mp hl2
      obtain ⟨acc', e7, hl4⟩ := Option.bind_eq_some_iff.mp hl3
      refine cI_sem F0 H0 F5 H5 σ4 ρ1 ys (hE4.move m5) e6 _ fun J1 F6 H6 m6 wk1 => ?_
      have hE6 := (hE4.move m5).move m6
      have no4 : NotOwn A σ4 ρ1 := ((hE1.wipe vs).notOwn hA).sub w4
      have o6 := o3.trans m6
      obtain ⟨f6, e6'⟩ := o3.keepO m6 f5 e5
      have d6 := dpAll_mono m6.grow _ _ d5
      refine ⟨fun j k H' => k = ys.length - j ∧ j ≤ ys.length ∧ ∃ F' vs' ac, Ok Ps F1 H1 F' H' ∧ Same F6 F' ∧ F' A = none ∧ H' A = some (.lst vs') ∧ DpAll K F' vs' ac ∧ EnvOk K Ps F0 H0 F' H' σ4 ρ1 ∧ lcF fg1 ft1 fe (wipeR ρ1 vs1) (ys.drop j) ac = some acc', ⟨_, rfl, Nat.zero_le _, F6, vs', acc, o6, Same.refl _, f6, e6', d6, hE6, e7⟩, ?_⟩
      · rintro j k H8 ⟨rfl, hj', F8, vs8, ac, o8, o8', f8, e8, d8, hE8, hl8⟩
        obtain ⟨hgo1, hst1⟩ := wk1 j F0 H0 F8 H8 hE8.ok o8'
        by_cases hlt1 : j < ys.length
        · have hd1 : ys[j]? = some ys[j] := List.getElem?_eq_getElem hlt1
          obtain ⟨go1, yl1⟩ := hgo1 _ hd1
          rw [List.drop_eq_getElem_cons hlt1] at hl8
          obtain ⟨ρ2, e9, hl9⟩ := Option.bind_eq_some_iff.mp hl8
          obtain ⟨b1, e10, hl10⟩ := Option.bind_eq_some_iff.mp hl9
          refine .inr ⟨go1, fun H2 => ∃ F' vs' ac, Ok Ps F1 H1 F' H2 ∧ Same F6 F' ∧ F' A = none ∧ H2 A = some (.lst vs') ∧ DpAll K F' vs' ac ∧ EnvOk K Ps F0 H0 F' H2 σ4 ρ1 ∧ lcF fg1 ft1 fe (wipeR ρ1 vs1) (ys.drop (j + 1)) ac = some acc', fun H2 w => ⟨ys.length - (j + 1), by omega, rfl, hlt1, w⟩, fun x1 H11 y1 => ?_⟩
          obtain ⟨F11, m11, d11⟩ := yl1 x1 H11 y1
          have hE11 := (hE8.move m11).wipe vs1
          refine cG_sem F0 H0 F11 H11 _ _ x1 _ ρ2 hE11 d11 e9 _ fun σ12 hE12 l12 k12 w12 => ⟨wipe_same hj1 (by rw [l12, wipe_length]) k12, ?_⟩
          refine cT_sem F0 H0 F11 H11 σ12 ρ2 b1 hE12 e10 _ fun F13 H13 m13 => ?_
          have mm := m11.trans m13
          obtain ⟨f13, e13⟩ := o8.keepO mm f8 e8
          have d13 := dpAll_mono mm.grow _ _ d8
          cases b1 with
          | true =>
            rw [if_pos rfl] at hl10 ⊢
            obtain ⟨dd, e14, hl14⟩ := Option.bind_eq_some_iff.mp hl10
            split at hl14
            · rename_i hz
              refine cE_sem F0 H0 F13 H13 σ12 ρ2 dd (hE12.move m13) e14 _ fun v F15 H15 m15 d15 => ?_
              have mm2 := mm.trans m15
              obtain ⟨f15, e15⟩ := o8.keepO mm2 f8 e8
              have d16 := dpAll_mono m15.grow _ _ d13
              refine ⟨vs8, e15, lt_size (by rw [dpAll_len d16]; exact hz), F15, vs8 ++ [v], ac ++ [dd], (o8.trans mm2).mut hA f15 e15, o8'.trans mm2.grow, f15, upd_same, dpAll_app d16 (dpAll_one d15), ?_, hl14⟩
              exact (hE8.move mm2).mutOut (hE1.ok.none0 hA) f15 e15 no4
            · cases hl14
          | false =>
            rw [if_neg Bool.false_ne_true] at hl10 ⊢
            exact ⟨F13, vs8, ac, o8.trans mm, o8'.trans mm.grow, f13, e13, d13, hE8.move mm, hl10⟩
        · have e : j = ys.length := by omega
          subst e
          rw [List.drop_length] at hl8
          cases hl8
          exact .inl ⟨hst1 (Nat.le_refl _), F8, vs8, _, o8, f8, e8, d8, hl4⟩
    | false =>
      rw [if_neg Bool.false_ne_true] at hl2 ⊢
      exact ⟨F5, vs', acc, o3, f5, e5, d5, hl2⟩
  · have e : i = ds.length := by omega
    subst e
    rw [List.drop_length] at hl
    cases hl
    exact .inl ⟨hst (Nat.le_refl _), q A vs' F' H' (m1.trans o') (m1.none0 hA) f' e' d'⟩
end
end FL
set_option maxHeartbeats 4000000
/-! FL6: two clauses, defs, operators by data. -/
namespace FL
open PySem PySem.Spec PyProof.Rows L2
section
variable {X : Cx} {Ps : List Addr} {e e1 a b c tg tg1 : Expr} {es : List Expr} {f f1 f3 : Ro → Option D} {fl fs fs1 : Ro → Option (List D)} {ft ft1 fu : Ro → Option Bool} {g h : Ro → Option Out} {pos : Pos}
theorem ld_lc2 {elt : Expr} {ifs ifs1 : List Expr} {scope : Scope} {own : List (Str × Nat)} {vs1 js js1 : List Nat} {fg fg1 : D → Ro → Option Ro} {fe : Ro → Option D} (hc : X.calm = true) (hN : X.N.Nodup) (pi : ID X Ps tg e fs) (ok : BlkOk X.N X.env.scope scope own) (hv : ∀ i ∈ vs1, i ∈ own.map (·.2)) (hj : ∀ j ∈ js, j ∈ own.map (·.2)) (hj1 : ∀ j ∈ js1, j ∈ vs1)
    (pg : ∀ (s : Shared) (H : Hp) (C : Addr) (cl : List (Str × Addr)) (fp : List Addr), GD (X.blk s H scope (compEnvC scope cl C X.env) fp) Ps tg js fg) (pt : ∀ (s : Shared) (H : Hp) (C : Addr) (cl : List (Str × Addr)) (fp : List Addr), TsD (X.blk s H scope (compEnvC scope cl C X.env) fp) Ps ifs ft)
    (pi1 : ∀ (s : Shared) (H : Hp) (C : Addr) (cl : List (Str × Addr)) (fp : List Addr), ID (X.blk s H scope (compEnvC scope cl C X.env) fp) Ps tg1 e1 fs1)
    (pg1 : ∀ (s : Shared) (H : Hp) (C : Addr) (cl : List (Str × Addr)) (fp : List Addr), GD (X.blk s H scope (compEnvC scope cl C X.env) fp) Ps tg1 js1 fg1) (pt1 : ∀ (s : Shared) (H : Hp) (C : Addr) (cl : List (Str × Addr)) (fp : List Addr), TsD (X.blk s H scope (compEnvC scope cl C X.env) fp) Ps ifs1 ft1)
    (pe : ∀ (s : Shared) (H : Hp) (C : Addr) (cl : List (Str × Addr)) (fp : List Addr), PD (X.blk s H scope (compEnvC scope cl C X.env) fp) Ps elt fe) (hs : ∀ x, foldedSetIterable e X.env x = pure x := by intro _; rfl) (hs1 : ∀ env x, foldedSetIterable e1 env x = pure x := by intro _ _; rfl) :
    LD X Ps (.ListComp elt [⟨tg, e, ifs, 0⟩, ⟨tg1, e1, ifs1, 0⟩] scope pos) (fLc2 (own.map (·.2)) vs1 fs fg ft fs1 fg1 ft1 fe) := by
  obtain ⟨wi, p1, s1⟩ := pi.ex
  exact ⟨_, pe_lc2 (g := cG X.K Ps js fg) (tt := cT X.K Ps ft) (te := cE X.K Ps fe) (wi1 := cI X.K Ps fs1) (g1 := cG X.K Ps js1 fg1) (tt1 := cT X.K Ps ft1) hc hN p1 ok hv (fun s H C cl fp => (pg s H C cl fp).can) (fun s H C cl fp => pt s H C cl fp) (fun s H C cl fp => (pi1 s H C cl fp).c)
    (fun s H C cl fp => (pg1 s H C cl fp).can) (fun s H C cl fp => pt1 s H C cl fp) (fun s H C cl fp => (pe s H C cl fp).c) hs hs1, sem_lc2 hj hj1 s1⟩
theorem sd_setLc2 {elt : Expr} {ifs ifs1 : List Expr} {scope : Scope} {own : List (Str × Nat)} {vs1 js js1 : List Nat} {fg fg1 : D → Ro → Option Ro} {fe : Ro → Option D} {i : Nat} {y : Str} {py spos : Pos} (hc : X.calm = true) (hN : X.N.Nodup) (hy : X.N[i]? = some y) (hyl : X.env.scope.names.lookup y = some .local)
    (hsw : swapsWith (.ListComp elt [⟨tg, e, ifs, 0⟩, ⟨tg1, e1, ifs1, 0⟩] scope pos) (some (.Name y py)) spos.line X.env = pure true) (pi : ID X Ps tg e fs) (ok : BlkOk X.N X.env.scope scope own) (hv : ∀ i ∈ vs1, i ∈ own.map (·.2)) (hj : ∀ j ∈ js, j ∈ own.map (·.2)) (hj1 : ∀ j ∈ js1, j ∈ vs1)
    (pg : ∀ (s : Shared) (H : Hp) (C : Addr) (cl : List (Str × Addr)) (fp : List Addr), GD (X.blk s H scope (compEnvC scope cl C X.env) fp) Ps tg js fg) (pt : ∀ (s : Shared) (H : Hp) (C : Addr) (cl : List (Str × Addr)) (fp : List Addr), TsD (X.blk s H scope (compEnvC scope cl C X.env) fp) Ps ifs ft)
    (pi1 : ∀ (s : Shared) (H : Hp) (C : Addr) (cl : List (Str × Addr)) (fp : List Addr), ID (X.blk s H scope (compEnvC scope cl C X.env) fp) Ps tg1 e1 fs1)
    (pg1 : ∀ (s : Shared) (H : Hp) (C : Addr) (cl : List (Str × Addr)) (fp : List Addr), GD (X.blk s H scope (compEnvC scope cl C X.env) fp) Ps tg1 js1 fg1) (pt1 : ∀ (s : Shared) (H : Hp) (C : Addr) (cl : List (Str × Addr)) (fp : List Addr), TsD (X.blk s H scope (compEnvC scope cl C X.env) fp) Ps ifs1 ft1)
    (pe : ∀ (s : Shared) (H : Hp) (C : Addr) (cl : List (Str × Addr)) (fp : List Addr), PD (X.blk s H scope (compEnvC scope cl C X.env) fp) Ps elt fe) (hs : ∀ x, foldedSetIterable e X.env x = pure x := by intro _; rfl) (hs1 : ∀ env x, foldedSetIterable e1 env x = pure x := by intro _ _; rfl) :
    SD X Ps (.Assign [.Name y py] (.ListComp elt [⟨tg, e, ifs, 0⟩, ⟨tg1, e1, ifs1, 0⟩] scope pos) spos) (fSetO i (fLc2 (own.map (·.2)) vs1 fs fg ft fs1 fg1 ft1 fe)) := by
  obtain ⟨wi, p1, s1⟩ := pi.ex
  refine ⟨_, ps_setLc2 (g := cG X.K Ps js fg) (tt := cT X.K Ps ft) (te := cE X.K Ps fe) (wi1 := cI X.K Ps fs1) (g1 := cG X.K Ps js1 fg1) (tt1 := cT X.K Ps ft1) hc hN hy hyl hsw p1 ok hv (fun s H C cl fp => (pg s H C cl fp).can) (fun s H C cl fp => pt s H C cl fp) (fun s H C cl fp => (pi1 s H C cl fp).c)
    (fun s H C cl fp => (pg1 s H C cl fp).can) (fun s H C cl fp => pt1 s H C cl fp) (fun s H C cl fp => (pe s H C cl fp).c) hs hs1, fun F0 H0 F H σ ρ o E hE hf q => ?_⟩
  obtain ⟨d, e1, hf1⟩ := Option.map_eq_some_iff.mp hf
  subst hf1
  exact sem_lc2 hj hj1 s1 F0 H0 F H σ ρ d hE e1 _ fun a vs F1 H1 m1 hn hf ha d1 => q F1 H1 _ (hE.setO m1 hn hf ha d1) m1.grow
end

/-! ### the rule of a def -/
def startR (N : List Str) (ds : List D) : Ro := ds.map .fz ++ List.replicate (N.length - ds.length) .no
theorem env_start {K : PySem.W.Frag} {Ps : List Addr} {F H : Hp} {N : List Str} {vs : List V} {ds : List D} (o : Ok Ps F H F H) (h : DpAll K F vs ds) : EnvOk K Ps F H F H (L2.start N vs) (startR N ds) := by
  have hl := dpAll_len h
  refine ⟨o, by unfold L2.start startR; simp [hl], fun i s e hs he => ?_, fun i j ds' es a h1 => ?_⟩
  · unfold L2.start at hs
    unfold startR at he
    by_cases hi : i < ds.length
    · rw [List.getElem?_append_left (by simpa using hi), List.getElem?_map] at he
      rw [List.getElem?_append_left (by rw [List.length_map]; omega), List.getElem?_map] at hs
      obtain ⟨d, ed, rfl⟩ := Option.map_eq_some_iff.mp he
      obtain ⟨v, ev, dv⟩ := dpAll_get' h ed
      rw [ev] at hs
      cases hs
      exact ⟨v, rfl, dv⟩
    · rw [List.getElem?_append_right (by simpa using hi), List.getElem?_replicate] at he
      split at he
      · cases he; exact True.intro
      · cases he
  · unfold startR at h1
    by_cases hi : i < ds.length
    · rw [List.getElem?_append_left (by simpa using hi), List.getElem?_map] at h1
      obtain ⟨d, ed, q⟩ := Option.map_eq_some_iff.mp h1
      cases q
    · rw [List.getElem?_append_right (by simpa using hi), List.getElem?_replicate] at h1
      split at h1 <;> cases h1
/-- what a body gives back -/
def Gives (o : Option Out) (d : D) : Prop := o = some (.rt d) ∨ ∃ ρ, o = some (.nx ρ) ∧ d = .none
theorem def_ok {P : Program} {w : World} {K : PySem.W.Frag} {mg : Str → Option Value} {base : Heap} {x qual : Str} {st : Stmt} {fa : Addr} {fd : FuncData} {N ps : List Str} {k : Nat} {Ps : List Addr} {g : List D → Option D} {fb : Nat → Ro → Option Out} (F : Fun K x qual st fa fd) (S : FnScope N ps (defScope st))
    (hb : ∀ (n : Nat) (cdv : Value) (A : Around) (outer : List Env) (s : Shared) (H : Hp) (E : XK), Room k (A.deeper (envOfC qual (defScope st) s.heap.objs.size fa cdv)) → PySem.W.codeIn K cdv qual = true → BD (cxOf CX0 P w K mg base N qual (defScope st) fa cdv A outer s H E).nox Ps (defBody st) (fb n))
    (hg : ∀ ds d, ds.length = ps.length → g ds = some d → ∃ n, Gives (fb n (startR N ds)) d) : FnOk P w K mg base CX0 (k + 1) fa fd ps (spD K Ps ps.length g) := by
  obtain ⟨oc, od, kV, doc, pm, an, cdv, ct, osl, rfl, lk, hcd⟩ := F.ex
  refine fn_of lk hcd S (fun vs H Q E h => h.1) fun A outer s H vs Q E hr hsp => ?_
  obtain ⟨hl, F1, ds, d, o, hd, e, q⟩ := hsp
  obtain ⟨n, hn⟩ := hg ds d ((dpAll_len hd).symm.trans hl) e
  obtain ⟨t, p, sm⟩ := (hb n cdv A outer s H E hr hcd).ex
  refine ⟨t, p.nox, ?_⟩
  rcases hn with h | ⟨ρ, h, rfl⟩
  · exact sm F1 H F1 H _ _ _ _ (env_start o hd) h fun F' H' v m dv => q v F' H' m dv
  · exact sm F1 H F1 H _ _ _ _ (env_start o hd) h fun F' H' σ hE _ => q .non F' H' hE.ok .non

/-! ### operators by data -/
/-! ### data without dicts -/
mutual
theorem toL2 {K : PySem.W.Frag} {G : Hp} : ∀ {v : V} {d : D}, FL.Dp K G v d → d.canLay0 = true → L2.Dp K G v d
  | _, _, .non, _ => .non
  | _, _, .bl b, _ => .bl b
  | _, _, .int i, _ => .int i
  | _, _, .str x, _ => .str x
  | _, _, .lst h k, e => .lst h (toL2s k (by simpa only [PyData.canLay0] using e))
  | _, _, .tup h k, e => .tup h (toL2s k (by simpa only [PyData.canLay0] using e))
  | _, _, .dct _ _, e => by simp only [PyData.canLay0] at e; cases e
theorem toL2s {K : PySem.W.Frag} {G : Hp} : ∀ {vs : List V} {ds : List D}, FL.DpAll K G vs ds → PyData.canLayAll0 ds = true → L2.DpAll K G vs ds
  | _, _, .nil, _ => .nil
  | _, _, .cons h k, e => by
    simp only [PyData.canLayAll0, Bool.and_eq_true] at e
    exact .cons (toL2 h e.1) (toL2s k e.2)
end
section
variable {K : PySem.W.Frag} {Ps : List Addr} {X : Cx}
def gI (C : Int → Int → Bool) (u : Int → Int → Int) : D → D → Option D
  | .int i, .int j => if C i j = true then some (.int (u i j)) else none
  | _, _ => none
def gI0 (u : Int → Int → Int) : D → D → Option D
  | .int i, .int j => some (.int (u i j))
  | _, _ => none
def gIB (u : Int → Int → Bool) : D → D → Option D
  | .int i, .int j => some (.bool (u i j))
  | _, _ => none
theorem sem_I0 {u : Int → Int → Int} : Sem2 K Ps (rI0 fun i j => .int (u i j)) (gI0 u) := fun F H x y d e z o hx hy hg Q q => by
  unfold gI0 at hg
  split at hg
  · cases hg
    cases hx
    cases hy
    exact ⟨_, _, rfl, rfl, q _ F H o (.int _)⟩
  · cases hg
theorem sem_IB {u : Int → Int → Bool} : Sem2 K Ps (rI0 fun i j => .bl (u i j)) (gIB u) := fun F H x y d e z o hx hy hg Q q => by
  unfold gIB at hg
  split at hg
  · cases hg
    cases hx
    cases hy
    exact ⟨_, _, rfl, rfl, q _ F H o (.bl _)⟩
  · cases hg
theorem sem_I {C : Int → Int → Prop} {Cb : Int → Int → Bool} {u : Int → Int → Int} (hC : ∀ i j, Cb i j = true → C i j) : Sem2 K Ps (rI C fun i j => .int (u i j)) (gI Cb u) := fun F H x y d e z o hx hy hg Q q => by
  unfold gI at hg
  split at hg
  · split at hg
    · rename_i h
      cases hg
      cases hx
      cases hy
      exact ⟨_, _, rfl, rfl, hC _ _ h, q _ F H o (.int _)⟩
    · cases hg
  · cases hg
abbrev gAdd := gI0 fun i j => i + j
abbrev gSub := gI0 fun i j => i - j
def cMul (i j : Int) : Bool := decide (-(2 ^ 64) < i ∧ i < 2 ^ 64) || decide (-(2 ^ 64) < j ∧ j < 2 ^ 64)
abbrev gMul := gI cMul fun i j => i * j
def cMod (_ j : Int) : Bool := decide (0 < j)
abbrev gMod := gI cMod fun i j => i % j
def cDiv (_ j : Int) : Bool := decide (0 < j ∧ j < 1073741824)
abbrev gDiv := gI cDiv fun i j => i / j
def cPow (i j : Int) : Bool := decide (0 ≤ j ∧ j ≤ 1000000 ∧ i.natAbs < 2 ^ 64)
abbrev gPow := gI cPow fun i j => i ^ j.toNat
theorem sem_add : Sem2 K Ps (rI0 fun i j => .int (i + j)) gAdd := sem_I0
theorem sem_sub : Sem2 K Ps (rI0 fun i j => .int (i - j)) gSub := sem_I0
theorem sem_mul : Sem2 K Ps (rI CMul fun i j => .int (i * j)) gMul := sem_I fun i j h => by
  unfold cMul at h
  simp only [Bool.or_eq_true, decide_eq_true_eq] at h
  exact h
theorem sem_mod : Sem2 K Ps (rI (fun _ j => 0 < j) fun i j => .int (i % j)) gMod := sem_I fun i j h => of_decide_eq_true h
theorem sem_div : Sem2 K Ps (rI CDiv fun i j => .int (i / j)) gDiv := sem_I fun i j h => by
  unfold cDiv at h
  show 0 < j ∧ j < 1073741824
  exact of_decide_eq_true h
theorem sem_pow : Sem2 K Ps (rI CPow fun i j => .int (i ^ j.toNat)) gPow := sem_I fun i j h => by
  unfold cPow at h
  show 0 ≤ j ∧ j ≤ 1000000 ∧ i.natAbs < 2 ^ 64
  exact of_decide_eq_true h
theorem sem_lt : Sem2 K Ps (rI0 fun i j => .bl (decide (i < j))) (gIB fun i j => decide (i < j)) := sem_IB
theorem sem_le : Sem2 K Ps (rI0 fun i j => .bl (decide (i ≤ j))) (gIB fun i j => decide (i ≤ j)) := sem_IB
theorem sem_gt : Sem2 K Ps (rI0 fun i j => .bl (decide (j < i))) (gIB fun i j => decide (j < i)) := sem_IB
theorem sem_ge : Sem2 K Ps (rI0 fun i j => .bl (decide (j ≤ i))) (gIB fun i j => decide (j ≤ i)) := sem_IB
/-- == of any data -/
def gEq (d e : D) : Option D := if SeqAt.shaped d = true ∧ SeqAt.shaped e = true then some (.bool (PyData.eqv d e)) else none
def gNe (d e : D) : Option D := if SeqAt.shaped d = true ∧ SeqAt.shaped e = true then some (.bool (!PyData.eqv d e)) else none
theorem sem_eq : Sem2 K Ps (rEqD K) gEq := fun F H x y d e z o hx hy hg Q q => by
  unfold gEq at hg
  split at hg
  · rename_i h
    cases hg
    exact ⟨d, e, toL2 (dp_mono o.sub _ _ hx) (SeqAt.canLay_of_shaped h.1), toL2 (dp_mono o.sub _ _ hy) (SeqAt.canLay_of_shaped h.2), h.1, h.2, q _ F H o (.bl _)⟩
  · cases hg
theorem sem_ne : Sem2 K Ps (rNeD K) gNe := fun F H x y d e z o hx hy hg Q q => by
  unfold gNe at hg
  split at hg
  · rename_i h
    cases hg
    exact ⟨d, e, toL2 (dp_mono o.sub _ _ hx) (SeqAt.canLay_of_shaped h.1), toL2 (dp_mono o.sub _ _ hy) (SeqAt.canLay_of_shaped h.2), h.1, h.2, q _ F H o (.bl _)⟩
  · cases hg
/-- < of alike data -/
def notNone : D → Bool
  | .none => false
  | _ => true
def rLtD (K : PySem.W.Frag) : R2 := fun x y H Q => ∃ d e, L2.Dp K H x d ∧ L2.Dp K H y e ∧ PySem.W.alike d e = true ∧ notNone d = true ∧ d.depth ≤ 64 ∧ Q (.bl (PySem.W.dataLt d e)) H
theorem op_ltD (hu : X.A.units + 64 < cLine) : OpR X (compareOp .Lt) (rLtD X.K) := by
  intro pins s σ H x y v u Q I rx ry h
  obtain ⟨d, e, hd, he, al, nn, dd, q⟩ := h
  obtain ⟨as, r1⟩ := L2.Dp.reads I d x v hd rx
  obtain ⟨bs, r2⟩ := L2.Dp.reads I e y u he ry
  exact PySem.W.lt_data r1 r2 al (fun z => by subst z; cases nn) (PySem.W.room_datum dd hu) ⟨.bl _, H, I, rfl, q⟩
def gLt (d e : D) : Option D := if PySem.W.alike d e = true ∧ notNone d = true ∧ d.depth ≤ 64 ∧ d.canLay0 = true ∧ e.canLay0 = true then some (.bool (PySem.W.dataLt d e)) else none
theorem sem_ltD : Sem2 K Ps (rLtD K) gLt := fun F H x y d e z o hx hy hg Q q => by
  unfold gLt at hg
  split at hg
  · rename_i h
    cases hg
    exact ⟨d, e, toL2 (dp_mono o.sub _ _ hx) h.2.2.2.1, toL2 (dp_mono o.sub _ _ hy) h.2.2.2.2, h.1, h.2.1, h.2.2.1, q _ F H o (.bl _)⟩
  · cases hg
/-- is, is not, of bools -/
def gIs : D → D → Option D
  | .bool a, .bool b => some (.bool (decide (a = b)))
  | _, _ => none
def gIsNot : D → D → Option D
  | .bool a, .bool b => some (.bool (!decide (a = b)))
  | _, _ => none
theorem sem_is : Sem2 K Ps rIsB gIs := fun F H x y d e z o hx hy hg Q q => by
  unfold gIs at hg
  split at hg
  · cases hg
    cases hx
    cases hy
    exact ⟨_, _, rfl, rfl, q _ F H o (.bl _)⟩
  · cases hg
theorem sem_isnot : Sem2 K Ps rNotB gIsNot := fun F H x y d e z o hx hy hg Q q => by
  unfold gIsNot at hg
  split at hg
  · cases hg
    cases hx
    cases hy
    exact ⟨_, _, rfl, rfl, q _ F H o (.bl _)⟩
  · cases hg
/-- is None, is not None, of anything -/
def gIsN (d e : D) : Option D := match e with
  | .none => some (.bool (!notNone d))
  | _ => none
def gNotN (d e : D) : Option D := match e with
  | .none => some (.bool (notNone d))
  | _ => none
theorem isn_v {F : Hp} {x : V} {d : D} (h : Dp K F x d) : decide (x = .non) = !notNone d := by cases h <;> rfl
theorem sem_isN : Sem2 K Ps (fun x y H Q => y = .non ∧ Q (.bl (decide (x = .non))) H) gIsN := fun F H x y d e z o hx hy hg Q q => by
  unfold gIsN at hg
  split at hg
  · cases hg
    cases hy
    exact ⟨rfl, by rw [isn_v hx]; exact q _ F H o (.bl _)⟩
  · cases hg
theorem sem_notN : Sem2 K Ps (fun x y H Q => y = .non ∧ Q (.bl (!decide (x = .non))) H) gNotN := fun F H x y d e z o hx hy hg Q q => by
  unfold gNotN at hg
  split at hg
  · cases hg
    cases hy
    exact ⟨rfl, by rw [isn_v hx, Bool.not_not]; exact q _ F H o (.bl _)⟩
  · cases hg
/-- one sign in a text -/
def gInS : D → D → Option D
  | .str ⟨⟨[c]⟩⟩, .str z => some (.bool (decide (c ∈ z.cps.toList)))
  | _, _ => none
theorem sem_inS : Sem2 K Ps (fun x y H Q => ∃ (c : Nat) (z : Str), x = .str ⟨#[c]⟩ ∧ y = .str z ∧ Q (.bl (decide (c ∈ z.cps.toList))) H) gInS := fun F H x y d e z o hx hy hg Q q => by
  unfold gInS at hg
  split at hg
  · cases hg
    cases hx
    cases hy
    exact ⟨_, _, rfl, rfl, q _ F H o (.bl _)⟩
  · cases hg
/-- x[i], any sign -/
def gIx : D → D → Option D
  | .list ds, .int i => atI ds i
  | .tuple ds, .int i => atI ds i
  | .str z, .int i => if z.length ≤ 1000000 then (atI z.cps.toList i).map fun c => .str ⟨#[c]⟩ else none
  | _, _ => none
theorem dp_at {F : Hp} {vs : List V} {ds : List D} {i : Int} {d : D} (h : DpAll K F vs ds) (e : atI ds i = some d) : ∃ v, atI vs i = some v ∧ Dp K F v d := by
  unfold atI at e ⊢
  rw [dpAll_len h]
  obtain ⟨j, e1, e2⟩ := Option.bind_eq_some_iff.mp e
  obtain ⟨v, e3, dv⟩ := dpAll_get' h e2
  exact ⟨v, by rw [e1]; exact e3, dv⟩
theorem sem_ix : Sem2 K Ps (rIx K) gIx := fun F H x y d e z o hx hy hg Q q => by
  unfold gIx at hg
  split at hg
  · cases hy
    cases hx with
    | lst hs ha =>
      obtain ⟨v, ev, dv⟩ := dp_at ha hg
      exact .inl ⟨_, _, _, v, rfl, rfl, o.sub.seq hs, ev, q v F H o dv⟩
  · cases hy
    cases hx with
    | tup hs ha =>
      obtain ⟨v, ev, dv⟩ := dp_at ha hg
      exact .inr (.inl ⟨_, _, _, v, rfl, rfl, sqT_sub o.sub hs, ev, q v F H o dv⟩)
  · split at hg
    · rename_i hz
      obtain ⟨c, ec, rfl⟩ := Option.map_eq_some_iff.mp hg
      cases hy
      cases hx
      exact .inr (.inr ⟨_, _, c, rfl, rfl, small_size hz, ec, q _ F H o (.str _)⟩)
    · cases hg
  · cases hg
/-- text + text, list + list, tuple + tuple -/
def gCatS : D → D → Option D
  | .str a, .str b => if a.length + b.length ≤ 1000000 then some (.str (a ++ b)) else none
  | _, _ => none
theorem sem_catS : Sem2 K Ps (fun x y H Q => ∃ i j, x = .str i ∧ y = .str j ∧ i.length + j.length ≤ sizeLine ∧ Q (.str (i ++ j)) H) gCatS := fun F H x y d e z o hx hy hg Q q => by
  unfold gCatS at hg
  split at hg
  · split at hg
    · rename_i hz
      cases hg
      cases hx
      cases hy
      exact ⟨_, _, rfl, rfl, small_size hz, q _ F H o (.str _)⟩
    · cases hg
  · cases hg
def gCatT : D → D → Option D
  | .tuple a, .tuple b => if a.length + b.length ≤ 1000000 then some (.tuple (a ++ b)) else none
  | _, _ => none
theorem sem_catT : Sem2 K Ps (rCatA K) gCatT := fun F H x y d e z o hx hy hg Q q => by
  unfold gCatT at hg
  split at hg
  · split at hg
    · rename_i hz
      cases hg
      cases hx with
      | @tup a xs ds hs ha =>
        cases hy with
        | @tup b ys es hs2 ha2 =>
          refine ⟨a, b, xs, ys, rfl, rfl, sqT_sub o.sub hs, sqT_sub o.sub hs2, by rw [dpAll_len ha, dpAll_len ha2]; exact small_size hz, fun h => ?_, fun _ h => ?_, fun _ _ p hp => ?_⟩
          · subst h
            cases ha
            exact q _ F H o (.tup hs2 ha2)
          · subst h
            cases ha2
            rw [List.append_nil] at q
            exact q _ F H o (.tup hs ha)
          · have m := o.new_fz hp (.tup (xs ++ ys))
            exact q _ _ _ m (.tup (.inl (.inl upd_same)) (dpAll_mono m.grow _ _ (dpAll_app ha ha2)))
    · cases hg
  · cases hg
end
end FL
set_option maxHeartbeats 4000000
/-! FL7: built-in calls, slices, methods of texts, by data. -/
namespace FL
open PySem PySem.Spec PyProof.Rows L2
section
variable {K : PySem.W.Frag} {Ps : List Addr} {X : Cx}
/-! len -/
def gLen : List D → Option D
  | [.list ds] => some (.int ds.length)
  | [.tuple ds] => some (.int ds.length)
  | [.str z] => if z.length ≤ 1000000 then some (.int z.length) else none
  | _ => none
theorem sem_len : SemC K Ps (fun xs H Q => ∃ x n, xs = [x] ∧ LenV K x H n ∧ Q (.int n) H) gLen := fun F H xs ds z o hx hg Q q => by
  unfold gLen at hg
  split at hg
  · cases hg
    cases hx with
    | cons h1 h2 =>
      cases h2
      cases h1 with
      | lst hs ha => exact ⟨_, _, rfl, .inl ⟨_, o.sub.seq hs, rfl⟩, by rw [dpAll_len ha]; exact q _ F H o (.int _)⟩
  · cases hg
    cases hx with
    | cons h1 h2 =>
      cases h2
      cases h1 with
      | tup hs ha => exact ⟨_, _, rfl, .inr ⟨_, sqT_sub o.sub hs, rfl⟩, by rw [dpAll_len ha]; exact q _ F H o (.int _)⟩
  · split at hg
    · rename_i hz
      cases hg
      cases hx with
      | cons h1 h2 =>
        cases h2
        cases h1
        exact ⟨_, _, rfl, ⟨small_size hz, rfl⟩, q _ F H o (.int _)⟩
    · cases hg
  · cases hg
/-! int(n), int(flag) -/
def gInt : List D → Option D
  | [.int i] => some (.int i)
  | [.bool k] => some (.int (if k then 1 else 0))
  | _ => none
theorem sem_int : SemC K Ps (fun xs H Q => (∃ i, xs = [.int i] ∧ Q (.int i) H) ∨ ∃ k, xs = [.bl k] ∧ Q (.int (if k then 1 else 0)) H) gInt := fun F H xs ds z o hx hg Q q => by
  unfold gInt at hg
  split at hg
  · cases hg
    cases hx with
    | cons h1 h2 => cases h2; cases h1; exact .inl ⟨_, rfl, q _ F H o (.int _)⟩
  · cases hg
    cases hx with
    | cons h1 h2 => cases h2; cases h1; exact .inr ⟨_, rfl, q _ F H o (.int _)⟩
  · cases hg
/-! tuple(list), tuple(tuple) -/
def gTupOf : List D → Option D
  | [.list ds] => some (.tuple ds)
  | [.tuple ds] => some (.tuple ds)
  | _ => none
theorem sem_tupOf : SemC K Ps (fun xs H Q => ∃ p ys, xs = [.ref p] ∧ ((SqL K H p ys ∧ ∀ l, H l = none → Q (.ref l) (upd H l (.tup ys))) ∨ (SqT K H p ys ∧ Q (.ref p) H))) gTupOf := fun F H xs ds z o hx hg Q q => by
  unfold gTupOf at hg
  split at hg
  · cases hg
    cases hx with
    | cons h1 h2 =>
      cases h2
      cases h1 with
      | @lst a vs _ hs ha =>
        refine ⟨a, vs, rfl, .inl ⟨o.sub.seq hs, fun l hl => ?_⟩⟩
        have m := o.new_fz hl (.tup vs)
        exact q _ _ _ m (.tup (.inl (.inl upd_same)) (dpAll_mono m.grow _ _ ha))
  · cases hg
    cases hx with
    | cons h1 h2 =>
      cases h2
      cases h1 with
      | @tup a vs _ hs ha => exact ⟨a, vs, rfl, .inr ⟨sqT_sub o.sub hs, q _ F H o (.tup hs ha)⟩⟩
  · cases hg
/-! min, max of two -/
def gMin2 : List D → Option D
  | [.int i, .int j] => some (.int (if j < i then j else i))
  | _ => none
theorem sem_min2 : SemC K Ps (fun xs H Q => ∃ i j, xs = [.int i, .int j] ∧ Q (.int (if j < i then j else i)) H) gMin2 := fun F H xs ds z o hx hg Q q => by
  unfold gMin2 at hg
  split at hg
  · cases hg
    cases hx with
    | cons h1 h2 =>
      cases h2 with
      | cons h3 h4 => cases h4; cases h1; cases h3; exact ⟨_, _, rfl, q _ F H o (.int _)⟩
  · cases hg
def gMax2 : List D → Option D
  | [.int i, .int j] => some (.int (if j > i then j else i))
  | _ => none
theorem sem_max2 : SemC K Ps (fun xs H Q => ∃ i j, xs = [.int i, .int j] ∧ Q (.int (if j > i then j else i)) H) gMax2 := fun F H xs ds z o hx hg Q q => by
  unfold gMax2 at hg
  split at hg
  · cases hg
    cases hx with
    | cons h1 h2 =>
      cases h2 with
      | cons h3 h4 => cases h4; cases h1; cases h3; exact ⟨_, _, rfl, q _ F H o (.int _)⟩
  · cases hg
/-! max of a list of ints -/
def intsOf : List D → Option (List Int)
  | [] => some []
  | .int i :: ds => (intsOf ds).map (i :: ·)
  | _ :: _ => none
theorem intsOf_eq : ∀ {ds : List D} {ns : List Int}, intsOf ds = some ns → ds = ns.map .int
  | [], _, h => by cases h; rfl
  | d :: ds, ns, h => by
    cases d with
    | int i =>
      obtain ⟨ms, e, rfl⟩ := Option.map_eq_some_iff.mp (show (intsOf ds).map (i :: ·) = some ns from h)
      rw [List.map_cons, ← intsOf_eq e]
    | _ => cases h
def maxI (x : Int) (xs : List Int) : Int := xs.foldl (fun a y => if a < y then y else a) x
def gMaxL : List D → Option D
  | [.list ds] => (intsOf ds).bind fun ns => match ns with
    | [] => none
    | n :: ns => some (.int (maxI n ns))
  | _ => none
theorem maxD_int (x : Int) : ∀ xs : List Int, PySem.W.maxD (.int x) (xs.map .int) = .int (maxI x xs) := fun xs => by
  unfold PySem.W.maxD maxI
  induction xs generalizing x with
  | nil => rfl
  | cons y ys ih =>
    rw [List.map_cons, List.foldl_cons, List.foldl_cons, ← ih]
    have e : PySem.W.dataLt (.int x) (.int y) = decide (x < y) := PySem.W.dataLt_int x y
    (try dsimp only)
    rw [e]
    by_cases h : x < y
    · rw [if_pos h, if_pos (decide_eq_true h)]
    · rw [if_neg h, if_neg (by simp [h])]
theorem depthAll_ints : ∀ ns : List Int, PyData.depthAll (ns.map PyData.int) = 0
  | [] => rfl
  | n :: ns => by
    rw [List.map_cons]
    simp only [PyData.depthAll, PyData.depth, depthAll_ints ns, Nat.max_self]
def rMaxL (K : PySem.W.Frag) : List V → Hp → VK → Prop := fun xs H Q => ∃ p n ns, xs = [.ref p] ∧ SqL K H p ((n :: ns).map V.int) ∧ Q (.int (maxI n ns)) H
theorem dpAll_ints {H : Hp} : ∀ ns : List Int, DpAll K H (ns.map V.int) (ns.map PyData.int)
  | [] => .nil
  | n :: ns => .cons (.int n) (dpAll_ints ns)
theorem dpAll_ints' {H : Hp} : ∀ {ns : List Int} {vs : List V}, DpAll K H vs (ns.map PyData.int) → vs = ns.map V.int
  | [], _, h => by cases h; rfl
  | n :: ns, _, h => by
    cases h with
    | cons h1 h2 => cases h1; rw [dpAll_ints' h2, List.map_cons]
theorem l2All_ints {K : PySem.W.Frag} {H : Hp} : ∀ ns : List Int, L2.DpAll K H (ns.map V.int) (ns.map PyData.int)
  | [] => .nil
  | n :: ns => .cons (.int n) (l2All_ints ns)
theorem call_maxL (hc : X.calm = true) (hu : X.A.units + 1 < cLine) : CallR X (.builtin "max") (rMaxL X.K) := by
  intro pins s σ H xs us Q I r h
  obtain ⟨p, n, ns, rfl, hs, q⟩ := h
  obtain ⟨u, rfl, rx⟩ := vals1 r
  cases rx
  obtain ⟨its, rv, pl, hz⟩ := I.list hs
  obtain ⟨as, ra⟩ := L2.Dp.readsAll I ((n :: ns).map PyData.int) _ its (l2All_ints (K := X.K) (H := H) (n :: ns)) rv
  refine PySem.W.max_list_data (x := .int n) (xs := ns.map .int) (I.ok.hd hc) pl.isList ra ?_ ?_ fun i v h' tk bs hi hr hk => ?_
  · have e : (PyData.int n :: ns.map PyData.int) = (n :: ns).map PySem.W.Datum.toD := rfl
    rw [e]
    exact PySem.W.alikeAll_datum (n :: ns)
  · have e := depthAll_ints (n :: ns)
    rw [List.map_cons] at e
    rw [e]
    exact hu
  · rw [maxD_int] at hr
    cases hr
    exact ⟨.int _, H, I.kept hk, ⟨_, rfl⟩, q⟩
theorem sem_maxL : SemC K Ps (rMaxL K) gMaxL := fun F H xs ds z o hx hg Q q => by
  unfold gMaxL at hg
  split at hg
  · obtain ⟨ns, e, hg1⟩ := Option.bind_eq_some_iff.mp hg
    cases ns with
    | nil => cases hg1
    | cons n ns =>
      cases hg1
      cases hx with
      | cons h1 h2 =>
        cases h2
        cases h1 with
        | @lst a vs _ hs ha =>
          rw [intsOf_eq e] at ha
          rw [dpAll_ints' ha] at hs
          exact ⟨a, n, ns, rfl, o.sub.seq hs, q _ F H o (.int _)⟩
  · cases hg
end

/-! ### isinstance(e, T), T a built-in class -/
def tyName : D → String
  | .none => "NoneType"
  | .bool _ => "bool"
  | .int _ => "int"
  | .str _ => "str"
  | .list _ => "list"
  | .tuple _ => "tuple"
  | .dict _ => "dict"
/-- what isinstance says by the names of the classes -/
def isTy (T : String) (d : D) : Bool := tyName d == T || (T == "int" && tyName d == "bool")
theorem kit_table : ∀ a ∈ ["NoneType", "bool", "int", "str", "list", "tuple", "dict"], ∀ T ∈ ["str", "tuple", "int", "bool", "list", "dict"], kitB a T = some (a == T || (T == "int" && a == "bool")) := by decide +kernel
theorem tyx_of {K : PySem.W.Frag} {H : Hp} {x : V} {d : D} (h : Dp K H x d) : TyX K H x (.type (tyName d)) := by
  cases h with
  | non => exact .base .non
  | bl b => exact .base (.bl b)
  | int i => exact .base (.int i)
  | str z => exact .base (.str z)
  | lst hs ha =>
    rcases hs with (h | ⟨o, h⟩) | ⟨o, its, n, h, c, _⟩
    · exact .base (.lst h)
    · exact .base (.frz h)
    · exact .kList h c
  | tup hs ha =>
    rcases hs with (h | ⟨o, h⟩) | ⟨o, its, n, h, c, _⟩
    · exact .base (.tup h)
    · exact .fTuple h
    · exact .kTuple h c
  | dct h k =>
    rcases h with h | ⟨o, h⟩
    · exact .base (.dK h)
    · exact .fDict h
section
variable {X : Cx} {Ps : List Addr} {e a b c : Expr} {es : List Expr} {f f1 f3 : Ro → Option D} {fl : Ro → Option (List D)} {pos : Pos}
def fIsi (T : String) (f : Ro → Option D) : Ro → Option D := fun ρ => (f ρ).map fun d => .bool (isTy T d)
theorem pd_isi {p p2 : Pos} {x : Str} (T : String) (hT : T ∈ ["str", "tuple", "int", "bool", "list", "dict"]) (hg : Gl X "isinstance") (hm : X.mg "isinstance" = none) (hv : bootBuiltins "isinstance" = some (.builtin "isinstance")) (hg2 : Gl X x) (hm2 : X.mg x = none) (hv2 : bootBuiltins x = some (.type T)) (pe : PD X Ps e f) (hn2 : x ≠ "__name__" := by decide) (hd2 : (x == ("__debug__" : Str)) = false := by decide)
    (hs1 : starEach [e, .Name x p2] X.env = (false, eval e X.env) :: starEach [.Name x p2] X.env := by rfl) (hs2 : starEach [.Name x p2] X.env = (false, eval (.Name x p2) X.env) :: starEach [] X.env := by rfl) (hpl : (backTo pos (starEach [.Name x p2] X.env)).any (·.1) = false := by rfl) :
    PD X Ps (.Call (.Name "isinstance" p) [e, .Name x p2] [] pos) (fIsi T f) := by
  obtain ⟨t, p1, s1⟩ := pe.ex
  refine ⟨_, pe_callB call_isi hg hm hv (pa_cons p1 (pa_cons (pe_bltn (v := .ty T) hg2 hm2 hv2 rfl hn2 hd2) pa_nil hs2) hs1) (by decide) (by decide) hs1 hpl, fun F0 H0 F H σ ρ d hE hf Q q => ?_⟩
  obtain ⟨d1, e1, rfl⟩ := Option.map_eq_some_iff.mp hf
  refine s1 F0 H0 F H σ ρ d1 hE e1 _ fun v F1 H1 m1 dv => ?_
  refine ⟨v, .ty T, _, _, isTy T d1, rfl, .ty T, tyx_of (dp_mono m1.sub _ _ dv), kit_ty ?_, q _ F1 H1 m1 (.bl _)⟩
  refine kit_table _ ?_ T hT
  cases d1 <;> simp [tyName]

/-! ### the list that a slot alone holds: len -/
def fLenO (i : Nat) : Ro → Option D := fun ρ => match ρ[i]? with
  | some (.own (.lst ds)) => some (.int ds.length)
  | some (.fz d) => gLen [d]
  | _ => none
theorem pd_lenO (i : Nat) {x : Str} {p p0 : Pos} (hg : Gl X "len") (hm : X.mg "len" = none) (hN : X.N[i]? = some x := by rfl) (hv : Vis X.env.scope x := by first | exact Or.inl rfl | exact Or.inr (Or.inl rfl) | exact Or.inr (Or.inr rfl)) (hd : (x == ("__debug__" : Str)) = false := by decide) (hcd : (x == ("__classdict__" : Str)) = false := by decide)
    (he : starEach [.Name x p0] X.env = (false, eval (.Name x p0) X.env) :: starEach [] X.env := by rfl) (hpl : (backTo pos (starEach [] X.env)).any (·.1) = false := by rfl) : PD X Ps (.Call (.Name "len" p) [.Name x p0] [] pos) (fLenO i) := by
  refine ⟨_, pe_callB call_len hg hm PySem.boot_len (pa_cons (pe_var hN hv hd hcd) pa_nil he) (by decide) (by decide) he hpl, fun F0 H0 F H σ ρ d hE hf Q q => ?_⟩
  unfold fLenO at hf
  split at hf
  · rename_i ds e0
    cases hf
    obtain ⟨a, vs, e2, h0, f0, e3, d3⟩ := hE.getO e0
    exact ⟨_, e2, _, _, rfl, .inl ⟨vs, SqL.of e3, rfl⟩, by rw [dpAll_len d3]; exact q _ F H hE.ok.refl (.int _)⟩
  · rename_i d' e0
    obtain ⟨v, e2, d2⟩ := hE.get e0
    refine ⟨v, e2, ?_⟩
    exact sem_len F H [v] [d'] d hE.ok.refl (.cons d2 .nil) hf Q q
  · cases hf

/-! ### slices -/
/-- parts of a slice: left out, or an int -/
def fNo : Ro → Option (Option Int) := fun _ => some none
def fPt (f : Ro → Option D) : Ro → Option (Option Int) := fun ρ => (f ρ).bind fun d => match d with
  | .int i => some (some i)
  | _ => none
def SemO (K : PySem.W.Frag) (Ps : List Addr) (t : TO) (f : Ro → Option (Option Int)) : Prop :=
  ∀ (F0 H0 F H : Hp) (σ : L2.St) (ρ : Ro) (o : Option Int), EnvOk K Ps F0 H0 F H σ ρ → f ρ = some o → ∀ Q : Option Int → Hp → Prop, (∀ F' H', Ok Ps F H F' H' → Q o H') → t σ H Q
structure OD (X : Cx) (Ps : List Addr) (e : Option Expr) (f : Ro → Option (Option Int)) : Prop where
  ex : ∃ t, PO X e t ∧ SemO X.K Ps t f
theorem od_none : OD X Ps none fNo := ⟨_, po_none, fun F0 H0 F H σ ρ o hE hf Q q => by cases hf; exact q F H hE.ok.refl⟩
theorem od_some (p : PD X Ps e f) : OD X Ps (some e) (fPt f) := by
  obtain ⟨t, p1, s1⟩ := p.ex
  refine ⟨_, po_some p1, fun F0 H0 F H σ ρ o hE hf Q q => ?_⟩
  obtain ⟨d, e1, hf1⟩ := Option.bind_eq_some_iff.mp hf
  cases d with
  | int i =>
    cases hf1
    refine s1 F0 H0 F H σ ρ _ hE e1 _ fun v F1 H1 m1 d1 => ?_
    cases d1
    exact ⟨i, rfl, q F1 H1 m1⟩
  | _ => cases hf1
def cutD (xs : List D) (lo hi : Option Int) : List D := (xs.drop (HT.sIx xs.length 0 lo)).take (HT.sIx xs.length xs.length hi - HT.sIx xs.length 0 lo)
theorem dpAll_drop {K : PySem.W.Frag} {H : Hp} : ∀ {ds : List D} {vs : List V} (n : Nat), DpAll K H vs ds → DpAll K H (vs.drop n) (ds.drop n)
  | _, _, 0, h => h
  | [], _, n + 1, h => by cases h; exact .nil
  | _ :: _, _, n + 1, h => by
    cases h with
    | cons h1 h2 => exact dpAll_drop n h2
theorem dpAll_take {K : PySem.W.Frag} {H : Hp} : ∀ {ds : List D} {vs : List V} (n : Nat), DpAll K H vs ds → DpAll K H (vs.take n) (ds.take n)
  | [], _, 0, h => by cases h; exact .nil
  | _ :: _, _, 0, h => by cases h; exact .nil
  | [], _, n + 1, h => by cases h; exact .nil
  | _ :: _, _, n + 1, h => by
    cases h with
    | cons h1 h2 => exact .cons h1 (dpAll_take n h2)
theorem dpAll_rev {K : PySem.W.Frag} {H : Hp} : ∀ {ds : List D} {vs : List V}, DpAll K H vs ds → DpAll K H vs.reverse ds.reverse
  | [], _, h => by cases h; exact .nil
  | d :: ds, _, h => by
    cases h with
    | cons h1 h2 =>
      rw [List.reverse_cons, List.reverse_cons]
      exact dpAll_app (dpAll_rev h2) (dpAll_one h1)
def fSlL (f : Ro → Option D) (lo hi : Ro → Option (Option Int)) : Ro → Option (List D) := fun ρ => (f ρ).bind fun d => (lo ρ).bind fun l => (hi ρ).bind fun h => match d with
  | .list ds => some (cutD ds l h)
  | _ => none
theorem ld_sliceL {lo hi : Option Expr} {p2 : Pos} {flo fhi : Ro → Option (Option Int)} (p : PD X Ps e f) (pl : OD X Ps lo flo) (ph : OD X Ps hi fhi) : LD X Ps (.Subscript e (.Slice lo hi none p2) pos) (fSlL f flo fhi) := by
  obtain ⟨t, p1, s1⟩ := p.ex
  obtain ⟨u, p2, s2⟩ := pl.ex
  obtain ⟨w, p3, s3⟩ := ph.ex
  refine ⟨_, pe_slice sl_list p1 p2 p3, fun F0 H0 F H σ ρ ds hE hf Q q => ?_⟩
  obtain ⟨d, e1, hf1⟩ := Option.bind_eq_some_iff.mp hf
  obtain ⟨l, e2, hf2⟩ := Option.bind_eq_some_iff.mp hf1
  obtain ⟨h, e3, hf3⟩ := Option.bind_eq_some_iff.mp hf2
  cases d with
  | list ds' =>
    cases hf3
    refine s1 F0 H0 F H σ ρ _ hE e1 _ fun v F1 H1 m1 d1 => ?_
    refine s2 F0 H0 F1 H1 σ ρ l (hE.move m1) e2 _ fun F2 H2 m2 => ?_
    refine s3 F0 H0 F2 H2 σ ρ h ((hE.move m1).move m2) e3 _ fun F3 H3 m3 => ?_
    have mm := (m1.trans m2).trans m3
    cases d1 with
    | @lst a vs _ hs ha =>
      refine ⟨a, vs, rfl, mm.sub.seq ((m2.grow.trans m3.grow).seq hs), fun p hp => ?_⟩
      refine q p _ F3 _ (mm.trans (mm.new_ow hp (.lst (cutV vs l h)))) (mm.none0 hp) (fno_new mm hp) upd_same ?_
      unfold cutV cutD
      rw [dpAll_len ha]
      exact dpAll_take _ (dpAll_drop _ (dpAll_mono (m2.grow.trans m3.grow) _ _ ha))
  | _ => cases hf3
/-- xs[::-1] -/
def fRevL (f : Ro → Option D) : Ro → Option (List D) := fun ρ => (f ρ).bind fun d => match d with
  | .list ds => some ds.reverse
  | _ => none
theorem ld_revL {k : Nat} {p1 p2 p3 : Pos} (p : PD X Ps e f) : LD X Ps (.Subscript e (.Slice none none (some (.UnaryOp .USub (.Constant (.int 1) k p1) p2)) p3) pos) (fRevL f) := by
  obtain ⟨t, p1, s1⟩ := p.ex
  refine ⟨_, pe_revL p1, fun F0 H0 F H σ ρ ds hE hf Q q => ?_⟩
  obtain ⟨d, e1, hf1⟩ := Option.bind_eq_some_iff.mp hf
  cases d with
  | list ds' =>
    cases hf1
    refine s1 F0 H0 F H σ ρ _ hE e1 _ fun v F1 H1 m1 d1 => ?_
    cases d1 with
    | @lst a vs _ hs ha =>
      refine ⟨a, vs, rfl, m1.sub.seq hs, fun p hp => ?_⟩
      exact q p _ F1 _ (m1.trans (m1.new_ow hp (.lst vs.reverse))) (m1.none0 hp) (fno_new m1 hp) upd_same (dpAll_rev ha)
  | _ => cases hf1
/-- s[a:b] -/
def fSlS (f : Ro → Option D) (lo hi : Ro → Option (Option Int)) : Ro → Option D := fun ρ => (f ρ).bind fun d => (lo ρ).bind fun l => (hi ρ).bind fun h => match d with
  | .str z => if z.length ≤ 1000000 then some (.str (cutS z l h)) else none
  | _ => none
theorem pd_sliceS {lo hi : Option Expr} {p2 : Pos} {flo fhi : Ro → Option (Option Int)} (p : PD X Ps e f) (pl : OD X Ps lo flo) (ph : OD X Ps hi fhi) : PD X Ps (.Subscript e (.Slice lo hi none p2) pos) (fSlS f flo fhi) := by
  obtain ⟨t, p1, s1⟩ := p.ex
  obtain ⟨u, p2, s2⟩ := pl.ex
  obtain ⟨w, p3, s3⟩ := ph.ex
  refine ⟨_, pe_slice sl_str p1 p2 p3, fun F0 H0 F H σ ρ ds hE hf Q q => ?_⟩
  obtain ⟨d, e1, hf1⟩ := Option.bind_eq_some_iff.mp hf
  obtain ⟨l, e2, hf2⟩ := Option.bind_eq_some_iff.mp hf1
  obtain ⟨h, e3, hf3⟩ := Option.bind_eq_some_iff.mp hf2
  cases d with
  | str z =>
    simp only at hf3
    split at hf3
    · rename_i hz
      cases hf3
      refine s1 F0 H0 F H σ ρ _ hE e1 _ fun v F1 H1 m1 d1 => ?_
      refine s2 F0 H0 F1 H1 σ ρ l (hE.move m1) e2 _ fun F2 H2 m2 => ?_
      refine s3 F0 H0 F2 H2 σ ρ h ((hE.move m1).move m2) e3 _ fun F3 H3 m3 => ?_
      cases d1
      exact ⟨z, rfl, small_size hz, q _ F3 H3 ((m1.trans m2).trans m3) (.str _)⟩
    · cases hf3
  | _ => cases hf3
/-! ### methods of texts with one text as the argument -/
def fMt1 (g : Str → Str → Option D) (f1 f3 : Ro → Option D) : Ro → Option D := fun ρ => (f1 ρ).bind fun x => (f3 ρ).bind fun y => match x, y with
  | .str a, .str b => g a b
  | _, _ => none
theorem pd_mt1 {name : Str} {id : String} {apos : Pos} {r : V → List V → Hp → VK → Prop} {g : Str → Str → Option D} (pa : PlainAttrs "str") (slot : Slot "str" name id) (hty : typeOf (.builtin id) = pure (.type "method_descriptor")) (hm : MtR X id r)
    (hr : ∀ (F H : Hp) (x y : Str) (z : D), Ok Ps F H F H → g x y = some z → ∀ Q : VK, (∀ v F' H', Ok Ps F H F' H' → Dp X.K F' v z → Q v H') → r (.str x) [.str y] H Q) (p : PD X Ps a f1) (p' : PD X Ps b f3)
    (hbase : attributeBase a name X.env (eval a X.env) = eval a X.env := by rfl)
    (hfew : ((backTo pos (starEach [b] X.env)).all (fun x => !x.1) && (backToKw pos (keywordEach [] X.env)).all (fun x => x.1.isSome) && decide ([b].length + ([] : List Keyword).length + (if ([] : List Keyword).isEmpty then 0 else 1) < 30)) = true := by rfl)
    (hline : (apos.endLine == pos.line) = true := by rfl) (hs : starEach [b] X.env = (false, eval b X.env) :: starEach [] X.env := by rfl) (hplain : (backTo pos (starEach [] X.env)).any (·.1) = false := by rfl) :
    PD X Ps (.Call (.Attribute a name apos) [b] [] pos) (fMt1 g f1 f3) := by
  obtain ⟨t, p1, s1⟩ := p.ex
  obtain ⟨u, p2, s2⟩ := p'.ex
  refine ⟨_, pe_bm pa slot hty hm p1 (pa_cons p2 pa_nil hs) hbase hfew hline hs hplain, fun F0 H0 F H σ ρ d hE hf Q q => ?_⟩
  obtain ⟨x, e1, hf1⟩ := Option.bind_eq_some_iff.mp hf
  obtain ⟨y, e2, hf2⟩ := Option.bind_eq_some_iff.mp hf1
  split at hf2
  · refine s1 F0 H0 F H σ ρ _ hE e1 _ fun v F1 H1 m1 d1 => ?_
    cases d1
    refine ⟨rfl, ?_⟩
    refine s2 F0 H0 F1 H1 σ ρ _ (hE.move m1) e2 _ fun v F2 H2 m2 d2 => ?_
    cases d2
    exact hr F2 H2 _ _ d (m1.trans m2).refl hf2 Q fun v F3 H3 m3 d3 => q v F3 H3 ((m1.trans m2).trans m3) d3
  · cases hf2
def gStarts (a b : Str) : Option D := some (.bool (Txt.startswith a b))
theorem sem_starts {K : PySem.W.Frag} : ∀ (F H : Hp) (x y : Str) (z : D), Ok Ps F H F H → gStarts x y = some z → ∀ Q : VK, (∀ v F' H', Ok Ps F H F' H' → Dp K F' v z → Q v H') → ∃ a b, V.str x = .str a ∧ [V.str y] = [.str b] ∧ Q (.bl (Txt.startswith a b)) H := fun F H x y z o hg Q q => by
  cases hg
  exact ⟨x, y, rfl, rfl, q _ F H o (.bl _)⟩
def gPart (a b : Str) : Option D := if a.length ≤ 1000000 ∧ (b.length == 0) = false then some (.tuple [.str (Txt.partition a b).1, .str (Txt.partition a b).2.1, .str (Txt.partition a b).2.2]) else none
theorem sem_part {K : PySem.W.Frag} : ∀ (F H : Hp) (x y : Str) (z : D), Ok Ps F H F H → gPart x y = some z → ∀ Q : VK, (∀ v F' H', Ok Ps F H F' H' → Dp K F' v z → Q v H') →
    ∃ a b, V.str x = .str a ∧ [V.str y] = [.str b] ∧ (b.length == 0) = false ∧ a.length ≤ sizeLine ∧ ∀ p, H p = none → Q (.ref p) (upd H p (.tup [.str (Txt.partition a b).1, .str (Txt.partition a b).2.1, .str (Txt.partition a b).2.2])) := fun F H x y z o hg Q q => by
  unfold gPart at hg
  split at hg
  · rename_i hz
    cases hg
    refine ⟨x, y, rfl, rfl, hz.2, small_size hz.1, fun p hp => ?_⟩
    have m := o.new_fz hp (.tup [.str (Txt.partition x y).1, .str (Txt.partition x y).2.1, .str (Txt.partition x y).2.2])
    exact q _ _ _ m (.tup (.inl (.inl upd_same)) (.cons (.str _) (.cons (.str _) (.cons (.str _) .nil))))
  · cases hg
end
end FL
set_option maxHeartbeats 4000000
/-! FL8: formatted texts, defs by the head's facts, all over a text's signs. -/
namespace FL
open PySem PySem.Spec PyProof.Rows L2
section
variable {X : Cx} {Ps : List Addr} {e a b c : Expr} {es : List Expr} {f f1 f3 : Ro → Option D} {fl : Ro → Option (List D)} {pos : Pos}
def gFmt : D → Option D
  | .str z => if z.length ≤ 1000000 then some (.str z) else none
  | .int i => if i.natAbs.log2 < 1920 then some (.str (toString i)) else none
  | _ => none
theorem pd_fmt (p : PD X Ps e f) : PD X Ps (.FormattedValue e (-1) none pos) (fun ρ => (f ρ).bind gFmt) := by
  obtain ⟨t, p1, s1⟩ := p.ex
  refine ⟨_, pe_fmt p1, fun F0 H0 F H σ ρ d hE hf Q q => ?_⟩
  obtain ⟨x, e1, hf1⟩ := Option.bind_eq_some_iff.mp hf
  refine s1 F0 H0 F H σ ρ _ hE e1 _ fun v F1 H1 m1 d1 => ?_
  unfold gFmt at hf1
  split at hf1
  · split at hf1
    · rename_i hz
      cases hf1
      cases d1
      exact .inl ⟨_, rfl, small_size hz, q _ F1 H1 m1 (.str _)⟩
    · cases hf1
  · split at hf1
    · rename_i hz
      cases hf1
      cases d1
      exact .inr ⟨_, rfl, hz, q _ F1 H1 m1 (.str _)⟩
    · cases hf1
  · cases hf1
/-- the parts of a formatted text -/
structure JD (X : Cx) (Ps : List Addr) (es : List Expr) (g : Str → Ro → Option Str) : Prop where
  ex : ∃ ts, PJ X es ts ∧ ∀ (acc : Str) (F0 H0 F H : Hp) (σ : L2.St) (ρ : Ro) (out : Str), EnvOk X.K Ps F0 H0 F H σ ρ → g acc ρ = some out → ∀ Q : Str → Hp → Prop, (∀ F' H', Ok Ps F H F' H' → Q out H') → tJs ts acc σ H Q
def jNil : Str → Ro → Option Str := fun acc _ => some acc
theorem jd_nil : JD X Ps [] jNil := ⟨[], .nil, fun acc F0 H0 F H σ ρ out hE hf Q q => by cases hf; exact q F H hE.ok.refl⟩
def jCons (f : Ro → Option D) (g : Str → Ro → Option Str) : Str → Ro → Option Str := fun acc ρ => (f ρ).bind fun d => match d with
  | .str y => if (acc ++ y).length ≤ 1000000 then g (acc ++ y) ρ else none
  | _ => none
theorem jd_cons {g : Str → Ro → Option Str} (p : PD X Ps e f) (r : JD X Ps es g) : JD X Ps (e :: es) (jCons f g) := by
  obtain ⟨t, p1, s1⟩ := p.ex
  obtain ⟨ts, p2, s2⟩ := r.ex
  refine ⟨t :: ts, .cons p1 p2, fun acc F0 H0 F H σ ρ out hE hf Q q => ?_⟩
  obtain ⟨x, e1, hf1⟩ := Option.bind_eq_some_iff.mp hf
  refine s1 F0 H0 F H σ ρ _ hE e1 _ fun v F1 H1 m1 d1 => ?_
  cases x with
  | str y =>
    simp only at hf1
    split at hf1
    · rename_i hz
      cases d1
      exact ⟨y, rfl, small_size hz, s2 _ F0 H0 F1 H1 σ ρ out (hE.move m1) hf1 Q fun F2 H2 m2 => q F2 H2 (m1.trans m2)⟩
    · cases hf1
  | _ => cases hf1
theorem pd_joined {v1 v2 : Expr} {rest : List Expr} {g : Str → Ro → Option Str} (p : JD X Ps (v1 :: v2 :: rest) g) : PD X Ps (.JoinedStr (v1 :: v2 :: rest) pos) (fun ρ => (g Str.empty ρ).map .str) := by
  obtain ⟨ts, p1, s1⟩ := p.ex
  refine ⟨_, pe_joined p1, fun F0 H0 F H σ ρ d hE hf Q q => ?_⟩
  obtain ⟨out, e1, rfl⟩ := Option.map_eq_some_iff.mp hf
  exact s1 _ F0 H0 F H σ ρ out hE e1 _ fun F1 H1 m1 => q _ F1 H1 m1 (.str _)
end

/-! ### the rule of a def, by the head's facts -/
abbrev FnP (K : PySem.W.Frag) (x : Str) (st : Stmt) (f : Addr) (fd : FuncData) : Prop := FunD K x x (defArgs st) (defBody st) (defScope st) [] [] f fd
theorem def_okD {P : Program} {w : World} {K : PySem.W.Frag} {mg : Str → Option Value} {base : Heap} {x : Str} {st : Stmt} {fa : Addr} {fd : FuncData} {N ps : List Str} {k : Nat} {Ps : List Addr} {g : List D → Option D} {fb : Nat → Ro → Option Out} (F : FnP K x st fa fd) (S : FnScope N ps (defScope st))
    (hb : ∀ (n : Nat) (cdv : Value) (A : Around) (outer : List Env) (s : Shared) (H : Hp) (E : XK), Room k (A.deeper (envOfC x (defScope st) s.heap.objs.size fa cdv)) → fd.code = cdv → BD (cxOf CX0 P w K mg base N x (defScope st) fa cdv A outer s H E).nox Ps (defBody st) (fb n))
    (hg : ∀ ds d, ds.length = ps.length → g ds = some d → ∃ n, Gives (fb n (startR N ds)) d) : FnOk P w K mg base CX0 (k + 1) fa fd ps (spD K Ps ps.length g) := by
  obtain ⟨oc, od, dV, kV, doc, pm, an, cdv, ct, osl, rfl, lk, hcd, _, _⟩ := F.ex
  refine fn_of lk hcd S (fun vs H Q E h => h.1) fun A outer s H vs Q E hr hsp => ?_
  obtain ⟨hl, F1, ds, d, o, hd, e, q⟩ := hsp
  obtain ⟨n, hn⟩ := hg ds d ((dpAll_len hd).symm.trans hl) e
  obtain ⟨t, p, sm⟩ := (hb n cdv A outer s H E hr rfl).ex
  refine ⟨t, p.nox, ?_⟩
  rcases hn with h | ⟨ρ, h, rfl⟩
  · exact sm F1 H F1 H _ _ _ _ (env_start o hd) h fun F' H' v m dv => q v F' H' m dv
  · exact sm F1 H F1 H _ _ _ _ (env_start o hd) h fun F' H' σ hE _ => q .non F' H' hE.ok .non
/-- a def's code object -/
theorem code_of {K : PySem.W.Frag} {x : Str} {st : Stmt} {p : Str × Option Str} {fd : FuncData} (F : FnP K x st (He.fAd K p) fd) : fd.code = .ref (He.codeOf K p) := by
  obtain ⟨oc, od, dV, kV, doc, pm, an, cdv, ct, osl, rfl, lk, hcd, _, _⟩ := F.ex
  obtain ⟨c, rfl⟩ := He.codeIn_ref hcd
  rw [He.codeOf_eq lk rfl]
theorem binds_of {K : PySem.W.Frag} {x : Str} {st : Stmt} {f : Addr} {fd : FuncData} {ps : List Str} (F : FnP K x st f fd)
    (h : ∀ (kV doc pm : Value) (an : Option Addr) (cdv ct : Value) (us : List Value), us.length = ps.length → bindArgs (PySem.W.fnOf x x (defArgs st) (defBody st) (defScope st) .none kV doc pm an cdv ct) ⟨us, []⟩ = pure (ps.zip us)) : Binds K fd ps [] := F.bindsN h
end FL
set_option maxHeartbeats 4000000
/-! FL9: all(test of the sign, with the module's names, for x in a text). -/
namespace FL
open PySem PySem.Spec PyProof.Rows L2 GxR

/-- the element is a test of the sign that may read the module's names -/
def SignTest (X : Cx) (scope : Scope) (x : Str) (elt : Expr) (pb : Nat → Bool) : Prop :=
  ∀ (ce : Env) (B : Around) (E : Value → Shared → Prop) (c : Nat) (t : Tok) (s : Shared) (m : Str → Option Value), ce.scope = scope → s.heap.Ns ce.globals X.mg → s.heap.Ns ce.locals m → m x = some (.str ⟨#[c]⟩ t) →
    wpAny (model X.prog X.w) B (eval elt ce) (fun y s' => y = .bool (pb c) ∧ Keeps s s') E s
/-- x in NAME, NAME a text of the module -/
theorem sign_in {X : Cx} {scope : Scope} {x n z : Str} {t : Tok} {p1 p2 p3 : Pos} (hk : scope.kind = .function) (hl : scope.names.lookup x = some .local) (hg : scope.names.lookup n = some .globalImplicit) (hm : X.mg n = some (.str z t))
    (hd : (x == ("__debug__" : Str)) = false := by decide) (hd2 : (n == ("__debug__" : Str)) = false := by decide) : SignTest X scope x (.Compare (.Name x p1) [.In] [.Name n p2] p3) (fun c => decide (c ∈ z.cps.toList)) := by
  intro ce B E c u s m hs hG hn hx
  refine wpAny_Compare1 ?_ (by rfl)
  refine wpAny_Name (wpAny_loadName_local (by rw [hs]; exact hk) (show ce.scope.names.lookup x = some .local by rw [hs]; exact hl) hn hx ?_) hd
  refine Calls.Name_function_global (by rw [hs]; exact hk) (show ce.scope.names.lookup n = some .globalImplicit by rw [hs]; exact hg) (Calls.loadGlobal_global hG hm ?_) hd2
  refine PyProof.Rows.in_str ⟨?_, keeps_refl _⟩
  exact congrArg Value.bool (PySem.StrLaws.found_one z c)

section
variable {X : Cx} {pins : List (Addr × Obj)} {σ : L2.St} {H : Hp} {s : Shared}
/-- the code object of a generator expression is found or made: what follows may lean on a heap that is kept but for the table at P -/
theorem gen_code {c P : Addr} {gpos : Pos} {qn : Str} {scope : Scope} {ps : Array Value} {Q : Value → Shared → Prop} (TB : TabB X.base X.mg c P) (hcode : X.env.code = .ref c) (I : L2.Inv X pins σ H s) (hP : H P = some (.tbl ps)) (ht : TriplesOk ps.toList) (o : Obj)
    (k : ∀ (code : Value) (h3 : Heap) (tk : Nat) (more : Array Value), Heap.ExtBut P (s.heap.push o) h3 → (s.heap.push o).objs.size ≤ h3.objs.size → h3.get? P = some { cls := .none, data := .fields (ps ++ more) } → TriplesOk (ps ++ more).toList → Q code { s with heap := h3, toks := tk }) :
    wpAny (model X.prog X.w) X.A (genexprCode X.env gpos qn scope) Q X.xe { s with heap := s.heap.push o } := by
  have hPs : s.heap.get? P = some { cls := .none, data := .fields ps } := I.hok P _ hP
  have hP2 : (s.heap.push o).get? P = some { cls := .none, data := .fields ps } := Heap.get?_push_of_some _ hPs
  have cd : PySem.W.CodeHd (s.heap.push o) c P := TB.code.keeps fun b u e => Heap.get?_push_of_some _ (I.bk b u e)
  cases hf : codeAmong gpos ps.toList with
  | none =>
    refine wpAny_genexprCodeX hcode (cd.code hP2 ht) (cd.tab hP2) hf fun c' h' tk hx hge hlt hco' _ htab' _ => ?_
    obtain ⟨_, _, _, _, _, _, _, _, _, _, _, _, _, _, _, _, _, _, _, htr, _⟩ := hco'
    exact k _ h' tk _ hx (Nat.le_trans hge (Nat.le_of_lt hlt)) htab'.2 htr
  | some cv =>
    refine wpAny_genexprCode_hit hcode (cd.code hP2 ht) hf ?_
    have e : ps ++ (#[] : Array Value) = ps := by simp
    exact k cv (s.heap.push o) s.toks #[] (Heap.ExtBut.refl _ _) (Nat.le_refl _) (by rw [e]; exact hP2) (by rw [e]; exact ht)
/-- the generator stands ready over the signs of a -/
theorem gen_signs {c P : Addr} {elt iter : Expr} {x : Str} {px gpos : Pos} {scope : Scope} {pb : Nat → Bool} {te : TE} {k : Nat} {Q' : Value → Shared → Prop} {R : Str → Hp → Prop}
    (hr : Room k X.A) (TB : TabB X.base X.mg c P) (hcode : X.env.code = .ref c) (S : GenS X.env scope x) (hi : PE X iter te) (hel : SignTest X scope x elt pb) (hs : ∀ v, genFold iter X.env v = pure v) (I : L2.Inv X pins σ H s)
    (h : te σ H fun v H1 => ∃ a : Str, v = .str a ∧ TabG H1 P ∧ R a H1) (hQ : ∀ a H1 g s5, R a H1 → Ready X pins σ H1 P a pb g s5 → Q' (.ref g) s5) :
    wpAny (model X.prog X.w) X.A (eval (.GeneratorExp elt [⟨.Name x px, iter, [], 0⟩] scope gpos) X.env) Q' X.xe s := by
  refine wpAny_GeneratorExp_walksQ hr.hd S.co (closure_ok S.free) S.cell S.dot S.loc S.kind (by have := hr.dp; omega) (thn (hi.run pins s σ H _ I h) fun xv s1 ⟨v, H1, I1, r1, q1⟩ => ?_) hs
  obtain ⟨a, rfl, ⟨ps, hP, ht⟩, q1⟩ := q1
  obtain ⟨t, rfl⟩ := _root_.id r1
  refine wpAny_pyIter_str fun o St W hst => ⟨I1.nolimit.push o, gen_code TB hcode I1 hP ht o fun code h3 tk more hx hsz hP3 ht3 => ?_⟩
  have hPs : s1.heap.get? P = some { cls := .none, data := .fields ps } := I1.hok P _ hP
  have hPlt : P < s1.heap.objs.size := Heap.lt_size hPs
  have gl : h3.Ns mainGlobals X.mg := ((I1.mod.glob.keeps I1.bk).push o).extBut hx TB.gP
  have hcP : cStatics ≠ P := fun e => by
    obtain ⟨_, hns, _⟩ := I1.nolimit
    obtain ⟨_, _, _, ho, hd, _⟩ := hns
    rw [e, hPs] at ho
    cases ho
    cases hd
  have hcl : cStatics < s1.heap.objs.size := let ⟨_, hns, _⟩ := I1.nolimit; hns.lt
  have sz2 : (s1.heap.push o).objs.size = s1.heap.objs.size + 1 := Heap.size_push ..
  have keep3 : ∀ b u, b ≠ P → s1.heap.get? b = some u → h3.get? b = some u := fun b u hb e => hx b u hb (Heap.get?_push_of_some _ e)
  obtain ⟨bm, ob, e1, e2, e3, e4, e5, e6, e7, e8⟩ := TB.bm
  refine wpAny_builtinsFor (m := X.mg) (by rw [I1.ok.glob]; exact gl) e1 e2 (keep3 _ _ e4 (I1.bk _ _ e5)) e6 e7 e8 ?_
  refine ⟨s1.heap.objs.size, [s1.heap.objs.size], [s1.heap.objs.size], a.cps.size, SignAt a, St, (fun _ => true), (fun i y => ∃ cc, a.cps[i]? = some cc ∧ y = .bool (pb cc)), rfl, W, ?_, ?_, (I1.nolimit.push o).extBut hx hcP, ?_, ?_, ?_⟩
  · exact (W X.A hr.hd).frame _ _ _ hst fun b hb u e => hx b u (by
      rw [List.mem_singleton] at hb
      rw [hb]
      exact Nat.ne_of_gt hPlt) e
  · intro b hb
    rw [List.mem_singleton] at hb
    rw [hb]
    show s1.heap.objs.size < h3.objs.size
    omega
  · intro z
    rw [List.mem_singleton] at z
    exact Nat.ne_of_lt hcl z
  · intro href hhref
    refine ⟨fun B E i v s₂ m₂ hA hPv hn hm hk => ?_, fun B E i v s₂ m₂ hA hPv hp hn hm hk => ?_⟩
    · simp only [List.forIn_nil]
      exact wpAny_pure ⟨rfl, keeps_refl _⟩
    · obtain ⟨cc, u, hcc, rfl⟩ := hPv
      have g2 : s₂.heap.Ns mainGlobals X.mg := by
        obtain ⟨og, es, ep, ho, hd, r⟩ := gl
        have hlt : (mainGlobals : Nat) < h3.objs.size := Heap.lt_size ho
        refine ⟨og, es, ep, hk mainGlobals (List.mem_range.mpr hlt) (fun z => ?_) og (hhref _ _ ho), hd, r⟩
        rw [List.mem_singleton] at z
        obtain ⟨o', _, _, ho', _⟩ := I1.mod.glob.keeps I1.bk
        exact absurd (Heap.lt_size ho') (by rw [z]; exact Nat.lt_irrefl _)
      exact wpAny_mono (hel _ B E cc u s₂ m₂ rfl (by show s₂.heap.Ns X.env.globals X.mg; rw [I1.ok.glob]; exact g2) hn hm) (fun y s3 r => ⟨⟨cc, hcc, r.1⟩, r.2⟩) fun _ _ e => e
  · intro g h5 tk5 gs hgb hag hsz5 hk5 W5 hat
    simp only [GxR.passing_true, List.length_range] at W5
    refine hQ a H1 g _ q1 ⟨_, _, _, _, _, W5.in4_1, hat, fun j y sj Qj Ej hy hQj => ?_, fun s' hm => ?_⟩
    · obtain ⟨i, hij, cc, hcc, rfl⟩ := hy
      obtain ⟨hj, ej⟩ := List.getElem?_eq_some_iff.mp hij
      rw [List.getElem_range] at ej
      subst ej
      have e9 : a.cps.toList[j]? = some cc := by rw [Array.getElem?_toList]; exact hcc
      have hQ2 : Qj (trF pb a.cps.toList j) sj := hQj
      rw [trF_some e9] at hQ2
      exact wpAny_truthy_bool hQ2
    · have nwr : ∀ b u, s1.heap.get? b = some u → b ∉ h3.objs.size :: [s1.heap.objs.size] := fun b u e hb => by
        have hl : (b : Nat) < s1.heap.objs.size := Heap.lt_size e
        simp only [List.mem_cons, List.not_mem_nil, or_false] at hb
        rcases hb with z | z
        · have h9 : h3.objs.size < s1.heap.objs.size := by rw [← z]; exact hl
          omega
        · have h9 : s1.heap.objs.size < s1.heap.objs.size := by
            have h8 := hl
            rw [z] at h8
            exact h8
          exact Nat.lt_irrefl _ h9
      have J := inv_tab (more := more) (h' := s'.heap) (g' := s'.gens) (d' := s'.drawn) (t' := s'.toks) I1 hP (fun b u hb e => hm.heap b u (nwr b u e) (hk5 b u (keep3 b u hb e)))
        (hm.heap P _ (nwr P _ hPs) (hk5 P _ hP3)) (AllBare.movedS (I1.bare.push hgb) hm)
      rw [sh_eta s1 s' hm.os] at J
      exact ⟨upd H1 P (.tbl (ps ++ more)), ⟨⟨ps ++ more, upd_same, ht3⟩, fun b hb => upd_ne hb⟩, J⟩
end
/-- all(test for x in a text), the def's table at P -/
def tAllG (P : Addr) (pb : Nat → Bool) (te : TE) : TE := fun σ H Q => te σ H fun v H1 => ∃ a : Str, v = .str a ∧ TabG H1 P ∧ ∀ H2, Tabbed P H1 H2 → Q (.bl (a.cps.toList.all pb)) H2
theorem pe_allG {X : Cx} {c P : Addr} {elt iter : Expr} {x : Str} {px p pos gpos : Pos} {scope : Scope} {pb : Nat → Bool} {te : TE} {k : Nat}
    (hr : Room k X.A) (hg : Gl X "all") (hm : X.mg "all" = none) (hb : bootBuiltins "all" = some (.builtin "all")) (TB : TabB X.base X.mg c P) (hcode : X.env.code = .ref c) (S : GenS X.env scope x) (hi : PE X iter te) (hel : SignTest X scope x elt pb)
    (hs : ∀ v, genFold iter X.env v = pure v) (he : starEach [.GeneratorExp elt [⟨.Name x px, iter, [], 0⟩] scope gpos] X.env = (false, eval (.GeneratorExp elt [⟨.Name x px, iter, [], 0⟩] scope gpos) X.env) :: starEach [] X.env := by rfl) :
    PE X (.Call (.Name "all" p) [.GeneratorExp elt [⟨.Name x px, iter, [], 0⟩] scope gpos] [] pos) (tAllG P pb te) := by
  refine ⟨fun pins s σ H Q I h => wpAny_Call_Name_kw (ld_blt I hg hm hb (PyProof.Rows.callWith_builtin1 ?_ he (by rfl)))⟩
  rw [he]
  show wpAny _ _ (spliced ((false, eval (.GeneratorExp elt [⟨.Name x px, iter, [], 0⟩] scope gpos) X.env) :: backTo pos (starEach [] X.env))) _ _ s
  refine Calls.spliced_cons (gen_signs (R := fun a H1 => ∀ H2, Tabbed P H1 H2 → Q (.bl (a.cps.toList.all pb)) H2) hr TB hcode S hi hel hs I h fun a H1 g s5 hR hG => ?_)
  obtain ⟨fp, wr, G, F, S', W, hst, htr, hI⟩ := hG
  refine Calls.spliced_nil (call_all_walkS (W.self 0 _ _ _ hst ⟨g, fp, wr, G, _, F, S', _, rfl, W, hst, htr, fun s' hmv => ?_⟩))
  obtain ⟨H2, hT, J⟩ := hI s' hmv
  exact ⟨.bl _, H2, J, rfl, by rw [all_signs a pb]; exact hR H2 hT⟩
def fAllG (pb : Nat → Bool) (f : Ro → Option D) : Ro → Option D := fun ρ => (f ρ).bind fun d => match d with
  | .str a => some (.bool (a.cps.toList.all pb))
  | _ => none
/-- the table at P grows -/
theorem Ok.tabbed {Ps F0 H0 F H H'} (h : Ok Ps F0 H0 F H) {P : Addr} (hP : P ∈ Ps) (t : Tabbed P H H') : Ok Ps F H F H' where
  sub := fun b o e => by
    have n : b ≠ P := fun z => by rw [z, h.fno P hP] at e; cases e
    rw [t.2 b n]; exact h.sub b o e
  grow := Same.refl _
  new := fun _ e => .inl e
  ext := fun b o e hp => by
    have n : b ≠ P := fun z => hp (by rw [z]; exact hP)
    rw [t.2 b n]; exact e
  tab := fun p hp => by
    by_cases q : p = P
    · rw [q]; exact t.1
    · obtain ⟨ps, e, tr⟩ := h.tab p hp
      exact ⟨ps, by rw [t.2 p q]; exact e, tr⟩
  fno := h.fno
theorem pd_allG {X : Cx} {Ps : List Addr} {c P : Addr} {elt iter : Expr} {x : Str} {px p pos gpos : Pos} {scope : Scope} {pb : Nat → Bool} {f : Ro → Option D} {k : Nat} (hP : P ∈ Ps)
    (hr : Room k X.A) (hg : Gl X "all") (hm : X.mg "all" = none) (TB : TabB X.base X.mg c P) (hcode : X.env.code = .ref c) (S : GenS X.env scope x) (hi : PD X Ps iter f) (hel : SignTest X scope x elt pb) (hb : bootBuiltins "all" = some (.builtin "all") := by decide +kernel)
    (hs : ∀ v, genFold iter X.env v = pure v := by intro _; rfl) (he : starEach [.GeneratorExp elt [⟨.Name x px, iter, [], 0⟩] scope gpos] X.env = (false, eval (.GeneratorExp elt [⟨.Name x px, iter, [], 0⟩] scope gpos) X.env) :: starEach [] X.env := by rfl) :
    PD X Ps (.Call (.Name "all" p) [.GeneratorExp elt [⟨.Name x px, iter, [], 0⟩] scope gpos] [] pos) (fAllG pb f) := by
  obtain ⟨t, p1, s1⟩ := hi.ex
  refine ⟨_, pe_allG hr hg hm hb TB hcode S p1 hel hs he, fun F0 H0 F H σ ρ d hE hf Q q => ?_⟩
  obtain ⟨y, e1, hf1⟩ := Option.bind_eq_some_iff.mp hf
  cases y with
  | str a =>
    cases hf1
    refine s1 F0 H0 F H σ ρ _ hE e1 _ fun v F1 H1 m1 d1 => ?_
    cases d1
    exact ⟨a, rfl, m1.tab P hP, fun H2 tb => q _ F1 H2 (m1.trans (m1.tabbed hP tb)) (.bl _)⟩
  | _ => cases hf1
end FL
set_option maxHeartbeats 4000000
/-! FL10: list + list, numbers of arguments, the end. -/
namespace FL
open PySem PySem.Spec PyProof.Rows L2

theorem list_add_any (l b : Addr) (items items2 : Array Value) (n n2 : Nat) (dd dd2 : Option Addr) (sl sl2 : Array (Option Value)) (hz : items.size + items2.size ≤ sizeLine) :
    Meets (Builtin.«list.__add__» ⟨[.ref l, .ref b], []⟩) (fun _ R s => s.heap.get? l = some { cls := .type "list", dict := dd, data := .seq items n, slots := sl } ∧ s.heap.get? b = some { cls := .type "list", dict := dd2, data := .seq items2 n2, slots := sl2 } ∧
      R (.ok (.ret (Value.ref s.heap.objs.size))) { s with heap := s.heap.push { cls := Value.type "list", data := Data.seq (items ++ items2) }, toks := s.toks }) :=
  .of_wp fun prog w A R s h => by
    obtain ⟨hp, g, d, tk, os⟩ := s; obtain ⟨hl, hb, h⟩ := h
    have f1 := AutoSeq1.idx_int; have f2 := AutoSeq1.sub_tuple_tuple; have f3 := AutoSeq1.sub_list_list; have f4 := AutoSeq1.sub_tuple_list; have f5 := AutoSeq1.sub_list_tuple
    wp_walk using AutoSeq1.wpAny_loadPart' hl, AutoSeq1.wpAny_loadPart' hb
    exact ⟨_, rfl, h⟩
def rCatL (K : PySem.W.Frag) : R2 := fun x y H Q => ∃ a b xs ys, x = .ref a ∧ y = .ref b ∧ SqL K H a xs ∧ SqL K H b ys ∧ xs.length + ys.length ≤ sizeLine ∧ ∀ p, H p = none → Q (.ref p) (upd H p (.lst (xs ++ ys)))
theorem op_catL {X : Cx} : OpR X (binaryOp .Add) (rCatL X.K) := by
  intro pins s σ H x y v u Q I rx ry h
  obtain ⟨a, b, xs, ys, rfl, rfl, ha, hb, hz, q⟩ := h
  cases rx
  cases ry
  obtain ⟨its, r, ⟨⟨c1, d1, t1, l1⟩, n1, e1, hc1, hd1, hs1⟩, _⟩ := I.list ha
  obtain ⟨its2, r2, ⟨⟨c2, d2, t2, l2⟩, n2, e2, hc2, hd2, hs2⟩, _⟩ := I.list hb
  simp only at hc1 hd1 hs1 hc2 hd2 hs2
  subst hc1 hd1 hs1 hc2 hd2 hs2
  have z1 := r.length
  have z2 := r2.length
  have ea : its.toArray ++ its2.toArray = (its ++ its2).toArray := by simp
  refine concat_meets ⟨_, e1, rfl⟩ ⟨_, e2, rfl⟩ noFill_list_add seq_list_add PySem.F.slot_list_add PySem.F.entry_list_add (PySem.F.args_list_add_2 _ _) (list_add_any a b its.toArray its2.toArray n1 n2 none none l1 l2 (by rw [List.size_toArray, List.size_toArray]; omega)) ⟨e1, e2, ?_⟩
  rw [ea]
  exact ⟨.ref _, _, I.lnew (t' := s.toks) (r.append r2) (by rw [List.length_append]; omega), rfl, q _ I.fresh⟩
section
variable {X : Cx} {Ps : List Addr} {e a b c : Expr} {es : List Expr} {f f1 f3 : Ro → Option D} {fl : Ro → Option (List D)} {pos : Pos}
def fCatL (f1 f3 : Ro → Option D) : Ro → Option (List D) := fun ρ => (f1 ρ).bind fun x => (f3 ρ).bind fun y => match x, y with
  | .list xs, .list ys => if xs.length + ys.length ≤ 1000000 then some (xs ++ ys) else none
  | _, _ => none
theorem ld_catL (pa : PD X Ps a f1) (pb : PD X Ps b f3) : LD X Ps (.BinOp a .Add b pos) (fCatL f1 f3) := by
  obtain ⟨t, p1, s1⟩ := pa.ex
  obtain ⟨u, p2, s2⟩ := pb.ex
  refine ⟨_, pe_op op_catL p1 p2, fun F0 H0 F H σ ρ ds hE hf Q q => ?_⟩
  obtain ⟨x, e1, hf1⟩ := Option.bind_eq_some_iff.mp hf
  obtain ⟨y, e2, hf2⟩ := Option.bind_eq_some_iff.mp hf1
  split at hf2
  · split at hf2
    · rename_i hz
      cases hf2
      refine s1 F0 H0 F H σ ρ _ hE e1 _ fun v F1 H1 m1 d1 => ?_
      refine s2 F0 H0 F1 H1 σ ρ _ (hE.move m1) e2 _ fun u F2 H2 m2 d2 => ?_
      have mm := m1.trans m2
      cases d1 with
      | @lst a xs _ hs ha =>
        cases d2 with
        | @lst b ys _ hs2 ha2 =>
          have ha' := dpAll_mono m2.grow _ _ ha
          refine ⟨a, b, xs, ys, rfl, rfl, mm.sub.seq (m2.grow.seq hs), mm.sub.seq hs2, by rw [dpAll_len ha, dpAll_len ha2]; exact small_size hz, fun p hp => ?_⟩
          exact q p _ F2 _ (mm.trans (mm.new_ow hp (.lst (xs ++ ys)))) (mm.none0 hp) (fno_new mm hp) upd_same (dpAll_app ha' ha2)
    · cases hf2
  · cases hf2
def LenIs (n : Nat) (fl : Ro → Option (List D)) : Prop := ∀ ρ ds, fl ρ = some ds → ds.length = n
theorem len_nil : LenIs 0 (fun _ => some []) := fun ρ ds h => by cases h; rfl
theorem len_cons {n : Nat} (h : LenIs n fl) : LenIs (n + 1) (fCons f fl) := fun ρ ds e => by
  obtain ⟨x, e1, h1⟩ := Option.bind_eq_some_iff.mp e
  obtain ⟨xs, e2, h2⟩ := Option.bind_eq_some_iff.mp h1
  cases h2
  rw [List.length_cons, h ρ xs e2]
end
end FL
namespace FL
open PySem PySem.Spec PyProof.Rows L2
/-! ### a def as the function that its body runs -/
def outD : Option Out → Option D
  | some (.rt d) => some d
  | some (.nx _) => some .none
  | _ => none
def runF (N : List Str) (k : Nat) (f : Ro → Option Out) : List D → Option D := fun ds => if ds.length = k then outD (f (startR N ds)) else none
theorem runF_gives {N : List Str} {k : Nat} {f : Ro → Option Out} {ds : List D} {d : D} (h : runF N k f ds = some d) : Gives (f (startR N ds)) d := by
  unfold runF at h
  split at h
  · unfold outD at h
    split at h
    · cases h
      rename_i e
      exact .inl e
    · cases h
      rename_i ρ e
      exact .inr ⟨ρ, e, rfl⟩
    · cases h
  · cases h
theorem hg_run {N : List Str} {k n : Nat} {f : Nat → Ro → Option Out} : ∀ ds d, ds.length = k → runF N k (f n) ds = some d → ∃ n, Gives (f n (startR N ds)) d := fun ds d _ e => ⟨n, runF_gives e⟩
end FL
set_option maxHeartbeats 4000000
/-! FL11: mathematics of data: loops, equal data, values. -/
namespace FL
open PySem PySem.Spec PyProof.Rows L2

/-! ### loops by an invariant -/
theorem loop_inv {fg : D → Ro → Option Ro} {fb : Ro → Option Out} (P : Ro → Prop) : ∀ (ds : List D), (∀ d ∈ ds, ∀ ρ, P ρ → ∃ ρ1 ρ2, fg d ρ = some ρ1 ∧ (fb ρ1 = some (.nx ρ2) ∨ fb ρ1 = some (.ct ρ2)) ∧ P ρ2) → ∀ ρ, P ρ → ∃ ρ', loopF fg fb ds ρ = some (.nx ρ') ∧ P ρ'
  | [], _, ρ, hp => ⟨ρ, rfl, hp⟩
  | d :: ds, h, ρ, hp => by
    obtain ⟨ρ1, ρ2, e1, e2, p2⟩ := h d List.mem_cons_self ρ hp
    obtain ⟨ρ', e3, p3⟩ := loop_inv P ds (fun x hx => h x (List.mem_cons_of_mem _ hx)) ρ2 p2
    refine ⟨ρ', ?_, p3⟩
    unfold loopF
    rw [e1]
    rcases e2 with e2 | e2
    · simp only [Option.bind_some, e2]; exact e3
    · simp only [Option.bind_some, e2]; exact e3
/-- by the items that are behind -/
theorem loop_ix {fg : D → Ro → Option Ro} {fb : Ro → Option Out} (all : List D) (P : List D → Ro → Prop) (h : ∀ pre d post ρ, all = pre ++ d :: post → P pre ρ → ∃ ρ1 ρ2, fg d ρ = some ρ1 ∧ (fb ρ1 = some (.nx ρ2) ∨ fb ρ1 = some (.ct ρ2)) ∧ P (pre ++ [d]) ρ2) :
    ∀ (ds pre : List D), all = pre ++ ds → ∀ ρ, P pre ρ → ∃ ρ', loopF fg fb ds ρ = some (.nx ρ') ∧ P all ρ'
  | [], pre, e, ρ, hp => ⟨ρ, rfl, by rw [e, List.append_nil]; exact hp⟩
  | d :: ds, pre, e, ρ, hp => by
    obtain ⟨ρ1, ρ2, e1, e2, p2⟩ := h pre d ds ρ e hp
    obtain ⟨ρ', e3, p3⟩ := loop_ix all P h ds (pre ++ [d]) (by rw [e, List.append_assoc]; rfl) ρ2 p2
    refine ⟨ρ', ?_, p3⟩
    unfold loopF
    rw [e1]
    rcases e2 with e2 | e2
    · simp only [Option.bind_some, e2]; exact e3
    · simp only [Option.bind_some, e2]; exact e3
/-! ### comprehensions whose turns all give -/
theorem lc_all {fg : D → Ro → Option Ro} {ft : Ro → Option Bool} {fe : Ro → Option D} {ρ0 : Ro} (P : D → Prop) : ∀ (xs acc : List D), (∀ x ∈ xs, ∃ ρ1 d, fg x ρ0 = some ρ1 ∧ ft ρ1 = some true ∧ fe ρ1 = some d ∧ P d) → acc.length + xs.length ≤ 1000000 → ∃ ds, lcF fg ft fe ρ0 xs acc = some (acc ++ ds) ∧ ds.length = xs.length ∧ ∀ d ∈ ds, P d
  | [], acc, _, _ => ⟨[], by rw [List.append_nil]; rfl, rfl, fun _ h => by cases h⟩
  | x :: xs, acc, h, hl => by
    obtain ⟨ρ1, d, e1, e2, e3, pd⟩ := h x List.mem_cons_self
    rw [List.length_cons] at hl
    obtain ⟨ds, e4, l4, p4⟩ := lc_all P xs (acc ++ [d]) (fun y hy => h y (List.mem_cons_of_mem _ hy)) (by rw [List.length_append, List.length_singleton]; omega)
    refine ⟨d :: ds, ?_, by rw [List.length_cons, List.length_cons, l4], fun z hz => ?_⟩
    · unfold lcF
      rw [e1, Option.bind_some, e2, Option.bind_some, if_pos rfl, e3, Option.bind_some, if_pos (by omega), e4, List.append_assoc]
      rfl
    · rcases List.mem_cons.mp hz with z1 | z1
      · rw [z1]; exact pd
      · exact p4 z z1

/-! ### equal data -/
mutual
def same : D → D → Bool
  | .none, .none => true
  | .bool a, .bool b => a == b
  | .int a, .int b => decide (a = b)
  | .str a, .str b => decide (a = b)
  | .list a, .list b => sameAll a b
  | .tuple a, .tuple b => sameAll a b
  | _, _ => false
def sameAll : List D → List D → Bool
  | [], [] => true
  | x :: xs, y :: ys => same x y && sameAll xs ys
  | _, _ => false
end
mutual
theorem same_eq : ∀ (a b : D), same a b = true → a = b
  | .none, b, h => by cases b <;> simp_all [same]
  | .bool a, b, h => by cases b <;> simp_all [same]
  | .int a, b, h => by cases b <;> simp_all [same]
  | .str a, b, h => by cases b <;> simp_all [same]
  | .list a, b, h => by
    cases b with
    | list b => rw [sameAll_eq a b (by simpa [same] using h)]
    | _ => simp [same] at h
  | .tuple a, b, h => by
    cases b with
    | tuple b => rw [sameAll_eq a b (by simpa [same] using h)]
    | _ => simp [same] at h
  | .dict a, b, h => by cases b <;> simp [same] at h
theorem sameAll_eq : ∀ (a b : List D), sameAll a b = true → a = b
  | [], b, h => by cases b <;> simp_all [sameAll]
  | x :: xs, b, h => by
    cases b with
    | nil => simp [sameAll] at h
    | cons y ys =>
      rw [sameAll, Bool.and_eq_true] at h
      rw [same_eq x y h.1, sameAll_eq xs ys h.2]
end
/-- the answer is this datum -/
def gives (d : D) : Option D → Bool
  | some e => same e d
  | none => false
theorem gives_eq {d : D} {o : Option D} (h : gives d o = true) : o = some d := by
  cases o with
  | none => cases h
  | some e => rw [same_eq e d h]

/-! ### values as data: tuples of texts and tuples of values -/
mutual
def isV : D → Bool
  | .tuple [.str _] => true
  | .tuple [.str _, .tuple vs] => isVs vs
  | _ => false
def isVs : List D → Bool
  | [] => true
  | v :: vs => isV v && isVs vs
end
end FL
namespace FL
open PySem PySem.Spec PyProof.Rows L2
mutual
theorem alike_V : ∀ (a b : D), isV a = true → isV b = true → PySem.W.alike a b = true
  | .tuple [.str x], b, _, hb => by
    cases b with
    | tuple bs =>
      match bs, hb with
      | [.str y], _ => simp [PySem.W.alike, PySem.W.alikeAll]
      | [.str y, .tuple ws], _ => simp [PySem.W.alike, PySem.W.alikeAll]
    | _ => simp [isV] at hb
  | .tuple [.str x, .tuple vs], b, ha, hb => by
    cases b with
    | tuple bs =>
      match bs, hb with
      | [.str y], _ => simp [PySem.W.alike, PySem.W.alikeAll]
      | [.str y, .tuple ws], hb =>
        have h1 : isVs vs = true := by simpa [isV] using ha
        have h2 : isVs ws = true := by simpa [isV] using hb
        have h3 := alike_Vs vs ws h1 h2
        simp [PySem.W.alike, PySem.W.alikeAll, h3]
    | _ => simp [isV] at hb
  | .none, _, h, _ => by simp [isV] at h
  | .bool _, _, h, _ => by simp [isV] at h
  | .int _, _, h, _ => by simp [isV] at h
  | .str _, _, h, _ => by simp [isV] at h
  | .list _, _, h, _ => by simp [isV] at h
  | .dict _, _, h, _ => by simp [isV] at h
  | .tuple [], _, h, _ => by simp [isV] at h
  | .tuple (.none :: _), _, h, _ => by simp [isV] at h
  | .tuple (.bool _ :: _), _, h, _ => by simp [isV] at h
  | .tuple (.int _ :: _), _, h, _ => by simp [isV] at h
  | .tuple (.list _ :: _), _, h, _ => by simp [isV] at h
  | .tuple (.tuple _ :: _), _, h, _ => by simp [isV] at h
  | .tuple (.dict _ :: _), _, h, _ => by simp [isV] at h
  | .tuple (.str _ :: .none :: _), _, h, _ => by simp [isV] at h
  | .tuple (.str _ :: .bool _ :: _), _, h, _ => by simp [isV] at h
  | .tuple (.str _ :: .int _ :: _), _, h, _ => by simp [isV] at h
  | .tuple (.str _ :: .str _ :: _), _, h, _ => by simp [isV] at h
  | .tuple (.str _ :: .list _ :: _), _, h, _ => by simp [isV] at h
  | .tuple (.str _ :: .dict _ :: _), _, h, _ => by simp [isV] at h
  | .tuple (.str _ :: .tuple _ :: _ :: _), _, h, _ => by simp [isV] at h
theorem alike_Vs : ∀ (a b : List D), isVs a = true → isVs b = true → PySem.W.alikeAll a b = true
  | [], _, _, _ => by simp [PySem.W.alikeAll]
  | _ :: _, [], _, _ => by simp [PySem.W.alikeAll]
  | x :: xs, y :: ys, ha, hb => by
    simp only [isVs, Bool.and_eq_true] at ha hb
    simp only [PySem.W.alikeAll, alike_V x y ha.1 hb.1, alike_Vs xs ys ha.2 hb.2, Bool.and_self]
end
mutual
def txt : D → Bool
  | .str _ => true
  | .tuple vs => txts vs
  | _ => false
def txts : List D → Bool
  | [] => true
  | v :: vs => txt v && txts vs
end
mutual
theorem eqv_txt : ∀ (a b : D), txt a = true → txt b = true → PyData.eqv a b = true → a = b
  | .str x, b, _, hb, h => by
    cases b with
    | str y =>
      have e : x = y := by simpa [PyData.eqv] using h
      rw [e]
    | tuple ys => simp [PyData.eqv] at h
    | _ => simp [txt] at hb
  | .tuple xs, b, ha, hb, h => by
    cases b with
    | tuple ys => rw [eqv_txts xs ys (by simpa [txt] using ha) (by simpa [txt] using hb) (by simpa [PyData.eqv] using h)]
    | str y => simp [PyData.eqv] at h
    | _ => simp [txt] at hb
  | .none, _, h, _, _ => by simp [txt] at h
  | .bool _, _, h, _, _ => by simp [txt] at h
  | .int _, _, h, _, _ => by simp [txt] at h
  | .list _, _, h, _, _ => by simp [txt] at h
  | .dict _, _, h, _, _ => by simp [txt] at h
theorem eqv_txts : ∀ (a b : List D), txts a = true → txts b = true → PyData.eqvAll a b = true → a = b
  | [], b, _, _, h => by
    cases b with
    | nil => rfl
    | cons y ys => simp [PyData.eqvAll] at h
  | x :: xs, b, ha, hb, h => by
    cases b with
    | nil => simp [PyData.eqvAll] at h
    | cons y ys =>
      simp only [txts, Bool.and_eq_true] at ha hb
      simp only [PyData.eqvAll, Bool.and_eq_true] at h
      rw [eqv_txt x y ha.1 hb.1 h.1, eqv_txts xs ys ha.2 hb.2 h.2]
end
mutual
theorem eqv_self : ∀ (a : D), txt a = true → PyData.eqv a a = true
  | .str x, _ => by simp [PyData.eqv]
  | .tuple xs, h => by
    simp only [PyData.eqv]
    exact eqv_selfs xs (by simpa [txt] using h)
  | .none, h => by simp [txt] at h
  | .bool _, h => by simp [txt] at h
  | .int _, h => by simp [txt] at h
  | .list _, h => by simp [txt] at h
  | .dict _, h => by simp [txt] at h
theorem eqv_selfs : ∀ (a : List D), txts a = true → PyData.eqvAll a a = true
  | [], _ => by simp [PyData.eqvAll]
  | x :: xs, h => by
    simp only [txts, Bool.and_eq_true] at h
    simp only [PyData.eqvAll, eqv_self x h.1, eqv_selfs xs h.2, Bool.and_self]
end
/-! ### more fuel -/
theorem whileF_more {ft : Ro → Option Bool} {fb : Ro → Option Out} : ∀ (n k : Nat) (ρ : Ro) (o : Out), whileF ft fb n ρ = some o → whileF ft fb (n + k) ρ = some o
  | 0, k, ρ, o, h => by cases h
  | n + 1, k, ρ, o, h => by
    rw [show n + 1 + k = (n + k) + 1 by omega]
    unfold whileF at h ⊢
    obtain ⟨b, e1, h1⟩ := Option.bind_eq_some_iff.mp h
    rw [e1, Option.bind_some]
    cases b with
    | true =>
      rw [if_pos rfl] at h1 ⊢
      obtain ⟨o1, e2, h2⟩ := Option.bind_eq_some_iff.mp h1
      rw [e2, Option.bind_some]
      cases o1 with
      | nx ρ2 => exact whileF_more n k ρ2 o h2
      | ct ρ2 => exact whileF_more n k ρ2 o h2
      | bk ρ2 => exact h2
      | rt d => exact h2
    | false =>
      rw [if_neg Bool.false_ne_true] at h1 ⊢
      exact h1
def isB (b : Bool) : Option D → Bool
  | some (.bool c) => c == b
  | _ => false
theorem isB_eq {b : Bool} {o : Option D} (h : isB b o = true) : o = some (.bool b) := by
  unfold isB at h
  split at h
  · rw [beq_iff_eq] at h; rw [h]
  · cases h
def bothSame (a b : Option D) : Bool := match a, b with
  | some x, some y => same x y
  | _, _ => false
theorem bothSame_eq {a b : Option D} (h : bothSame a b = true) : ∃ x, a = some x ∧ b = some x := by
  unfold bothSame at h
  split at h
  · exact ⟨_, rfl, by rw [same_eq _ _ h]⟩
  · cases h
end FL
namespace FL
theorem fSeq_nx {g h : Ro → Option Out} {ρ ρ' : Ro} (e : g ρ = some (.nx ρ')) : fSeq g h ρ = h ρ' := by
  unfold fSeq
  rw [e]
  rfl
theorem fSeq_rt {g h : Ro → Option Out} {ρ : Ro} {d : D} (e : g ρ = some (.rt d)) : fSeq g h ρ = some (.rt d) := by
  unfold fSeq
  rw [e]
  rfl
theorem runF_of {N : List PySem.Str} {k : Nat} {f : Ro → Option Out} {ds : List D} {d : D} (hl : ds.length = k) (e : f (startR N ds) = some (.rt d)) : runF N k f ds = some d := by
  unfold runF
  rw [if_pos hl, e]
  rfl
theorem fFrz_ow {i : Nat} {g : Ro → Option Out} {ρ : Ro} {ds : List D} (e : ρ[i]? = some (.ow ds)) : fFrz i g ρ = g (ρ.set i (.fz (.list ds))) := by
  unfold fFrz
  rw [e]
  rfl
end FL
namespace FL
theorem seqR_nat (m : Nat) (h : m ≤ 1000000) : seqR [.int (m : Int)] = some (rngN (m : Int)) := by
  show (if -1000000 ≤ (m : Int) ∧ (m : Int) ≤ 1000000 then some (rngN (m : Int)) else none) = _
  exact if_pos ⟨by omega, by omega⟩
theorem fRng_of {fl : Ro → Option (List D)} {ρ : Ro} {m : Nat} (e : fl ρ = some [.int (m : Int)]) (h : m ≤ 1000000) : fRng fl ρ = some (rngN (m : Int)) := by
  unfold fRng
  rw [e, Option.bind_some, seqR_nat m h]
end FL
set_option maxHeartbeats 4000000
/-! GE1: all(elt for tg in iter), the element any expression: calls, generator expressions of its own. -/
namespace FL
open PySem PySem.Spec PyProof.Rows L2 GxR

/-- the scope of a generator expression without cells of its own -/
structure GenSc (scope : Scope) : Prop where
  co : scope.isCoroutine = false
  cell : ∀ y ∈ scope.names, y.2 ≠ .cell
  dot : scope.names.lookup (".0" : Str) = some NameKind.local

/-- the context of a generator expression's element: s, H as its frame was made; a, go its own object -/
abbrev Cxg (X : Cx) (A : Around) (s : Shared) (H : Hp) (cenv : Env) (fp : List Addr) (a : Addr) (go : Obj) : Cx :=
  { X with A := A, s_0 := s, H_0 := H, env := cenv, outer := X.stack, stack := cenv :: X.stack, ex := fp, fn := fun _ => false, pn := [(a, go)], xe := fun _ _ => False }
section
variable {X : Cx} {pins : List (Addr × Obj)} {σ : L2.St} {H : Hp} {s : Shared}
theorem gen_start {scope : Scope} {own : List (Str × Nat)} {fp : List Addr} {A : Around} {code : Value} {h' : Heap} {go : Obj} {s2 : Shared} {it : Value} (hW : GenSc scope) (I : L2.Inv X pins σ H s) (ok : BlkOk X.N X.env.scope scope own) (hN : X.N.Nodup) (hfp : ∀ b ∈ fp, FpOk X pins H b ∧ b < s.heap.objs.size)
    (hfr : A.frames = some (genEnv scope (cloFrom X.env.cells scope.names []) s.heap.objs.size code builtinsNs X.env :: X.stack)) (hhd : X.calm = true → A.handled = none)
    (kp : ∀ b o, s.heap.get? b = some o → h'.get? b = some o) (hns : h'.Ns s.heap.objs.size (fun y => if y = ".0" then some it else none)) (hgo : h'.get? (s.heap.objs.size + 1) = some go) (hgd : ∀ v, go.data ≠ .cell v)
    (os2 : s2.os = s.os) (b2 : AllBare s2.gens) (k2 : ∀ b o, h'.get? b = some o → s2.heap.get? b = some o) :
    L2.Inv (Cxg X A s H (genEnv scope (cloFrom X.env.cells scope.names []) s.heap.objs.size code builtinsNs X.env) fp (s.heap.objs.size + 1) go) [] (wipe σ (own.map (·.2))) H s2 := by
  have hfree : ∀ y ∈ scope.names, y.2 = .free → ∃ c, X.env.cells.lookup y.1 = some c := fun y hy e => by
    rcases ok.free y hy e with k | k
    · exact I.ok.has _ (.inl k)
    · exact I.ok.has _ (.inr k)
  have kp2 : ∀ b o, s.heap.get? b = some o → s2.heap.get? b = some o := fun b o e => k2 b o (kp b o e)
  have cm : ∀ {y c}, (y, c) ∈ cloFrom X.env.cells scope.names [] → X.env.cells.lookup y = some c ∧ c < s.heap.objs.size := fun {y c} hm => by
    rcases cloFrom_mem hm with hm | ⟨h1, rfl⟩
    · cases hm
    · obtain ⟨c, hc⟩ := hfree _ h1 rfl
      rw [hc]
      obtain ⟨w, z⟩ := I.cell _ _ hc
      exact ⟨rfl, z.lt⟩
  have look : ∀ {y}, scope.names.lookup y = some .free → ∃ c, (cloFrom X.env.cells scope.names []).lookup y = some c ∧ X.env.cells.lookup y = some c := fun {y} hl => by
    have hy : (y, NameKind.free) ∈ scope.names := PySem.mem_of_lookup hl
    obtain ⟨c', e'⟩ := mem_lookup (cloFrom_has (cells := X.env.cells) (acc := []) hy)
    exact ⟨c', e', (cm (PySem.mem_of_lookup e')).1⟩
  generalize hcenv : genEnv scope (cloFrom X.env.cells scope.names []) s.heap.objs.size code builtinsNs X.env = cenv at hfr ⊢
  have hL : cenv.locals = s.heap.objs.size := by rw [← hcenv]; rfl
  have hF : cenv.frame = some s.heap.objs.size := by rw [← hcenv]; rfl
  have hcl : cenv.cells = cloFrom X.env.cells scope.names [] := by rw [← hcenv]; rfl
  have hsc : cenv.scope = scope := by rw [← hcenv]; rfl
  have mem : ∀ {y c}, cenv.cells.lookup y = some c → X.env.cells.lookup y = some c ∧ c < s.heap.objs.size := fun {y c} e => by
    rw [hcl] at e
    exact cm (PySem.mem_of_lookup e)
  have nocell : ∀ y, scope.names.lookup y ≠ some .cell := fun y e => hW.cell _ (PySem.mem_of_lookup e) rfl
  have okB : (Cxg X A s H cenv fp (s.heap.objs.size + 1) go).Ok := by
    refine ⟨I.ok.mod, by show cenv.scope.kind = _; rw [hsc]; exact ok.kind, by show cenv.globals = _; rw [← hcenv]; exact I.ok.glob, by show cenv.builtins = _; rw [← hcenv]; rfl, by show s.heap.objs.size ≤ cenv.locals; rw [hL]; exact Nat.le_refl _,
      fun y z c e1 e2 => I.ok.inj y z c (mem e1).1 (mem e2).1, fun y hy => ?_, fun y c z e => (by cases z), hhd, hfr, .inr ⟨rfl, by show cenv.frame = some cenv.locals; rw [hF, hL]⟩, fun b hb => ⟨?_, fun y c e z => ?_⟩, I.bs, Nat.le_trans I.ok.bsz I.sz, fun b o e hb => ?_, fun b hb z => ?_, I.stack, I.stkFree⟩
    · show ∃ c, cenv.cells.lookup y = some c
      rcases hy with hy | hy
      · have hy : cenv.scope.names.lookup y = some .cell := hy
        rw [hsc] at hy
        exact absurd hy (nocell y)
      · have hy : cenv.scope.names.lookup y = some .free := hy
        rw [hsc] at hy
        obtain ⟨c, h1, _⟩ := look hy
        exact ⟨c, by rw [hcl]; exact h1⟩
    · show b ≠ cenv.locals
      rw [hL]; exact Nat.ne_of_lt (hfp b hb).2
    · exact (hfp b hb).1.2.2.2.2.1 y c (mem e).1 z
    · rcases (hfp b hb).1.2.2.2.1 with z | z
      · exact I.ok.noex b o e z
      · exact absurd (Nat.lt_of_lt_of_le (Heap.lt_size e) (Nat.le_trans I.ok.bsz z)) (Nat.lt_irrefl _)
    · rcases List.mem_cons.mp (I.stkSub b z) with z | z
      · exact (hfp b hb).1.2.1 z
      · exact (hfp b hb).1.2.2.1 z
  have hns2 : s2.heap.Ns cenv.locals (fun y => if y = ".0" then some it else none) := by rw [hL]; exact hns.keeps k2
  refine ⟨okB, os2, b2, Un.kept kp2, ⟨_, hns2, fun i y av e1 e2 e3 => ?_⟩, fun y c e => ?_, ?_, fun y c e => ?_, fun p hp => ?_, I.hok.kept kp2, by rw [wipe_length]; exact I.len⟩
  · obtain ⟨e2, hne⟩ := wipe_some e2
    have e3 : Vis cenv.scope y := e3
    have no : ¬ scope.names.lookup y = some .local := fun e => by
      rcases ok.own _ (PySem.mem_of_lookup e) (.inl rfl) with e' | e'
      · obtain ⟨p, hp, hpy⟩ := List.mem_map.mp e'
        have e3 := ok.ix p hp
        have : p.1 = y := hpy
        rw [this] at e3
        exact hne (List.mem_map.mpr ⟨p, hp, nodup_ix hN e3 e1⟩)
      · exact e' (List.mem_of_getElem? e1)
    have hfr1 : scope.names.lookup y = some .free := by
      rcases e3 with e3 | e3 | e3
      · rw [hsc] at e3; exact absurd e3 no
      · rw [hsc] at e3; exact absurd e3 (nocell y)
      · rw [hsc] at e3; exact e3
    obtain ⟨m, hn, hl⟩ := I.loc
    have hvis : Vis X.env.scope y := (ok.free _ (PySem.mem_of_lookup hfr1) rfl).elim (fun k => .inr (.inl k)) (fun k => .inr (.inr k))
    obtain ⟨w, r, q⟩ := hl i y av e1 e2 hvis
    refine ⟨w, r, .inr ⟨.inr (by show cenv.scope.names.lookup y = _; rw [hsc]; exact hfr1), ?_⟩⟩
    obtain ⟨c, h1, h2⟩ := look hfr1
    rcases q with ⟨k, _⟩ | ⟨_, c', e', z⟩
    · have k : X.env.scope.names.lookup y = some .local := k
      rcases ok.free _ (PySem.mem_of_lookup hfr1) rfl with k' | k' <;> rw [show X.env.scope.names.lookup y = _ from k'] at k <;> cases k
    · rw [h2] at e'; cases e'
      exact ⟨c, by show cenv.cells.lookup y = some c; rw [hcl]; exact h1, z.keeps kp2⟩
  · obtain ⟨w, z⟩ := I.cell y c (mem e).1
    exact ⟨w, z.keeps kp2⟩
  · show H cenv.locals = none
    rw [hL]; exact I.hok.fresh (Nat.le_refl _)
  · exact I.freeC y c (mem e).1
  · have hp : p ∈ [(s.heap.objs.size + 1, go)] ++ [] := hp
    rw [List.append_nil, List.mem_singleton] at hp
    subst hp
    refine ⟨k2 _ _ hgo, I.hok.fresh (Nat.le_succ _), ?_, ?_, hgd⟩
    · show s.heap.objs.size + 1 ≠ cenv.locals
      rw [hL]; exact Nat.succ_ne_self _
    · intro z
      rcases List.mem_cons.mp (I.stkSub _ z) with z | z
      · have h1 := I.lt
        have z : s.heap.objs.size + 1 = X.env.locals := z
        rw [← z] at h1
        exact absurd (Nat.lt_trans (Nat.lt_succ_self _) h1) (Nat.lt_irrefl _)
      · exact I.nofs (Nat.le_succ _) z
end
end FL
set_option maxHeartbeats 4000000
/-! GE2: the generator's turns, the loop of all. -/
namespace FL
open PySem PySem.Spec PyProof.Rows L2 GxR

/-- what the whole comes to: b, and the state then -/
def AllFin (X : Cx) (fp : List Addr) (H2 : Hp) (s5 : Shared) (Q : Bool → Hp → Prop) (b : Bool) (s : Shared) : Prop :=
  ∃ H', s.os = s5.os ∧ AllBare s.gens ∧ Un (frs X.stack) fp H2 H' s5.heap s.heap ∧ HOk X.prog X.w H' s.heap ∧ Q b H'
/-- while the generator sleeps all is kept -/
structure Naps (s s' : Shared) : Prop where
  os : s'.os = s.os
  bare : AllBare s'.gens
  keep : ∀ b o, s.heap.get? b = some o → s'.heap.get? b = some o
def AllY (X : Cx) (fp : List Addr) (H2 : Hp) (s5 : Shared) (Q : Bool → Hp → Prop) (a : Addr) (g : Nat) : Protocol := fun _ _ v s kap =>
  ∃ b, v = .bool b ∧ s.os = s5.os ∧ AllBare s.gens ∧ s.heap.NoLimit ∧ s.heap.IsGen a g ∧ if b = true then ∀ s', Naps s s' → kap (.send .none) s' else AllFin X fp H2 s5 Q false s
abbrev AllR (X : Cx) (fp : List Addr) (H2 : Hp) (s5 : Shared) (Q : Bool → Hp → Prop) : GenEnd := fun n s₀ r s₁ => r = .ok .next ∧ AllFin X fp H2 s5 Q true s₁

/-- the turns: W by the turn and a measure -/
def AllW (J : It) (g : TG) (te : TE) (vs : List Nat) (σ : L2.St) (Q : Bool → Hp → Prop) (W : Nat → Nat → Hp → Prop) : Prop := ∀ i m H, W i m H → (J.stop i H ∧ Q true H) ∨ (J.go i H ∧ ∀ x H', J.yld i H x H' → g x (wipe σ vs) H' fun σ2 H3 => wipe σ2 vs = wipe σ vs ∧ te σ2 H3 fun y H4 =>
  ∃ b, y = .bl b ∧ if b = true then ∃ m', m' < m ∧ W (i + 1) m' H4 else Q false H4)

section
variable {X : Cx} {σ : L2.St} {H : Hp} {s5 : Shared} {A Aw : Around} {elt tg iter : Expr} {scope : Scope} {pos : Pos} {fp vs : List Addr} {it a : Addr} {go : Obj} {gn : Nat} {cenv : Env} {J : It} {tn : Nat → Heap → Prop} {g : TG} {te : TE} {Q : Bool → Hp → Prop} {W : Nat → Nat → Hp → Prop}
theorem inv_naps {Y : Cx} {pins : List (Addr × Obj)} {s s' : Shared} (I : L2.Inv Y pins σ H s) (n : Naps s s') : L2.Inv Y pins σ H s' :=
  I.call' (ch := []) n.os (Un.kept n.keep) (I.hok.kept n.keep) n.bare fun b z => by simp at z
theorem gen_turns (hc : X.calm = true) (T : Turn X.prog X.w X.K tg J fp it tn) (hco : cenv.scope.isCoroutine = false)
    (hAw : Aw.over (.compLoop (.GeneratorExp elt [⟨tg, iter, [], 0⟩] scope pos) 0 (.ref it) .none cenv) [] = A)
    (pg : PG (Cxg X A s5 H cenv fp a go) tg g) (pe : PE (Cxg X A s5 H cenv fp a go) elt te) (hgen : ∀ h : Heap, h.get? a = some go → h.IsGen a gn) (hfa : ∀ b ∈ fp, a ≠ b)
    (hW : AllW J g te vs σ Q W) :
    ∀ (n i m : Nat) (H' : Hp) (s₀ s : Shared), m ≤ n → W i m H' → L2.Inv (Cxg X A s5 H cenv fp a go) [] (wipe σ vs) H' s → tn i s.heap → (∀ b ∈ fp, H' b = none) →
      Seg (model X.prog X.w) Aw (AllR X fp H s5 Q) (AllY X fp H s5 Q a gn) (n + 1) s₀ (.compLoop (.GeneratorExp elt [⟨tg, iter, [], 0⟩] scope pos) 0 (.ref it) .none cenv)
        ((model X.prog X.w).den (.compLoop (.GeneratorExp elt [⟨tg, iter, [], 0⟩] scope pos) 0 (.ref it) .none cenv)) [] s := by
  have stat : ∀ {σ' : L2.St} {H' : Hp} {s' : Shared}, L2.Inv (Cxg X A s5 H cenv fp a go) [] σ' H' s' → (∀ b ∈ fp, H' b = none) → ∀ b ∈ fp, FpOk (Cxg X A s5 H cenv fp a go) [] H' b := fun {σ' H' s'} I' hn b hb =>
    ⟨hn b hb, (I'.ok.exf b hb).1, I'.ok.exfs b hb, .inl hb, fun x c e => (I'.ok.exf b hb).2 x c e, fun p hp => by
      have hp : p ∈ [(a, go)] ++ [] := hp
      rw [List.append_nil, List.mem_singleton] at hp
      rw [hp]
      exact hfa b hb⟩
  have step : ∀ (n i m : Nat) (H' : Hp) (s₀ s : Shared), W i m H' → L2.Inv (Cxg X A s5 H cenv fp a go) [] (wipe σ vs) H' s → tn i s.heap → (∀ b ∈ fp, H' b = none) →
      (∀ m' H'' s'', m' < m → W (i + 1) m' H'' → L2.Inv (Cxg X A s5 H cenv fp a go) [] (wipe σ vs) H'' s'' → tn (i + 1) s''.heap → (∀ b ∈ fp, H'' b = none) →
        Seg (model X.prog X.w) Aw (AllR X fp H s5 Q) (AllY X fp H s5 Q a gn) n s'' (.compLoop (.GeneratorExp elt [⟨tg, iter, [], 0⟩] scope pos) 0 (.ref it) .none cenv)
          ((model X.prog X.w).den (.compLoop (.GeneratorExp elt [⟨tg, iter, [], 0⟩] scope pos) 0 (.ref it) .none cenv)) [] s'') →
      Seg (model X.prog X.w) Aw (AllR X fp H s5 Q) (AllY X fp H s5 Q a gn) (n + 1) s₀ (.compLoop (.GeneratorExp elt [⟨tg, iter, [], 0⟩] scope pos) 0 (.ref it) .none cenv)
        ((model X.prog X.w).den (.compLoop (.GeneratorExp elt [⟨tg, iter, [], 0⟩] scope pos) 0 (.ref it) .none cenv)) [] s := by
    intro n i m H' s₀ s hw I hst hn again
    show Seg _ Aw _ _ _ s₀ _ ((compTurn (.GeneratorExp elt [⟨tg, iter, [], 0⟩] scope pos) 0 (.ref it) .none cenv).onRaise (leaving cenv)) [] s
    rw [compTurn_gen, Sem.onRaise_eq_wrap]
    refine seg_bind_wrap (wpAny_standAt ?_)
    rcases hW i m H' hw with ⟨stop, qq⟩ | ⟨go_, stp⟩
    · refine seg_bind_wrap ?_
      rw [hAw]
      refine thnF (T.done (Cxg X A s5 H cenv fp a go) rfl rfl rfl hc i [] s _ H' (fun _ _ => False) I (stat I hn) hst stop) fun r s6 ⟨hr, I6⟩ => ?_
      subst hr
      exact seg_end (.ok .next) ⟨rfl, H', I6.os, I6.bare, I6.base, I6.hok, qq⟩
    · refine seg_bind_wrap ?_
      rw [hAw]
      refine thnF (T.item (Cxg X A s5 H cenv fp a go) rfl rfl rfl hc i [] s _ H' (fun _ _ => False) I (stat I hn) hst go_) fun r s6 ⟨u, hr, h6⟩ => ?_
      subst hr
      refine seg_bind_wrap ?_
      rw [hAw]
      refine thnF h6 fun _ s7 ⟨x, H7, I7, r7, y7, st7, n7⟩ => ?_
      have I7' := I7.pinned (stat I7 n7) (T.obj _ _ st7)
      refine seg_bind_wrap ?_
      rw [hAw]
      refine thnF (pg.run _ s7 _ H7 x u _ I7' r7 (stp x H7 y7)) fun _ s8 ⟨σ8, H8, I8, hw8, q8⟩ => ?_
      refine seg_bind_wrap ?_
      rw [hAw]
      refine wpAny_tests_nil ?_
      simp only [if_true]
      have hy : ∀ v, yieldOut cenv v = yieldValue v := fun v => by simp only [yieldOut, hco, Bool.false_eq_true, if_false]
      simp only [hy]
      rw [Sem.bind_eq_wrap', Sem.bind_eq_wrap', Sem.wrap_wrap, Sem.wrap_wrap]
      refine seg_wrap ?_
      rw [hAw]
      refine thnF (pe.run _ s8 σ8 H8 _ I8 q8) fun v s9 ⟨y, H9, I9, r9, b, eb, qb⟩ => ?_
      subst eb
      have ev : v = Value.bool b := r9
      subst ev
      have pin' : ∀ b ∈ fp, ∀ o, s7.heap.get? b = some o → s9.heap.get? b = some o ∧ H9 b = none := fun b hb o e =>
        let z := I9.pin (b, o) (List.mem_append_right _ (List.mem_append_right _ (mem_pinsAt hb e)))
        ⟨z.1, z.2.1⟩
      have hl : (wipe σ vs).length = σ8.length := by rw [← hw8, wipe_length]
      have J9 : L2.Inv (Cxg X A s5 H cenv fp a go) [] (wipe σ vs) H9 s9 := (I9.unpinned (pins := [])).weak hl (fun j v e => by
        rw [← hw8] at e
        exact (wipe_some e).1)
      have st9 : tn (i + 1) s9.heap := T.keep _ _ _ st7 fun b hb o e => (pin' b hb o e).1
      have n9 : ∀ b ∈ fp, H9 b = none := fun b hb => by
        obtain ⟨o, e, _⟩ := T.obj _ _ st7 b hb
        exact (pin' b hb o e).2
      have g9 : s9.heap.get? a = some go := (J9.pin (a, go) (List.mem_append_left _ (List.mem_singleton.mpr rfl))).1
      refine seg_at (seg_yield rfl rfl rfl ⟨b, rfl, J9.os, J9.bare, J9.nolimit, hgen _ g9, ?_⟩)
      cases b with
      | true =>
        rw [if_pos rfl] at qb ⊢
        obtain ⟨m', hm', w'⟩ := qb
        intro s' hN
        have J' := inv_naps J9 hN
        exact seg_again rfl (again m' H9 s' hm' w' J' (T.keep _ _ _ st9 fun b hb o e => hN.keep b o e) n9)
      | false =>
        rw [if_neg Bool.false_ne_true] at qb ⊢
        exact ⟨H9, J9.os, J9.bare, J9.base, J9.hok, qb⟩
  intro n
  induction n with
  | zero =>
    intro i m H' s₀ s hm hw I hst hn
    exact step 0 i m H' s₀ s hw I hst hn fun m' _ _ h => absurd h (by omega)
  | succ n ih =>
    intro i m H' s₀ s hm hw I hst hn
    exact step (n + 1) i m H' s₀ s hw I hst hn fun m' H'' s'' h w' I' st' n' => ih (i + 1) m' H'' s'' s'' (by omega) w' I' st' n'
end
end FL
set_option maxHeartbeats 4000000
/-! GE3: the generator begins; the loop of all; the whole. -/
namespace FL
open PySem PySem.Spec PyProof.Rows L2 GxR GenW

section
variable {X : Cx} {fp : List Addr} {H2 : Hp} {s5 : Shared} {Q : Bool → Hp → Prop} {a : Addr} {g : Nat}
theorem AllFin.on {b : Bool} {s : Shared} {x : GenState} {h' : Heap} (h : AllFin X fp H2 s5 Q b s) (hx : x.bare = true) (hk : ∀ b o, s.heap.get? b = some o → h'.get? b = some o) : AllFin X fp H2 s5 Q b { s.setGen g x with heap := h' } := by
  obtain ⟨H', o, ba, un, ok, q⟩ := h
  exact ⟨H', o, allBare_setGen (s := s) ba hx, un.trans (Un.kept hk), ok.kept hk, q⟩
theorem AllFin.on' {b : Bool} {s : Shared} {x : GenState} (h : AllFin X fp H2 s5 Q b s) (hx : x.bare = true) : AllFin X fp H2 s5 Q b (s.setGen g x) := by
  obtain ⟨H', o, ba, un, ok, q⟩ := h
  exact ⟨H', o, allBare_setGen (s := s) ba hx, un, ok, q⟩
theorem gen_begin {Aw : Around} {elt tg iter : Expr} {scope : Scope} {pos : Pos} {it : Addr} {cenv : Env} {tn : Nat → Heap → Prop} {J : It} {R : GenEnd} {Y : Protocol} {n : Nat} {s₀ s : Shared} (T : Turn X.prog X.w X.K tg J fp it tn) (hst : tn 0 s.heap)
    (loop : Seg (model X.prog X.w) Aw R Y n s₀ (.compLoop (.GeneratorExp elt [⟨tg, iter, [], 0⟩] scope pos) 0 (.ref it) .none cenv) ((model X.prog X.w).den (.compLoop (.GeneratorExp elt [⟨tg, iter, [], 0⟩] scope pos) 0 (.ref it) .none cenv)) [] s) :
    Seg (model X.prog X.w) Aw R Y n s₀ (.compStart (.GeneratorExp elt [⟨tg, iter, [], 0⟩] scope pos) 0 (.ref it) .none cenv) ((model X.prog X.w).den (.compStart (.GeneratorExp elt [⟨tg, iter, [], 0⟩] scope pos) 0 (.ref it) .none cenv)) [] s := by
  show Seg _ Aw _ _ _ s₀ _ ((compStart (.GeneratorExp elt [⟨tg, iter, [], 0⟩] scope pos) 0 (.ref it) .none cenv).onRaise (leaving cenv)) [] s
  unfold compStart
  rw [Sem.onRaise_eq_wrap]
  show Seg _ Aw _ _ _ s₀ _ ((ask >>= _).wrap _ _ _ _) [] s
  refine seg_bind_wrap (wpAny_askSetting ?_)
  split
  · exact seg_again rfl loop
  · first
      | exact seg_bind_wrap (wpAny_rule (seg_bind_wrap (wpAny_standAt (seg_bind_wrap (T.self _ 0 s _ _ hst (seg_again rfl loop))))))
      | (refine seg_bind_wrap (wpAny_rule ?_); show Seg _ Aw _ _ _ s₀ _ ((standAt iter.pos >>= _).wrap _ _ _ _) [] s; exact seg_bind_wrap (wpAny_standAt (seg_bind_wrap (T.self _ 0 s _ _ hst (seg_again rfl loop)))))

theorem all_loop {A : Around} {R : Result → Shared → Prop} (hh : A.handled = none) (hd : A.depth < recursionLimit) (hR : ∀ b s', AllFin X fp H2 s5 Q b s' → R (.ok (.ret (.bool b))) s') :
    ∀ (n : Nat) (s : Shared), s.heap.IsGen a g → s.heap.NoLimit →
      (∃ gs, s.gens[g]? = some gs ∧ gs.Goes (model X.prog X.w) A.in1.in1 (AllR X fp H2 s5 Q) (AllY X fp H2 s5 Q a g) n (.send .none) (s.setGen g .running)) →
      codeAny (model X.prog X.w) A (.builtin "all.loop" ⟨[.ref a], []⟩) R s := by
  intro n
  induction n with
  | zero =>
    intro s hg hl ⟨gs, hgs, hgo⟩
    refine codeAny_builtin F.entry_all_loop ?_
    rw [Around.under_plainId F.plain_all_loop _]
    show wpAny _ A.in1 (pyNext (.ref a) >>= _) _ _ s
    refine wpAny_bind (wpAny_pyNext_genexpQ (A := A.in1) (P := fun n s₀ s₁ => AllFin X fp H2 s5 Q true s₁) hh hl hd hg hgs hgo (fun v s₁ gs' hb hv => ?_) (fun s₁ hp h' hk => ?_))
    · obtain ⟨b, rfl, os1, ba1, nl1, ig1, hk⟩ := hv
      cases b with
      | true =>
        rw [if_pos rfl] at hk
        exact (hk s₁ ⟨rfl, ba1, fun _ _ e => e⟩).elim
      | false =>
        rw [if_neg Bool.false_ne_true] at hk
        refine wpAny_bind (wpAny_holding (wpAny_truthy_bool ?_))
        refine wpAny_bind (wpAny_letGo ?_)
        simp only [Bool.false_eq_true, if_false]
        refine wpAny_bind (wpAny_rule (wpAny_pure ?_))
        exact hR false _ (hk.on' hb)
    · refine wpAny_bind (wpAny_rule (wpAny_pure ?_))
      exact hR true _ (hp.on (g := g) rfl hk)
  | succ n ih =>
    intro s hg hl ⟨gs, hgs, hgo⟩
    have hgl : g < s.gens.size := (Array.getElem?_eq_some_iff.mp hgs).1
    refine codeAny_builtin F.entry_all_loop ?_
    rw [Around.under_plainId F.plain_all_loop _]
    show wpAny _ A.in1 (pyNext (.ref a) >>= _) _ _ s
    refine wpAny_bind (wpAny_gsz (n := g + 1) hgl (wpAny_pyNext_genexpQ (A := A.in1) (P := fun n s₀ s₁ => AllFin X fp H2 s5 Q true s₁) hh hl hd hg hgs hgo (fun v s₁ gs' hb hv => ?_) (fun s₁ hp h' hk => ?_)))
    · intro hsz
      obtain ⟨b, rfl, os1, ba1, nl1, ig1, hk⟩ := hv
      refine wpAny_bind (wpAny_holding (wpAny_truthy_bool ?_))
      refine wpAny_bind (wpAny_letGo ?_)
      cases b with
      | true =>
        rw [if_pos rfl] at hk
        simp only [if_true]
        have hsz1 : g < s₁.gens.size := by
          have q : (s₁.setGen g gs').gens.size = s₁.gens.size := setGen_size _ _ _
          have hsz' : g + 1 ≤ (s₁.setGen g gs').gens.size := hsz
          omega
        refine wpAny_pure ⟨plainId_quiet F.plain_all_loop _, ih _ ig1 nl1 ⟨gs', setGen_at hsz1, ?_⟩⟩
        exact hk _ ⟨rfl, allBare_setGen (s := s₁.setGen g gs') (allBare_setGen (s := s₁) ba1 hb) rfl, fun _ _ e => e⟩
      | false =>
        rw [if_neg Bool.false_ne_true] at hk
        simp only [Bool.false_eq_true, if_false]
        refine wpAny_bind (wpAny_rule (wpAny_pure ?_))
        exact hR false _ (hk.on' hb)
    · intro hsz
      refine wpAny_bind (wpAny_rule (wpAny_pure ?_))
      exact hR true _ (hp.on (g := g) rfl hk)
end
end FL
set_option maxHeartbeats 4000000
/-! GE4: all(elt for tg in iter). -/
namespace FL
open PySem PySem.Spec PyProof.Rows L2 GxR GenW

/-- all(elt for tg in iter): the def's table at P may grow; W by the turn and a measure -/
def tAllW (P : Addr) (wi : TI) (g : TG) (te : TE) (vs : List Nat) : TE := fun σ H Q => wi σ H fun J H1 => TabG H1 P ∧ ∀ H2, Tabbed P H1 H2 → ∃ W : Nat → Nat → Hp → Prop, (∃ m, W 0 m H2) ∧ AllW J g te vs σ (fun b H => Q (.bl b) H) W
section
variable {X : Cx} {pins : List (Addr × Obj)} {σ : L2.St} {H : Hp} {s : Shared}
theorem gen_codeI {c P : Addr} {gpos : Pos} {qn : Str} {scope : Scope} {ps : Array Value} {Q : Value → Shared → Prop} (TB : TabB X.base X.mg c P) (hcode : X.env.code = .ref c) (I : L2.Inv X pins σ H s) (hP : H P = some (.tbl ps)) (ht : TriplesOk ps.toList)
    (k : ∀ (code : Value) (h3 : Heap) (tk : Nat) (more : Array Value), Heap.ExtBut P s.heap h3 → s.heap.objs.size ≤ h3.objs.size → h3.get? P = some { cls := .none, data := .fields (ps ++ more) } → TriplesOk (ps ++ more).toList → Q code { s with heap := h3, toks := tk }) :
    wpAny (model X.prog X.w) X.A (genexprCode X.env gpos qn scope) Q X.xe s := by
  have hPs : s.heap.get? P = some { cls := .none, data := .fields ps } := I.hok P _ hP
  have cd : PySem.W.CodeHd s.heap c P := TB.code.keeps fun b u e => I.bk b u e
  cases hf : codeAmong gpos ps.toList with
  | none =>
    refine wpAny_genexprCodeX hcode (cd.code hPs ht) (cd.tab hPs) hf fun c' h' tk hx hge hlt hco' _ htab' _ => ?_
    obtain ⟨_, _, _, _, _, _, _, _, _, _, _, _, _, _, _, _, _, _, _, htr, _⟩ := hco'
    exact k _ h' tk _ hx (Nat.le_trans hge (Nat.le_of_lt hlt)) htab'.2 htr
  | some cv =>
    refine wpAny_genexprCode_hit hcode (cd.code hPs ht) hf ?_
    have e : ps ++ (#[] : Array Value) = ps := by simp
    exact k cv s.heap s.toks #[] (Heap.ExtBut.refl _ _) (Nat.le_refl _) (by rw [e]; exact hPs) (by rw [e]; exact ht)

theorem over_gen {k : Nat} {A : Around} {st : List Env} {elt tg iter : Expr} {scope : Scope} {pos : Pos} {it : Value} {cenv : Env} (hr : Room (k + 1) A) (hf : A.frames = some st) :
    Room k (A.in1.in1.over (.compLoop (.GeneratorExp elt [⟨tg, iter, [], 0⟩] scope pos) 0 it .none cenv) []) ∧
    (A.in1.in1.over (.compLoop (.GeneratorExp elt [⟨tg, iter, [], 0⟩] scope pos) 0 it .none cenv) []).frames = some (cenv :: st) ∧
    (A.in1.in1.over (.compLoop (.GeneratorExp elt [⟨tg, iter, [], 0⟩] scope pos) 0 it .none cenv) []).handled = A.handled := by
  refine ⟨⟨hr.hd, ?_, ?_⟩, ?_, rfl⟩
  · have := hr.dp
    show A.depth + 0 + 1 + 3 * k + 5 < _
    omega
  · have := hr.un
    show A.units + 1 + 1 + 0 + 3 + 16 * k + 200 < _
    omega
  · show pushEnvs [cenv] (pushEnvs [] A.frames) = _
    rw [hf]
    rfl

theorem pe_allW {c P : Addr} {elt tg iter : Expr} {p pos gpos : Pos} {scope : Scope} {own : List (Str × Nat)} {wi : TI} {g : TG} {te : TE} {k : Nat}
    (hr : Room (k + 1) X.A) (hc : X.calm = true) (hN : X.N.Nodup) (hg : Gl X "all") (hm : X.mg "all" = none) (TB : TabB X.base X.mg c P) (hcode : X.env.code = .ref c) (S : GenSc scope) (ok : BlkOk X.N X.env.scope scope own) (hi : PI X tg iter wi)
    (pg : ∀ (A : Around) (s : Shared) (H : Hp) (cl : List (Str × Addr)) (C : Addr) (code : Value) (fp : List Addr) (a : Addr) (go : Obj), Room k A → PG (Cxg X A s H (genEnv scope cl C code builtinsNs X.env) fp a go) tg g)
    (pe : ∀ (A : Around) (s : Shared) (H : Hp) (cl : List (Str × Addr)) (C : Addr) (code : Value) (fp : List Addr) (a : Addr) (go : Obj), Room k A → PE (Cxg X A s H (genEnv scope cl C code builtinsNs X.env) fp a go) elt te)
    (hb : bootBuiltins "all" = some (.builtin "all") := by decide +kernel) (hs : ∀ v, genFold iter X.env v = pure v := by intro _; rfl)
    (he : starEach [.GeneratorExp elt [⟨tg, iter, [], 0⟩] scope gpos] X.env = (false, eval (.GeneratorExp elt [⟨tg, iter, [], 0⟩] scope gpos) X.env) :: starEach [] X.env := by rfl) :
    PE X (.Call (.Name "all" p) [.GeneratorExp elt [⟨tg, iter, [], 0⟩] scope gpos] [] pos) (tAllW P wi g te (own.map (·.2))) := by
  refine ⟨fun pins s σ H Q I h => wpAny_Call_Name_kw (ld_blt I hg hm hb (PyProof.Rows.callWith_builtin1 ?_ he (by rfl)))⟩
  rw [he]
  show wpAny _ _ (spliced ((false, eval (.GeneratorExp elt [⟨tg, iter, [], 0⟩] scope gpos) X.env) :: backTo pos (starEach [] X.env))) _ _ s
  have hfree : ∀ y ∈ scope.names, y.2 = .free → ∃ c, X.env.cells.lookup y.1 = some c := fun y hy e => by
    rcases ok.free y hy e with k | k
    · exact I.ok.has _ (.inl k)
    · exact I.ok.has _ (.inr k)
  refine Calls.spliced_cons (wpAny_GeneratorExp_make S.co (closure_ok hfree) S.cell S.dot ok.kind (by have := hr.dp; omega) (thn (hi.run pins s σ H _ I h) fun xv s1 h1 => thn h1 fun itv s2 h2 => ?_) hs)
  obtain ⟨it, fp, tn, J, H2, rfl, I2, T, st2, f2, ⟨ps, hP, ht⟩, q⟩ := h2
  refine ⟨I2.nolimit, gen_codeI TB hcode I2 hP ht fun code h3 tk more hx hsz hP3 ht3 => ?_⟩
  have hPs : s2.heap.get? P = some { cls := .none, data := .fields ps } := I2.hok P _ hP
  obtain ⟨bm, ob, e1, e2, e3, e4, e5, e6, e7, e8⟩ := TB.bm
  have I3 := inv_tab (more := more) (h' := h3) (g' := s2.gens) (d' := s2.drawn) (t' := tk) I2 hP (fun b o hb e => hx b o hb e) hP3 I2.bare
  have keep3 : ∀ b u, b ≠ P → s2.heap.get? b = some u → h3.get? b = some u := fun b u hb e => hx b u hb e
  refine wpAny_builtinsFor (m := X.mg) (by rw [I2.ok.glob]; exact (I2.mod.glob.keeps I2.bk).extBut hx TB.gP) e1 e2 (keep3 _ _ e4 (I2.bk _ _ e5)) e6 e7 e8 ?_
  intro h' hn' hs'
  refine Calls.spliced_nil ?_
  obtain ⟨W, ⟨m0, w0⟩, hW⟩ := q _ (show Tabbed P H2 (upd H2 P (.tbl (ps ++ more))) from ⟨⟨_, upd_same, ht3⟩, fun b hb => upd_ne hb⟩)
  generalize hH3 : upd H2 P (.tbl (ps ++ more)) = H3 at I3 w0
  generalize hs3 : ({ s2 with heap := h3, toks := tk } : Shared) = s3 at *
  have h3e : s3.heap = h3 := by rw [← hs3]
  have sz : ∀ b ∈ fp, b < s2.heap.objs.size := fun b hb => by
    obtain ⟨o, e, _⟩ := T.obj _ _ st2 b hb
    exact Heap.lt_size e
  have fP : ∀ b ∈ fp, b ≠ P := fun b hb z => by
    have := (f2 b hb).1
    rw [z, hP] at this
    cases this
  have f3 : ∀ b ∈ fp, FpOk X pins H3 b ∧ b < s3.heap.objs.size := fun b hb => by
    refine ⟨⟨?_, (f2 b hb).2⟩, by rw [h3e]; exact Nat.lt_of_lt_of_le (sz b hb) hsz⟩
    rw [← hH3, upd_ne (fP b hb)]
    exact (f2 b hb).1
  have st3 : tn 0 s3.heap := T.keep _ _ _ st2 fun b hb o e => by rw [h3e]; exact keep3 b o (fP b hb) e
  have hsz' : h'.objs.size = s3.heap.objs.size + 1 := by rw [hs'.1, Heap.size_push]
  have keep' : ∀ b o, s3.heap.get? b = some o → h'.get? b = some o := fun b o e => hs'.extBut b o (Nat.ne_of_lt (Heap.lt_size e)) (Heap.get?_push_of_some _ e)
  obtain ⟨hroom, hfrm, hhnd⟩ := over_gen (k := k) (elt := elt) (tg := tg) (iter := iter) (scope := scope) (pos := gpos) (it := .ref it) (cenv := genEnv scope (cloFrom X.env.cells scope.names []) s3.heap.objs.size code builtinsNs X.env) (A := X.A) hr I3.ok.frames
  have main : ∀ (go : Obj) (s5 : Shared) (ge : Nat), go.cls = .type "generator" → (∃ nm qn, go.data = .fields #[.int ge 0, nm, qn]) → go.slots = #[] → (∀ h : Heap, (h.push go).get? h.objs.size = some go) → s5.heap = h'.push go → s5.os = s3.os → AllBare s5.gens →
      s5.gens[ge]? = some (.fresh (.compStart (.GeneratorExp elt [⟨tg, iter, [], 0⟩] scope gpos) 0 (.ref it) .none (genEnv scope (cloFrom X.env.cells scope.names []) s3.heap.objs.size code builtinsNs X.env))) →
      wpAny (model X.prog X.w) X.A (call (.builtin "all") [.ref h'.objs.size]) (EP X pins σ Q) X.xe s5 := by
    intro go s5 ge hgc ⟨nm, qn, hgd0⟩ hgs hpu h5 os5 b5 g5
    have hgen : ∀ h : Heap, h.get? (s3.heap.objs.size + 1) = some go → h.IsGen (s3.heap.objs.size + 1) ge := fun h e => ⟨go, nm, qn, e, hgc, hgd0, hgs⟩
    have hgp : (h'.push go).get? (s3.heap.objs.size + 1) = some go := by
      rw [← hsz']
      exact hpu _
    rw [hsz']
    have k5 : ∀ b o, s3.heap.get? b = some o → s5.heap.get? b = some o := fun b o e => by rw [h5]; exact Heap.get?_push_of_some _ (keep' b o e)
    have nl5 : s5.heap.NoLimit := I3.nolimit.keeps k5
    have ig5 : s5.heap.IsGen (s3.heap.objs.size + 1) ge := hgen _ (by rw [h5]; exact hgp)
    refine call_function_tree F.kind_all F.plain_all F.entry_all (F.args_all1 _) ?_
    unfold Builtin.«all»
    refine wpAny_bind (m := oneArg "all" _) (wpAny_pure ?_)
    refine wpAny_bind (wpAny_pyIter_gen ig5 ?_)
    refine wpAny_pure ⟨plainId_quiet F.plain_all_loop _, all_loop (X := X) (fp := fp) (H2 := H3) (s5 := s3) (Q := fun b H => Q (.bl b) H) hr.hd (by have := hr.dp; show X.A.depth < _; omega) (fun b s' hF => ?_) (m0 + 1) s5 ig5 nl5 ⟨_, g5, rfl, ?_⟩⟩
    · obtain ⟨H', os1, ba1, un1, ok1, q1⟩ := hF
      exact ⟨.bl b, H', I3.call' (ch := fp) os1 un1 ok1 ba1 fun b hb => ⟨(f3 b hb).1.2.2.2.1, (f3 b hb).1.2.1, (f3 b hb).1.2.2.2.2.1, (f3 b hb).1.2.2.2.2.2⟩, rfl, q1⟩
    · have st5 : tn 0 (s5.setGen ge .running).heap := T.keep _ _ _ st3 fun b hb o e => k5 b o e
      refine gen_begin T st5 ?_
      have I5 := gen_start (A := X.A.in1.in1.over (.compLoop (.GeneratorExp elt [⟨tg, iter, [], 0⟩] scope gpos) 0 (.ref it) .none (genEnv scope (cloFrom X.env.cells scope.names []) s3.heap.objs.size code builtinsNs X.env)) [])
        (h' := h'.push go) (go := go) (code := code) (s2 := s5.setGen ge .running) (it := .ref it) S I3 ok hN f3 hfrm (fun h => hhnd.trans (I3.ok.hd h)) (fun b o e => Heap.get?_push_of_some _ (keep' b o e)) (hn'.push _) hgp (fun v z => by rw [hgd0] at z; cases z) os5 (allBare_setGen (s := s5) b5 rfl) (fun b o e => by show s5.heap.get? b = some o; rw [h5]; exact e)
      exact gen_turns hc T S.co rfl (pg _ _ _ _ _ _ _ _ _ hroom) (pe _ _ _ _ _ _ _ _ _ hroom) hgen (fun b hb z => by
        have := (f3 b hb).2
        rw [← z] at this
        exact absurd (Nat.lt_trans (Nat.lt_succ_self _) this) (Nat.lt_irrefl _)) hW m0 0 m0 H3 _ _ (Nat.le_refl _) w0 I5 st5 (fun b hb => (f3 b hb).1.1)
  exact main _ _ s3.gens.size rfl ⟨_, _, rfl⟩ rfl (fun h => Heap.get?_push_size _ rfl) rfl rfl (AllBare.push I3.bare rfl) (Array.getElem?_push_size ..)
end
end FL
set_option maxHeartbeats 4000000
/-! GE5: all(elt for tg in iter) as a function of data. -/
namespace FL
open PySem PySem.Spec PyProof.Rows L2 GxR

def allF (fg : D → Ro → Option Ro) (fe : Ro → Option D) (ρ0 : Ro) : List D → Option Bool
  | [] => some true
  | x :: xs => (fg x ρ0).bind fun ρ1 => (fe ρ1).bind fun d => (asB d).bind fun b => if b = true then allF fg fe ρ0 xs else some false
def fAll (vs : List Nat) (fs : Ro → Option (List D)) (fg : D → Ro → Option Ro) (fe : Ro → Option D) : Ro → Option D := fun ρ => (fs ρ).bind fun ds => (allF fg fe (wipeR ρ vs) ds).map .bool
theorem pd_all {X : Cx} {Ps : List Addr} {c P : Addr} {elt tg iter : Expr} {p pos gpos : Pos} {scope : Scope} {own : List (Str × Nat)} {js : List Nat} {fs : Ro → Option (List D)} {fg : D → Ro → Option Ro} {fe : Ro → Option D} {k : Nat} (hP : P ∈ Ps)
    (hr : Room (k + 1) X.A) (hc : X.calm = true) (hN : X.N.Nodup) (hg : Gl X "all") (hm : X.mg "all" = none) (TB : TabB X.base X.mg c P) (hcode : X.env.code = .ref c) (S : GenSc scope) (ok : BlkOk X.N X.env.scope scope own) (hj : ∀ j ∈ js, j ∈ own.map (·.2)) (hi : ID X Ps tg iter fs)
    (pg : ∀ (A : Around) (s : Shared) (H : Hp) (cl : List (Str × Addr)) (C : Addr) (code : Value) (fp : List Addr) (a : Addr) (go : Obj), Room k A → GD (Cxg X A s H (genEnv scope cl C code builtinsNs X.env) fp a go) Ps tg js fg)
    (pe : ∀ (A : Around) (s : Shared) (H : Hp) (cl : List (Str × Addr)) (C : Addr) (code : Value) (fp : List Addr) (a : Addr) (go : Obj), Room k A → PD (Cxg X A s H (genEnv scope cl C code builtinsNs X.env) fp a go) Ps elt fe)
    (hb : bootBuiltins "all" = some (.builtin "all") := by decide +kernel) (hs : ∀ v, genFold iter X.env v = pure v := by intro _; rfl)
    (he : starEach [.GeneratorExp elt [⟨tg, iter, [], 0⟩] scope gpos] X.env = (false, eval (.GeneratorExp elt [⟨tg, iter, [], 0⟩] scope gpos) X.env) :: starEach [] X.env := by rfl) :
    PD X Ps (.Call (.Name "all" p) [.GeneratorExp elt [⟨tg, iter, [], 0⟩] scope gpos] [] pos) (fAll (own.map (·.2)) fs fg fe) := by
  obtain ⟨wi, p1, s1⟩ := hi.ex
  refine ⟨_, pe_allW (g := cG X.K Ps js fg) (te := cE X.K Ps fe) hr hc hN hg hm TB hcode S ok p1 (fun A s H cl C code fp a go h => (pg A s H cl C code fp a go h).can) (fun A s H cl C code fp a go h => (pe A s H cl C code fp a go h).c) hb hs he, fun F0 H0 F H σ ρ d hE hf Q q => ?_⟩
  obtain ⟨ds, e1, hf1⟩ := Option.bind_eq_some_iff.mp hf
  obtain ⟨b, e2, rfl⟩ := Option.map_eq_some_iff.mp hf1
  generalize own.map (·.2) = vs at *
  refine s1 F0 H0 F H σ ρ ds hE e1 _ fun J F1 H1 m1 wk => ⟨m1.tab P hP, fun H2 tb => ?_⟩
  have m2 := m1.trans (m1.tabbed hP tb)
  have hE2 := hE.move m2
  refine ⟨fun i m H' => m = ds.length - i ∧ i ≤ ds.length ∧ ∃ F', Ok Ps F1 H2 F' H' ∧ allF fg fe (wipeR ρ vs) (ds.drop i) = some b, ⟨_, rfl, Nat.zero_le _, F1, m2.refl, e2⟩, ?_⟩
  rintro i m H' ⟨rfl, hi, F', o', hl⟩
  have hE' := hE2.move o'
  obtain ⟨hgo, hst⟩ := wk i F0 H0 F' H' hE'.ok o'.grow
  by_cases hlt : i < ds.length
  · have hd : ds[i]? = some ds[i] := List.getElem?_eq_getElem hlt
    obtain ⟨go, yl⟩ := hgo _ hd
    rw [List.drop_eq_getElem_cons hlt] at hl
    obtain ⟨ρ1, e3, hl1⟩ := Option.bind_eq_some_iff.mp hl
    obtain ⟨dd, e4, hl2⟩ := Option.bind_eq_some_iff.mp hl1
    obtain ⟨bb, e5, hl3⟩ := Option.bind_eq_some_iff.mp hl2
    cases asB_some e5
    refine .inr ⟨go, fun x H3 y => ?_⟩
    obtain ⟨F3, m3, d3⟩ := yl x H3 y
    have hE3 := (hE'.move m3).wipe vs
    refine cG_sem F0 H0 F3 H3 _ _ x _ ρ1 hE3 d3 e3 _ fun σ4 hE4 l4 k4 w4 => ⟨wipe_same hj (by rw [l4, wipe_length]) k4, ?_⟩
    refine cE_sem F0 H0 F3 H3 σ4 ρ1 _ hE4 e4 _ fun v F5 H5 m5 d5 => ?_
    cases d5
    have mm := o'.trans (m3.trans m5)
    refine ⟨bb, rfl, ?_⟩
    cases bb with
    | true =>
      rw [if_pos rfl] at hl3 ⊢
      exact ⟨ds.length - (i + 1), by omega, rfl, hlt, F5, mm, hl3⟩
    | false =>
      rw [if_neg Bool.false_ne_true] at hl3 ⊢
      cases hl3
      exact q _ F5 H5 (m2.trans mm) (.bl false)
  · have e : i = ds.length := by omega
    subst e
    rw [List.drop_length] at hl
    cases hl
    exact .inl ⟨hst (Nat.le_refl _), q _ F' H' (m2.trans o') (.bl true)⟩
end FL
set_option maxHeartbeats 4000000
/-! FL12: dicts. -/
namespace FL
open PySem PySem.Spec PyProof.Rows L2

/-! ### reading -/
def gKey : D → Option Key
  | .int i => some (.inl i)
  | .str x => some (.inr x)
  | _ => none
theorem gKey_kD (k : Key) : gKey (kD k) = some k := by cases k <;> rfl
theorem key_dp {K : PySem.W.Frag} {G : Hp} {v : V} {d : D} {k : Key} (h : Dp K G v d) (e : gKey d = some k) : v = kV k := by
  cases h <;> cases e <;> rfl
def getKV (ps : List (D × D)) (k : Key) : Option D := (ps.find? fun p => decide (gKey p.1 = some k)).map (·.2)
theorem getKV_rel {K : PySem.W.Frag} {G : Hp} {k : Key} : ∀ {vs : List (Key × V)} {ps : List (D × D)}, DpKV K G vs ps → (∀ d, getKV ps k = some d → ∃ v, valV vs k = some v ∧ Dp K G v d) ∧ (getKV ps k = none → valV vs k = none)
  | [], _, h => by
    cases h
    exact ⟨fun d e => (by cases e), fun _ => rfl⟩
  | (x, v) :: vs, _, h => by
    cases h with
    | @cons _ _ _ d ds h hk =>
      have ih := getKV_rel (k := k) hk
      by_cases e : x = k
      · subst e
        have e1 : getKV ((kD x, d) :: ds) x = some d := by
          unfold getKV
          rw [List.find?_cons_of_pos (by simp [gKey_kD])]
          rfl
        have e2 : valV ((x, v) :: vs) x = some v := by
          unfold valV
          rw [List.find?_cons_of_pos (by simp)]
          rfl
        rw [e1, e2]
        exact ⟨fun d' z => by cases z; exact ⟨v, rfl, h⟩, fun z => by cases z⟩
      · have e1 : getKV ((kD x, d) :: ds) k = getKV ds k := by
          unfold getKV
          rw [List.find?_cons_of_neg (by simp [gKey_kD, e])]
        have e2 : valV ((x, v) :: vs) k = valV vs k := by
          unfold valV
          rw [List.find?_cons_of_neg (by simp [e])]
        rw [e1, e2]
        exact ih
theorem getKV_some {K : PySem.W.Frag} {G : Hp} {k : Key} {vs : List (Key × V)} {ps : List (D × D)} (h : DpKV K G vs ps) : (valV vs k).isSome = (getKV ps k).isSome := by
  obtain ⟨h1, h2⟩ := getKV_rel (k := k) h
  cases e : getKV ps k with
  | none => rw [h2 e]; rfl
  | some d =>
    obtain ⟨v, e1, _⟩ := h1 d e
    rw [e1]
    rfl
section
variable {X : Cx} {Ps : List Addr} {e a b c : Expr} {es : List Expr} {f f1 f3 : Ro → Option D} {fl : Ro → Option (List D)} {pos : Pos}
def gGet : D → D → Option D
  | .dict ps, k => (gKey k).bind (getKV ps)
  | _, _ => none
theorem pd_dget (hu : X.A.units + 1 < cLine) (ha : PD X Ps a f1) (hb : PD X Ps b f3) (hs : NoSl b) : PD X Ps (.Subscript a b pos) (fOp gGet f1 f3) := by
  obtain ⟨t, p, s⟩ := ha.ex
  obtain ⟨u, p2, s2⟩ := hb.ex
  refine ⟨_, pe_dget hu p p2 hs, fun F0 H0 F H σ ρ d hE hf Q q => ?_⟩
  obtain ⟨x, e1, hf1⟩ := Option.bind_eq_some_iff.mp hf
  obtain ⟨y, e2, hf2⟩ := Option.bind_eq_some_iff.mp hf1
  cases x with
  | dict ps =>
    obtain ⟨k, e3, e4⟩ := Option.bind_eq_some_iff.mp (show (gKey y).bind (getKV ps) = some d from hf2)
    refine s F0 H0 F H σ ρ _ hE e1 _ fun v F1 H1 m1 d1 => ?_
    refine s2 F0 H0 F1 H1 σ ρ y (hE.move m1) e2 _ fun w F2 H2 m2 d2 => ?_
    have mm := m1.trans m2
    cases d1 with
    | @dct a kvs _ h hk =>
      obtain ⟨v, e5, dv⟩ := (getKV_rel hk).1 d e4
      exact ⟨a, v, rfl, .inl ⟨kvs, k, rd_mono mm.sub (rd_mono m2.grow h), key_dp d2 e3, e5.symm⟩, q v F2 H2 mm (dp_mono m2.grow _ _ dv)⟩
  | _ => cases hf2
def gInD (neg : Bool) : D → D → Option D
  | k, .dict ps => (gKey k).map fun x => .bool (if neg = true then !(getKV ps x).isSome else (getKV ps x).isSome)
  | _, _ => none
theorem sem_in {ta tb : TE} (ha : SemE X.K Ps ta f1) (hb : SemE X.K Ps tb f3) : SemE X.K Ps (tDIn ta tb) (fOp (gInD false) f1 f3) := by
  intro F0 H0 F H σ ρ d hE hf Q q
  obtain ⟨y, e1, hf1⟩ := Option.bind_eq_some_iff.mp hf
  obtain ⟨x, e2, hf2⟩ := Option.bind_eq_some_iff.mp hf1
  cases x with
  | dict ps =>
    obtain ⟨k, e3, rfl⟩ := Option.map_eq_some_iff.mp (show (gKey y).map _ = some d from hf2)
    refine ha F0 H0 F H σ ρ _ hE e1 _ fun v F1 H1 m1 d1 => ?_
    refine hb F0 H0 F1 H1 σ ρ _ (hE.move m1) e2 _ fun w F2 H2 m2 d2 => ?_
    have mm := m1.trans m2
    cases d2 with
    | @dct a kvs _ h hk =>
      refine ⟨a, _, rfl, .inl ⟨kvs, k, rd_mono mm.sub h, key_dp d1 e3, rfl⟩, ?_⟩
      rw [getKV_some hk]
      exact q _ F2 H2 mm (.bl _)
  | _ => cases hf2
theorem sem_nin {ta tb : TE} (ha : SemE X.K Ps ta f1) (hb : SemE X.K Ps tb f3) : SemE X.K Ps (tDNotIn ta tb) (fOp (gInD true) f1 f3) := by
  intro F0 H0 F H σ ρ d hE hf Q q
  obtain ⟨y, e1, hf1⟩ := Option.bind_eq_some_iff.mp hf
  obtain ⟨x, e2, hf2⟩ := Option.bind_eq_some_iff.mp hf1
  cases x with
  | dict ps =>
    obtain ⟨k, e3, rfl⟩ := Option.map_eq_some_iff.mp (show (gKey y).map _ = some d from hf2)
    refine ha F0 H0 F H σ ρ _ hE e1 _ fun v F1 H1 m1 d1 => ?_
    refine hb F0 H0 F1 H1 σ ρ _ (hE.move m1) e2 _ fun w F2 H2 m2 d2 => ?_
    have mm := m1.trans m2
    cases d2 with
    | @dct a kvs _ h hk =>
      refine ⟨a, _, rfl, .inl ⟨kvs, k, rd_mono mm.sub h, key_dp d1 e3, rfl⟩, ?_⟩
      rw [getKV_some hk]
      exact q _ F2 H2 mm (.bl _)
  | _ => cases hf2
theorem pd_din (hu : X.A.units + 1 < cLine) (ha : PD X Ps a f1) (hb : PD X Ps b f3) (hm : behindInMarks .In b = false := by rfl) : PD X Ps (.Compare a [.In] [b] pos) (fOp (gInD false) f1 f3) := by
  obtain ⟨t, p, s⟩ := ha.ex
  obtain ⟨u, p2, s2⟩ := hb.ex
  exact ⟨_, pe_cmp (pc_din hu p p2) hm, sem_in s s2⟩
theorem pd_dnotin (hu : X.A.units + 1 < cLine) (ha : PD X Ps a f1) (hb : PD X Ps b f3) (hm : behindInMarks .NotIn b = false := by rfl) : PD X Ps (.Compare a [.NotIn] [b] pos) (fOp (gInD true) f1 f3) := by
  obtain ⟨t, p, s⟩ := ha.ex
  obtain ⟨u, p2, s2⟩ := hb.ex
  exact ⟨_, pe_cmp (pc_dnotin hu p p2) hm, sem_nin s s2⟩
theorem td_din (hu : X.A.units + 1 < cLine) (ha : PD X Ps a f1) (hb : PD X Ps b f3) (hm : behindInMarks .In b = false := by rfl) : TD X Ps (.Compare a [.In] [b] pos) (fB (fOp (gInD false) f1 f3)) := by
  obtain ⟨t, p, s⟩ := ha.ex
  obtain ⟨u, p2, s2⟩ := hb.ex
  exact ⟨_, pt_cmp (pc_din hu p p2) hm, semB (sem_in s s2)⟩
theorem td_dnotin (hu : X.A.units + 1 < cLine) (ha : PD X Ps a f1) (hb : PD X Ps b f3) (hm : behindInMarks .NotIn b = false := by rfl) : TD X Ps (.Compare a [.NotIn] [b] pos) (fB (fOp (gInD true) f1 f3)) := by
  obtain ⟨t, p, s⟩ := ha.ex
  obtain ⟨u, p2, s2⟩ := hb.ex
  exact ⟨_, pt_cmp (pc_dnotin hu p p2) hm, semB (sem_nin s s2)⟩

/-! ### writing into the dict that a slot alone holds -/
def putKD (ps : List (D × D)) (k : Key) (d : D) : List (D × D) :=
  if (ps.any fun p => decide (gKey p.1 = some k)) = true then ps.map (fun p => if gKey p.1 = some k then (p.1, d) else p) else ps ++ [(kD k, d)]
theorem dpKV_any {K : PySem.W.Frag} {G : Hp} {k : Key} : ∀ {vs : List (Key × V)} {ps : List (D × D)}, DpKV K G vs ps → (ps.any fun p => decide (gKey p.1 = some k)) = vs.any fun kv => decide (kv.1 = k)
  | [], _, h => by cases h; rfl
  | (x, v) :: vs, _, h => by
    cases h with
    | cons h hk =>
      rw [List.any_cons, List.any_cons, dpKV_any hk, gKey_kD]
      simp
theorem dpKV_len {K : PySem.W.Frag} {G : Hp} : ∀ {vs : List (Key × V)} {ps : List (D × D)}, DpKV K G vs ps → vs.length = ps.length
  | [], _, h => by cases h; rfl
  | (x, v) :: vs, _, h => by
    cases h with
    | cons h hk => simp [dpKV_len hk]
theorem dpKV_app {K : PySem.W.Frag} {G : Hp} : ∀ {vs ws : List (Key × V)} {ps qs : List (D × D)}, DpKV K G vs ps → DpKV K G ws qs → DpKV K G (vs ++ ws) (ps ++ qs)
  | [], _, _, _, h, k => by cases h; exact k
  | (x, v) :: vs, _, _, _, h, k => by
    cases h with
    | cons h hk => exact .cons h (dpKV_app hk k)
theorem dpKV_map {K : PySem.W.Frag} {G : Hp} {k : Key} {v : V} {d : D} (hd : Dp K G v d) : ∀ {vs : List (Key × V)} {ps : List (D × D)}, DpKV K G vs ps → DpKV K G (vs.map fun kv => if kv.1 = k then (kv.1, v) else kv) (ps.map fun p => if gKey p.1 = some k then (p.1, d) else p)
  | [], _, h => by cases h; exact .nil
  | (x, w) :: vs, _, h => by
    cases h with
    | cons h hk =>
      rw [List.map_cons, List.map_cons, gKey_kD]
      by_cases e : x = k
      · rw [if_pos e, if_pos (by rw [e])]
        exact .cons hd (dpKV_map hd hk)
      · rw [if_neg e, if_neg (fun z => e (Option.some.inj z))]
        exact .cons h (dpKV_map hd hk)
theorem putKD_rel {K : PySem.W.Frag} {G : Hp} {k : Key} {v : V} {d : D} {vs : List (Key × V)} {ps : List (D × D)} (h : DpKV K G vs ps) (hd : Dp K G v d) : DpKV K G (putK vs k v) (putKD ps k d) := by
  unfold putK putKD
  rw [dpKV_any h]
  by_cases e : (vs.any fun kv => decide (kv.1 = k)) = true
  · rw [if_pos e, if_pos e]
    exact dpKV_map hd h
  · rw [if_neg e, if_neg e]
    exact dpKV_app h (.cons hd .nil)
/-- x = {} -/
def fNewD (i : Nat) : Ro → Option Out := fun ρ => some (.nx (ρ.set i (.od [])))
theorem sd_newD {i : Nat} {x : Str} {p1 p2 : Pos} (hN : X.N.Nodup) (hi : X.N[i]? = some x) (hx : Loc X.env.scope x) (hs : swapsWith (.Dict [] [] p1) (some (.Name x p2)) pos.line X.env = pure false := by rfl)
    (hf : X.fn x = true ∨ X.env.scope.names.lookup x = some .local := by first | exact .inl rfl | exact .inr rfl | assumption) : SD X Ps (.Assign [.Name x p2] (.Dict [] [] p1) pos) (fNewD i) := by
  refine ⟨_, ps_set hN hi hx pe_dnewK hs hf, fun F0 H0 F H σ ρ o E hE hf q => ?_⟩
  cases hf
  intro p hp
  have m := hE.ok.refl.new_ow hp (.dK [])
  exact q F _ _ (hE.setW m hp (fno_new hE.ok hp) upd_same (.dct .nil)) m.grow
/-- x[k] = v, the slot alone holds x -/
def fPut (i : Nat) (fk fv : Ro → Option D) : Ro → Option Out := fun ρ => match ρ[i]? with
  | some (.own (.dct ps)) => (fv ρ).bind fun d => (fk ρ).bind fun y => (gKey y).bind fun k => if ps.length < 1000000 then some (.nx (ρ.set i (.od (putKD ps k d)))) else none
  | _ => none
theorem sd_put {i : Nat} {x : Str} {p0 p1 : Pos} (hu : X.A.units + 1 < cLine) (hN : X.N[i]? = some x) (pk : PD X Ps a f1) (pv : PD X Ps b f3) (hs : swapsWith b (some (.Subscript (.Name x p0) a p1)) pos.line X.env = pure false := by rfl)
    (hv : Vis X.env.scope x := by first | exact Or.inl rfl | exact Or.inr (Or.inl rfl) | exact Or.inr (Or.inr rfl)) (hd : (x == ("__debug__" : Str)) = false := by decide) (hcd : (x == ("__classdict__" : Str)) = false := by decide) :
    SD X Ps (.Assign [.Subscript (.Name x p0) a p1] b pos) (fPut i f1 f3) := by
  obtain ⟨t, p, s⟩ := pk.ex
  obtain ⟨u, p2, s2⟩ := pv.ex
  refine ⟨_, ps_dput hu (pe_var hN hv hd hcd) p p2 hs, fun F0 H0 F H σ ρ o E hE hf q => ?_⟩
  unfold fPut at hf
  split at hf
  · rename_i ps e0
    obtain ⟨d, e1, hf1⟩ := Option.bind_eq_some_iff.mp hf
    obtain ⟨y, e2, hf2⟩ := Option.bind_eq_some_iff.mp hf1
    obtain ⟨k, e3, hf3⟩ := Option.bind_eq_some_iff.mp hf2
    split at hf3
    · rename_i hz
      cases hf3
      refine s2 F0 H0 F H σ ρ d hE e1 _ fun v F1 H1 m1 d1 => ?_
      have hE1 := hE.move m1
      obtain ⟨a', vs', e2', _⟩ := hE1.getD e0
      refine ⟨.ref a', e2', ?_⟩
      refine s F0 H0 F1 H1 σ ρ y hE1 e2 _ fun w F2 H2 m2 d2 => ?_
      have hE2 := hE1.move m2
      obtain ⟨a2, vs, e4, h0, f0, e5, d5⟩ := hE2.getD e0
      rw [e2'] at e4
      cases e4
      refine ⟨a', _, rfl, .inl ⟨vs, k, e5, key_dp d2 e3, lt_size (by rw [dpKV_len d5]; exact hz), rfl⟩, ?_⟩
      exact q F2 _ σ (hE2.mutW e0 e2' (.dct (putKD_rel d5 (dp_mono m2.grow _ _ d1)))) (m1.trans m2).grow
    · cases hf3
  · cases hf
end
end FL
set_option maxHeartbeats 4000000
/-! FL13: tuple(dict). -/
namespace FL
open PySem PySem.Spec PyProof.Rows L2 PySem.W
section
variable {prog : Program} {w : World} {A : Around} {E : Value → Shared → Prop} {s : Shared} {T : String} {r d : Addr} {n : Nat} {PI : Nat → Value → Prop} {OK : Heap → Prop}
theorem collect_src {Q : List Value → Shared → Prop} (K : KdlSrc prog w T r d n PI OK) (hh : A.handled = none) (hok : OK s.heap) (hn : n ≤ sizeLine)
    (hQ : ∀ (h' : Heap) (tk : Nat) (acc : Array Value), (∀ b o, s.heap.get? b = some o → h'.get? b = some o) → ItemsOf PI acc n → Q acc.toList { s with heap := h', toks := tk }) :
    wpAny (model prog w) A (collect (.ref r)) Q E s := by
  unfold collect
  refine wpAny_bind (wpAny_runValue (codeAny_builtin F.entry_proto_collect ?_))
  rw [Around.under_plainId F.plain_proto_collect _]
  show wpAny _ A.in1 (newList [] >>= fun l => again (.builtin "list.__iadd__" ⟨[l, .ref r], []⟩)) _ _ s
  refine wpAny_bind (wpAny_newObj_type ?_)
  refine wpAny_pure ⟨plainId_quiet F.plain_list_iadd _, codeAny_builtin F.entry_list_iadd ?_⟩
  rw [Around.under_plainId F.plain_list_iadd _]
  show wpAny _ A.in1 (Builtin.List.listExtendWith (.ref s.heap.objs.size) (.ref r) (.ref s.heap.objs.size)) _ _ _
  have hS : (s.heap.push { cls := .type "list", data := .seq ([] : List Value).toArray }).get? s.heap.objs.size = some { cls := .type "list", data := .seq #[] 0 } := Heap.get?_push_size _ rfl
  have hlt := K.there _ hok
  refine wpAny_mono (kdl_extend (A := A) (R := fun rr s' => rr = .ok (.ret (.ref s.heap.objs.size)) ∧ ∃ (h' : Heap) (tk : Nat) (acc : Array Value) (c' : Nat), s' = { s with heap := h', toks := tk } ∧
      (∀ b o, s.heap.get? b = some o → h'.get? b = some o) ∧ h'.get? s.heap.objs.size = some { cls := .type "list", dict := none, data := .seq acc c', slots := #[] } ∧ ItemsOf PI acc n)
    (s := { s with heap := s.heap.push { cls := .type "list", data := .seq ([] : List Value).toArray } }) K hh (K.keep _ _ hok fun b _ o e => Heap.get?_push_of_some _ e) _ (Nat.ne_of_gt hlt.1) (Nat.ne_of_gt hlt.2) _ 0 hS
    (fun h' tk acc c' hk e hi => ⟨rfl, h', tk, acc, c', rfl, fun b o q => hk b o (Nat.ne_of_lt (Heap.lt_size q)) (Heap.get?_push_of_some _ q), e, hi⟩) hn) (fun fin s' h => ?_) (fun e s' h => ?_)
  · cases fin with
    | done f =>
      obtain ⟨e, h', tk, acc, c', rfl, hk, hS', hi⟩ := h
      cases e
      show wpAny _ A (load s.heap.objs.size >>= _) _ _ _
      exact wpAny_bind (wpAny_load hS' (wpAny_pure (hQ h' tk acc hk hi)))
    | again c' =>
      refine ⟨h.1, codeAny_mono h.2 fun rr s'' hr' => ?_⟩
      obtain ⟨rfl, h', tk, acc, c', rfl, hk, hS', hi⟩ := hr'
      show wpAny _ A (load s.heap.objs.size >>= _) _ _ _
      exact wpAny_bind (wpAny_load hS' (wpAny_pure (hQ h' tk acc hk hi)))
  · exact absurd h.1 (by simp)
theorem tuple_new_src {Q₁ : Value → Shared → Prop} (K : KdlSrc prog w T r d n PI OK) (hT : s.TypeIs (.ref r) T) (hne : (Value.type T == Value.type "tuple") = false) (hh : A.handled = none) (hok : OK s.heap) (hn : n ≤ sizeLine)
    (h : ∀ (h' : Heap) (tk : Nat) (acc : Array Value), (∀ b o, s.heap.get? b = some o → h'.get? b = some o) → ItemsOf PI acc n →
      Q₁ (.ref h'.objs.size) { s with heap := h'.push { cls := .type "tuple", data := .seq acc }, toks := tk }) :
    codeAny (model prog w) A (.call (.builtin "tuple.__new__") ⟨[.type "tuple", .ref r], []⟩) (wants Q₁ E) s := by
  refine codeAny_of_tree ?_
  show wpAny _ A.in1 (do checkBuiltinCall "tuple.__new__" ⟨[.type "tuple", .ref r], []⟩; again (.builtin "tuple.__new__" ⟨[.type "tuple", .ref r], []⟩)) _ _ s
  refine wpAny_bind (wpAny_of_eq (F.newCall_tuple_1 _) (wpAny_pure ⟨plainId_quiet F.plain_tuple_new _, codeAny_builtin F.entry_tuple_new ?_⟩))
  rw [Around.under_plainId F.plain_tuple_new _]
  have hsub := sub_tuple_self
  have hinit := init_tuple_lookup
  have hmh := madeHere_tuple
  have hh1 : A.in1.handled = none := hh
  wp_walk using wpAny_typeOf hT, collect_src (A := A.in1) K hh1 hok hn
  intro h' tk acc hk hacc
  show wpAny _ _ (Builtin.Tuple.tupleExact acc.toList.toArray >>= fun v => ret v) _ _ _
  unfold Builtin.Tuple.tupleExact
  refine wpAny_bind (wpAny_newObj_type ?_ (by show acc.toList.toArray.size ≤ sizeLine; simp only [Array.toArray_toList]; rw [hacc.1]; exact hn))
  refine wpAny_pure ?_
  have e : acc.toList.toArray = acc := by simp
  rw [e]
  exact h h' tk acc hk hacc
end
end FL
set_option maxHeartbeats 4000000
/-! FL14: more built-ins: tuple(dict), list(tuple), str(int), t * n, t[a:b], x in t, dict displays, what never runs. -/
namespace FL
open PySem PySem.Spec PyProof.Rows L2

theorem dpKV_at {K : PySem.W.Frag} {G : Hp} : ∀ {vs : List (Key × V)} {ps : List (D × D)}, DpKV K G vs ps → DpAll K G (vs.map fun kv => kV kv.1) (ps.map (·.1))
  | [], _, h => by cases h; exact .nil
  | (x, v) :: vs, _, h => by
    cases h with
    | cons h hk =>
      refine .cons ?_ (dpKV_at hk)
      cases x with
      | inl i => exact .int i
      | inr z => exact .str z
section
variable {X : Cx} {Ps : List Addr} {K : PySem.W.Frag}
def rTupD : List V → Hp → VK → Prop := fun xs H Q => ∃ p kvs, xs = [.ref p] ∧ Rd H p (.dK kvs) ∧ ∀ q, H q = none → Q (.ref q) (upd H q (.tup (kvs.map fun kv => kV kv.1)))
theorem call_tupD (hc : X.calm = true) : CallR X (.type "tuple") rTupD := by
  intro pins s σ H xs us Q I r h
  obtain ⟨p, kvs, rfl, hk, q⟩ := h
  obtain ⟨u, rfl, rx⟩ := vals1 r
  cases rx
  obtain ⟨z, lo, vs, rk, hd⟩ := dk_rd I.hok hk
  obtain ⟨ep, hat⟩ := hd.dictAt
  have hl : kvs.length = vs.length := Paired.length rk
  refine callType_codes (Q₁ := fun obj s₁ => s₁.TypeIs obj "tuple" ∧ EP X pins σ Q obj s₁) F.called_tuple (F.typeCall_tuple_1 _) F.entry_object_init
    (tuple_new_src (A := X.A.in1) (PySem.W.kdl_dict (knd := mixKind X.prog X.w) (kvs := vs) (ep := ep) lo) hat.dictOf.typeIs (by decide) (I.ok.hd hc) hat (by rw [← hl]; exact z) fun h' tk acc hkeep hacc => ⟨⟨_, Heap.get?_push_size _ rfl, rfl⟩, ?_⟩) fun obj s₁ h₁ =>
      ⟨h₁.1, F.args_object_init_2 obj _, object_init_meets F.called_tuple.init.lookup F.called_tuple.made (by decide) X.prog X.w X.A.in1 _ s₁ ⟨h₁.1, rfl, h₁.2⟩⟩
  have I2 : L2.Inv X pins σ H { s with heap := h', toks := tk } := I.kept hkeep
  refine ⟨.ref h'.objs.size, upd H h'.objs.size (.tup (kvs.map fun kv => kV kv.1)), I2.laid (t' := tk) (fun c o e => Heap.get?_push_of_some _ e) (Nat.le_refl _) (show ObjOk X.prog X.w _ _ _ (.tup (kvs.map fun kv => kV kv.1)) from ⟨?_, acc.toList, ?_, ?_⟩), rfl, q _ (I2.hok.fresh (Nat.le_refl _))⟩
  · rw [List.length_map]; exact z
  · have el : acc.toList.length = acc.size := by simp
    refine vals_of_at (by rw [List.length_map, el, hacc.1, hl]) fun j x w h1 h2 => ?_
    obtain ⟨k, y, hky, hi⟩ := hacc.2 j w (by rw [← Array.getElem?_toList]; exact h2)
    have e1 : (kvs.map (·.1))[j]? = some k := by
      rw [KV.keys rk, List.getElem?_map, hky]; rfl
    rw [List.getElem?_map] at h1 e1
    obtain ⟨kv, e3, rfl⟩ := Option.map_eq_some_iff.mp h1
    rw [e3] at e1
    cases e1
    exact keyIs_rel hi
  · rw [Array.toArray_toList]; exact IsTup.new _ _
def rTupB (K : PySem.W.Frag) : List V → Hp → VK → Prop := fun xs H Q => (∃ p ys, xs = [.ref p] ∧ ((SqL K H p ys ∧ ∀ l, H l = none → Q (.ref l) (upd H l (.tup ys))) ∨ (SqT K H p ys ∧ Q (.ref p) H))) ∨ rTupD xs H Q
theorem call_tupB (hc : X.calm = true) : CallR X (.type "tuple") (rTupB X.K) := by
  intro pins s σ H xs us Q I r h
  rcases h with h | h
  · exact call_tuple_of pins s σ H xs us Q I r h
  · exact call_tupD hc pins s σ H xs us Q I r h
def gTupB : List D → Option D
  | [.list ds] => some (.tuple ds)
  | [.tuple ds] => some (.tuple ds)
  | [.dict ps] => some (.tuple (ps.map (·.1)))
  | _ => none
theorem sem_tupB : SemC K Ps (rTupB K) gTupB := fun F H xs ds z o hx hg Q q => by
  unfold gTupB at hg
  split at hg
  · cases hg
    cases hx with
    | cons h1 h2 =>
      cases h2
      cases h1 with
      | @lst a vs _ hs ha =>
        refine .inl ⟨a, vs, rfl, .inl ⟨o.sub.seq hs, fun l hl => ?_⟩⟩
        have m := o.new_fz hl (.tup vs)
        exact q _ _ _ m (.tup (.inl (.inl upd_same)) (dpAll_mono m.grow _ _ ha))
  · cases hg
    cases hx with
    | cons h1 h2 =>
      cases h2
      cases h1 with
      | @tup a vs _ hs ha => exact .inl ⟨a, vs, rfl, .inr ⟨sqT_sub o.sub hs, q _ F H o (.tup hs ha)⟩⟩
  · cases hg
    cases hx with
    | cons h1 h2 =>
      cases h2
      cases h1 with
      | @dct a vs _ hs ha =>
        refine .inr ⟨a, vs, rfl, rd_mono o.sub hs, fun l hl => ?_⟩
        have m := o.new_fz hl (.tup (vs.map fun kv => kV kv.1))
        exact q _ _ _ m (.tup (.inl (.inl upd_same)) (dpAll_mono m.grow _ _ (dpKV_at ha)))
  · cases hg
/-! str(int) -/
def gStr : List D → Option D
  | [.int i] => if i.natAbs < 1000000 then some (.str (toString i)) else none
  | [.str x] => some (.str x)
  | _ => none
def rStr : List V → Hp → VK → Prop := fun xs H Q => (∃ i, xs = [.int i] ∧ i.natAbs.log2 < 1920 ∧ Q (.str (toString i)) H) ∨ ∃ a, xs = [.str a] ∧ Q (.str a) H
theorem log_small {n : Nat} (h : n < 1000000) : n.log2 < 1920 := by
  by_cases z : n = 0
  · subst z; decide
  · have h1 := Nat.log2_lt (k := 20) z
    have h2 : n < 2 ^ 20 := Nat.lt_of_lt_of_le h (by decide)
    have := h1.mpr h2
    omega
theorem sem_str : SemC K Ps rStr gStr := fun F H xs ds z o hx hg Q q => by
  unfold gStr at hg
  split at hg
  · split at hg
    · rename_i hz
      cases hg
      cases hx with
      | cons h1 h2 =>
        cases h2
        cases h1
        exact .inl ⟨_, rfl, log_small hz, q _ F H o (.str _)⟩
    · cases hg
  · cases hg
    cases hx with
    | cons h1 h2 =>
      cases h2
      cases h1
      exact .inr ⟨_, rfl, q _ F H o (.str _)⟩
  · cases hg
end
end FL
set_option maxHeartbeats 4000000
/-! FL15: str(x), list(x), t * n, t[a:b], x in t, dict displays, what never runs. -/
namespace FL
open PySem PySem.Spec PyProof.Rows L2
section
variable {X : Cx} {Ps : List Addr} {K : PySem.W.Frag} {e a b c : Expr} {es : List Expr} {f f1 f3 : Ro → Option D} {fl : Ro → Option (List D)} {pos : Pos}
theorem call_strB : CallR X (.type "str") rStr := by
  intro pins s σ H xs us Q I r h
  rcases h with h | h
  · exact call_str_int pins s σ H xs us Q I r h
  · exact SkE.call_str_str pins s σ H xs us Q I r h
/-- what never runs -/
theorem pd_never (h : PE X e (fun _ _ _ => False)) : PD X Ps e (fun _ => none) := ⟨_, h, fun F0 H0 F H σ ρ d hE hf Q q => by cases hf⟩
theorem pe_never : PE X e (fun _ _ _ => False) := ⟨fun _ _ _ _ _ _ h => False.elim h⟩
theorem pd_no : PD X Ps e (fun _ => none) := pd_never pe_never
theorem td_no : TD X Ps e (fun _ => none) := ⟨fun _ _ _ => False, ⟨fun _ _ _ _ _ _ h => False.elim h⟩, fun F0 H0 F H σ ρ d hE hf Q q => by cases hf⟩
/-! list(x) -/
def gListOf : List D → Option (List D)
  | [.list ds] => some ds
  | [.tuple ds] => some ds
  | _ => none
def fListOf (fl : Ro → Option (List D)) : Ro → Option (List D) := fun ρ => (fl ρ).bind gListOf
theorem ld_listOf {x : Str} {p : Pos} (hg : Gl X x) (hm : X.mg x = none) (hv : bootBuiltins x = some (.type "list")) (ha : AD X Ps [a] fl) (hn : x ≠ "__name__" := by decide) (hdb : (x == ("__debug__" : Str)) = false := by decide)
    (he : starEach [a] X.env = (false, eval a X.env) :: starEach [] X.env := by rfl) (hpl : (backTo pos (starEach [] X.env)).any (·.1) = false := by rfl) : LD X Ps (.Call (.Name x p) [a] [] pos) (fListOf fl) := by
  obtain ⟨t, p1, s⟩ := ha.ex
  refine ⟨_, pe_callTy call_list_of hg hm hv p1 hn hdb he hpl, fun F0 H0 F H σ ρ ds hE hf Q q => ?_⟩
  obtain ⟨x, e1, hf1⟩ := Option.bind_eq_some_iff.mp hf
  refine s F0 H0 F H σ ρ x hE e1 _ fun vs F1 H1 m1 d1 => ?_
  unfold gListOf at hf1
  split at hf1
  · cases hf1
    cases d1 with
    | cons h1 h2 =>
      cases h2
      cases h1 with
      | @lst a ys _ hs ha => exact ⟨a, ys, rfl, .inl (m1.sub.seq hs), fun l hl => q l ys F1 _ (m1.trans (m1.new_ow hl (.lst ys))) (m1.none0 hl) (fno_new m1 hl) upd_same ha⟩
  · cases hf1
    cases d1 with
    | cons h1 h2 =>
      cases h2
      cases h1 with
      | @tup a ys _ hs ha => exact ⟨a, ys, rfl, .inr (sqT_sub m1.sub hs), fun l hl => q l ys F1 _ (m1.trans (m1.new_ow hl (.lst ys))) (m1.none0 hl) (fno_new m1 hl) upd_same ha⟩
  · cases hf1
/-! t * n -/
def gRepT : D → D → Option D
  | .tuple ds, .int k => if ds ≠ [] ∧ 2 ≤ k ∧ k ≤ 1000 ∧ ds.length ≤ 1000 then some (.tuple (List.replicate k.toNat ds).flatten) else none
  | _, _ => none
theorem dpAll_rep {G : Hp} {vs : List V} {ds : List D} (h : DpAll K G vs ds) : ∀ m : Nat, DpAll K G (List.replicate m vs).flatten (List.replicate m ds).flatten
  | 0 => .nil
  | m + 1 => by
    rw [List.replicate_succ, List.replicate_succ, List.flatten_cons, List.flatten_cons]
    exact dpAll_app h (dpAll_rep h m)
theorem sem_repT : Sem2 K Ps (rRepT K) gRepT := fun F H x y d e z o hx hy hg Q q => by
  unfold gRepT at hg
  split at hg
  · rename_i ds0 k0
    split at hg
    · rename_i hz
      cases hg
      cases hy
      cases hx with
      | @tup a xs ds hs ha =>
        obtain ⟨h1, h2, h3, h4⟩ := hz
        refine ⟨a, _, xs, rfl, rfl, sqT_sub o.sub hs, fun z => h1 (by subst z; cases ha; rfl), h2, h3, by rw [dpAll_len ha]; exact h4, fun p hp => ?_⟩
        have m := o.new_fz hp (.tup (List.replicate k0.toNat xs).flatten)
        exact q _ _ _ m (.tup (.inl (.inl upd_same)) (dpAll_mono m.grow _ _ (dpAll_rep ha _)))
    · cases hg
  · cases hg
/-! t[a:b] -/
def fSlT (f : Ro → Option D) (lo hi : Ro → Option (Option Int)) : Ro → Option D := fun ρ => (f ρ).bind fun d => (lo ρ).bind fun l => (hi ρ).bind fun h => match d with
  | .tuple ds => some (.tuple (cutD ds l h))
  | _ => none
theorem pd_sliceT {lo hi : Option Expr} {p2 : Pos} {flo fhi : Ro → Option (Option Int)} (p : PD X Ps e f) (pl : OD X Ps lo flo) (ph : OD X Ps hi fhi) : PD X Ps (.Subscript e (.Slice lo hi none p2) pos) (fSlT f flo fhi) := by
  obtain ⟨t, p1, s1⟩ := p.ex
  obtain ⟨u, p2, s2⟩ := pl.ex
  obtain ⟨w, p3, s3⟩ := ph.ex
  refine ⟨_, pe_slice sl_tupA p1 p2 p3, fun F0 H0 F H σ ρ ds hE hf Q q => ?_⟩
  obtain ⟨d, e1, hf1⟩ := Option.bind_eq_some_iff.mp hf
  obtain ⟨l, e2, hf2⟩ := Option.bind_eq_some_iff.mp hf1
  obtain ⟨h, e3, hf3⟩ := Option.bind_eq_some_iff.mp hf2
  cases d with
  | tuple ds' =>
    cases hf3
    refine s1 F0 H0 F H σ ρ _ hE e1 _ fun v F1 H1 m1 d1 => ?_
    refine s2 F0 H0 F1 H1 σ ρ l (hE.move m1) e2 _ fun F2 H2 m2 => ?_
    refine s3 F0 H0 F2 H2 σ ρ h ((hE.move m1).move m2) e3 _ fun F3 H3 m3 => ?_
    have mm := (m1.trans m2).trans m3
    have m23 := m2.grow.trans m3.grow
    cases d1 with
    | @tup a vs _ hs ha =>
      have hcut : DpAll X.K F3 (cutV vs l h) (cutD ds' l h) := by
        unfold cutV cutD
        rw [dpAll_len ha]
        exact dpAll_take _ (dpAll_drop _ (dpAll_mono m23 _ _ ha))
      refine ⟨a, vs, rfl, sqT_sub mm.sub (sqT_sub m23 hs), fun hw => ?_, fun hw p hp => ?_⟩
      · refine q _ F3 H3 mm (.tup (sqT_sub m23 hs) ?_)
        have e : cutV vs l h = vs := by
          unfold cutV
          rw [hw.1, hw.2]
          simp
        rw [e] at hcut
        exact hcut
      · have m := mm.new_fz hp (.tup (cutV vs l h))
        exact q _ _ _ (mm.trans m) (.tup (.inl (.inl upd_same)) (dpAll_mono m.grow _ _ hcut))
  | _ => cases hf3
/-! x in t, flat items -/
def strsOf : List D → Option (List Str)
  | [] => some []
  | .str i :: ds => (strsOf ds).map (i :: ·)
  | _ :: _ => none
theorem strsOf_vs {G : Hp} : ∀ {ds : List D} {ns : List Str} {vs : List V}, strsOf ds = some ns → DpAll K G vs ds → vs = ns.map V.str
  | [], _, _, h, k => by cases h; cases k; rfl
  | d :: ds, ns, vs, h, k => by
    cases k with
    | cons k1 k2 =>
      cases k1 with
      | str x =>
        obtain ⟨ms, e, rfl⟩ := Option.map_eq_some_iff.mp (show (strsOf ds).map (x :: ·) = some ns from h)
        rw [strsOf_vs e k2]
        rfl
      | _ => cases h
theorem intsOf_vs {G : Hp} {ds : List D} {ns : List Int} {vs : List V} (h : intsOf ds = some ns) (k : DpAll K G vs ds) : vs = ns.map V.int := by
  rw [intsOf_eq h] at k
  exact dpAll_ints' k
def inData : D → List D → Option Bool
  | .str x, ds => (strsOf ds).map fun ns => ns.any fun y => y == x
  | .int i, ds => (intsOf ds).map fun ns => ns.any fun y => y == i
  | _, _ => none
def gInT (neg : Bool) : D → D → Option D
  | x, .tuple ds => (inData x ds).map fun k => .bool (if neg then !k else k)
  | x, .list ds => (inData x ds).map fun k => .bool (if neg then !k else k)
  | _, _ => none
theorem inData_vs {G : Hp} {d : D} {ds : List D} {v : V} {vs : List V} {k : Bool} (h : inData d ds = some k) (hd : Dp K G v d) (hs : DpAll K G vs ds) : flatV v = true ∧ vs.all flatV = true ∧ inV v vs = k := by
  cases hd with
  | str x =>
    obtain ⟨ns, e, rfl⟩ := Option.map_eq_some_iff.mp (show (strsOf ds).map _ = some k from h)
    rw [strsOf_vs e hs]
    refine ⟨rfl, ?_, ?_⟩
    · rw [List.all_map]
      exact List.all_eq_true.mpr fun _ _ => rfl
    · unfold inV
      rw [List.any_map]
      rfl
  | int x =>
    obtain ⟨ns, e, rfl⟩ := Option.map_eq_some_iff.mp (show (intsOf ds).map _ = some k from h)
    rw [intsOf_vs e hs]
    refine ⟨rfl, ?_, ?_⟩
    · rw [List.all_map]
      exact List.all_eq_true.mpr fun _ _ => rfl
    · unfold inV
      rw [List.any_map]
      rfl
  | _ => cases h
theorem sem_inT (neg : Bool) : Sem2 K Ps (rIn K neg) (gInT neg) := fun F H x y d e z o hx hy hg Q q => by
  unfold gInT at hg
  split at hg
  · obtain ⟨k, e1, rfl⟩ := Option.map_eq_some_iff.mp hg
    cases hy with
    | @tup a xs _ hs ha =>
      obtain ⟨h1, h2, h3⟩ := inData_vs e1 hx ha
      refine ⟨a, xs, rfl, .inr (sqT_sub o.sub hs), h1, h2, ?_⟩
      rw [h3]
      exact q _ F H o (.bl _)
  · obtain ⟨k, e1, rfl⟩ := Option.map_eq_some_iff.mp hg
    cases hy with
    | @lst a xs _ hs ha =>
      obtain ⟨h1, h2, h3⟩ := inData_vs e1 hx ha
      refine ⟨a, xs, rfl, .inl (o.sub.seq hs), h1, h2, ?_⟩
      rw [h3]
      exact q _ F H o (.bl _)
  · cases hg
end
end FL
set_option maxHeartbeats 4000000
/-! FL16: dict displays. -/
namespace FL
open PySem PySem.Spec PyProof.Rows L2
/-- keys that are all there and differ -/
def keysOf : List (D × D) → Option (List Key)
  | [] => some []
  | p :: ps => (gKey p.1).bind fun k => (keysOf ps).bind fun ks => if (ks.any fun j => decide (j = k)) = true then none else some (k :: ks)
structure KD (X : Cx) (Ps : List Addr) (pos : Pos) (ks : List (Option Expr)) (vs : List Expr) (f : Ro → Option (List (D × D))) : Prop where
  ex : ∃ trs, PPs X pos ks vs trs ∧ ∀ (F0 H0 F H : Hp) (σ : L2.St) (ρ : Ro) (ps : List (D × D)), EnvOk X.K Ps F0 H0 F H σ ρ → f ρ = some ps → ∀ Q : List (V × V) → Hp → Prop,
    (∀ us F' H', Ok Ps F H F' H' → DpAll X.K F' (us.map (·.1)) (ps.map (·.1)) → DpAll X.K F' (us.map (·.2)) (ps.map (·.2)) → Q us H') → tPairs trs σ H Q
section
variable {X : Cx} {Ps : List Addr} {K : PySem.W.Frag} {e a b c : Expr} {ks : List (Option Expr)} {es : List Expr} {f f1 f3 : Ro → Option D} {fp : Ro → Option (List (D × D))} {pos : Pos}
theorem kd_nil : KD X Ps pos [] [] (fun _ => some []) := ⟨_, pps_nil, fun F0 H0 F H σ ρ ps hE hf Q q => by cases hf; exact q [] F H hE.ok.refl .nil .nil⟩
def kCons (fk fv : Ro → Option D) (fp : Ro → Option (List (D × D))) : Ro → Option (List (D × D)) := fun ρ => (fk ρ).bind fun k => (fv ρ).bind fun v => (fp ρ).bind fun ps => some ((k, v) :: ps)
theorem kd_cons (pk : PD X Ps a f1) (pv : PD X Ps b f3) (r : KD X Ps pos ks es fp) : KD X Ps pos (some a :: ks) (b :: es) (kCons f1 f3 fp) := by
  obtain ⟨t, p, s⟩ := pk.ex
  obtain ⟨u, p2, s2⟩ := pv.ex
  obtain ⟨w, p3, s3⟩ := r.ex
  refine ⟨_, pps_cons p p2 p3, fun F0 H0 F H σ ρ ps hE hf Q q => ?_⟩
  obtain ⟨k, e1, hf1⟩ := Option.bind_eq_some_iff.mp hf
  obtain ⟨v, e2, hf2⟩ := Option.bind_eq_some_iff.mp hf1
  obtain ⟨qs, e3, hf3⟩ := Option.bind_eq_some_iff.mp hf2
  cases hf3
  refine s F0 H0 F H σ ρ k hE e1 _ fun x F1 H1 m1 d1 => ?_
  refine s2 F0 H0 F1 H1 σ ρ v (hE.move m1) e2 _ fun y F2 H2 m2 d2 => ?_
  refine s3 F0 H0 F2 H2 σ ρ qs ((hE.move m1).move m2) e3 _ fun us F3 H3 m3 d3 d4 => ?_
  exact q ((x, y) :: us) F3 H3 ((m1.trans m2).trans m3) (.cons (dp_mono (m2.grow.trans m3.grow) _ _ d1) d3) (.cons (dp_mono m3.grow _ _ d2) d4)
theorem pairs_keys {G : Hp} : ∀ {us : List (V × V)} {ps : List (D × D)} {ks : List Key}, keysOf ps = some ks → DpAll K G (us.map (·.1)) (ps.map (·.1)) → DpAll K G (us.map (·.2)) (ps.map (·.2)) →
    ∃ kvs : List (Key × V), us = kvs.map (fun kv => (kV kv.1, kv.2)) ∧ kvs.map (·.1) = ks ∧ ∃ qs : List (D × D), DpKV K G kvs qs ∧ qs = ps.map fun p => (p.1, p.2)
  | [], [], ks, h, _, _ => by cases h; exact ⟨[], rfl, rfl, [], .nil, rfl⟩
  | [], _ :: _, _, _, h, _ => by cases h
  | _ :: _, [], _, _, h, _ => by cases h
  | (x, y) :: us, (k, v) :: ps, ks, h, h1, h2 => by
    obtain ⟨κ, e1, h⟩ := Option.bind_eq_some_iff.mp h
    obtain ⟨ks', e2, h⟩ := Option.bind_eq_some_iff.mp h
    split at h
    · cases h
    · cases h
      cases h1 with
      | cons h1 h3 =>
        cases h2 with
        | cons h2 h4 =>
          obtain ⟨kvs, e3, e4, qs, e5, e6⟩ := pairs_keys e2 h3 h4
          refine ⟨(κ, y) :: kvs, by
            have ex : x = kV κ := key_dp (show Dp K G x k from h1) e1
            rw [List.map_cons, e3, ex], by rw [List.map_cons, e4], (k, v) :: qs, ?_, by rw [e6]; rfl⟩
          have ek : k = kD κ := by
            have e1 : gKey k = some κ := e1
            cases k <;> cases e1 <;> rfl
          rw [ek]
          exact .cons h2 e5
theorem merge_app : ∀ (more kvs : List (Key × V)) , (∀ p ∈ more, p.1 ∉ kvs.map (·.1)) → (more.map (·.1)).Nodup → mergeK kvs more = kvs ++ more
  | [], kvs, _, _ => by unfold mergeK; simp
  | (k, v) :: more, kvs, h, nd => by
    have h1 : mergeK kvs ((k, v) :: more) = mergeK (putK kvs k v) more := rfl
    have h2 : putK kvs k v = kvs ++ [(k, v)] := by
      unfold putK
      rw [if_neg]
      intro z
      obtain ⟨p, hp, e⟩ := List.any_eq_true.mp z
      have e := of_decide_eq_true e
      exact h (k, v) List.mem_cons_self (List.mem_map.mpr ⟨p, hp, e⟩)
    rw [List.map_cons, List.nodup_cons] at nd
    rw [h1, h2, merge_app more _ (fun p hp z => ?_) nd.2, List.append_assoc]
    · rfl
    · rw [List.map_append, List.mem_append] at z
      rcases z with z | z
      · exact h p (List.mem_cons_of_mem _ hp) z
      · rw [List.map_cons, List.map_nil, List.mem_singleton] at z
        exact nd.1 (by rw [← z]; exact List.mem_map.mpr ⟨p, hp, rfl⟩)
theorem keysOf_nodup : ∀ {ps : List (D × D)} {ks : List Key}, keysOf ps = some ks → ks.Nodup
  | [], _, h => by cases h; exact List.nodup_nil
  | p :: ps, ks, h => by
    obtain ⟨κ, e1, h⟩ := Option.bind_eq_some_iff.mp h
    obtain ⟨ks', e2, h⟩ := Option.bind_eq_some_iff.mp h
    split at h
    · cases h
    · rename_i hn
      cases h
      exact List.nodup_cons.mpr ⟨fun z => hn (List.any_eq_true.mpr ⟨κ, z, by simp⟩), keysOf_nodup e2⟩
/-- {k: v, ..} as a datum -/
def fDisp (fp : Ro → Option (List (D × D))) : Ro → Option D := fun ρ => (fp ρ).bind fun ps => if (keysOf ps).isSome = true ∧ ps.length ≤ 15 then some (.dict ps) else none
theorem pd_disp (h : KD X Ps pos ks es fp) (hall : ks.all (·.isSome) = true := by rfl) (hl : ks.length = es.length := by rfl) (h0 : ks ≠ [] := by intro z; cases z) (h15 : ks.length ≤ 15 := by decide) : PD X Ps (.Dict ks es pos) (fDisp fp) := by
  obtain ⟨t, p, s⟩ := h.ex
  refine ⟨_, pe_disp p hall hl h0 h15, fun F0 H0 F H σ ρ d hE hf Q q => ?_⟩
  obtain ⟨ps, e1, hf1⟩ := Option.bind_eq_some_iff.mp hf
  split at hf1
  · rename_i hz
    cases hf1
    obtain ⟨κs, eκ⟩ := Option.isSome_iff_exists.mp hz.1
    intro p hp
    have m0 := hE.ok.refl.new_ow hp (.dK [])
    have fp0 : F p = none := fno_new hE.ok hp
    refine s F0 H0 F _ σ ρ ps (hE.move m0) e1 _ fun us F1 H1 m1 d1 d2 => ?_
    obtain ⟨f1, e2⟩ := m0.keepW m1 fp0 upd_same (fun _ z => by cases z)
    obtain ⟨kvs, e3, e4, qs, e5, e6⟩ := pairs_keys eκ d1 d2
    have nd := keysOf_nodup eκ
    rw [← e4] at nd
    have e7 : mergeK [] kvs = kvs := (merge_app kvs [] (fun _ _ z => by cases z) nd).trans (List.nil_append _)
    have len : kvs.length ≤ 15 := by
      rw [dpKV_len e5, e6, List.length_map]
      exact hz.2
    refine ⟨e2, kvs, e3, len, ?_⟩
    rw [e7]
    have m2 := m0.trans m1
    have hp0 : H p = none := hp
    have m3 : Ok Ps F H F1 (upd H1 p (.dK kvs)) := m2.mutW hp0 f1 e2 (fun _ z => by cases z)
    have g : Same F1 (upd F1 p (.dK kvs)) := fun b o q => by
      have z : b ≠ p := fun z => by subst z; rw [f1] at q; cases q
      rw [upd_ne z]; exact q
    have eps : qs = ps := by
      rw [e6]
      simp
    refine q _ (upd F1 p (.dK kvs)) _ ⟨fun b o q => ?_, m3.grow.trans g, fun b q => ?_, m3.ext, m3.tab, fun r hr => ?_⟩ (.dct (.inl upd_same) (by rw [← eps]; exact dpKV_mono' g e5))
    · by_cases z : b = p
      · subst z; rw [upd_same] at q ⊢; exact q
      · rw [upd_ne z] at q; exact m3.sub b o q
    · by_cases z : b = p
      · subst z; exact .inr hp0
      · rw [upd_ne z] at q; exact m3.new b q
    · have z : r ≠ p := fun z => by
        subst z
        obtain ⟨ts, e3, t⟩ := m3.tab r hr
        rw [upd_same] at e3; cases e3
      rw [upd_ne z]; exact m3.fno r hr
  · cases hf1
end
end FL
set_option maxHeartbeats 4000000
namespace K03
open PySem PySem.Spec PyProof.Rows L2 FL
def top (i : Nat) : Stmt := PySem.Challenge.pw_everytarget_k03_questions.main.body.getD i (.Pass ⟨0, 0, 0, 0⟩)
abbrev s_d_law_program : Stmt := top 22
def N_d_law_program : List Str := ["cells", "rules", "cell"]
theorem sc_d_law_program : FnScope N_d_law_program ["cells"] (defScope s_d_law_program) := ⟨rfl, rfl, rfl, by decide +kernel, rfl, by decide +kernel, by decide +kernel⟩
abbrev s_d_law_digits : Stmt := top 17
def N_d_law_digits : List Str := ["cell", "bases", "digits", "rest", "base", "mixed"]
theorem sc_d_law_digits : FnScope N_d_law_digits ["cell", "bases"] (defScope s_d_law_digits) := ⟨rfl, rfl, rfl, by decide +kernel, rfl, by decide +kernel, by decide +kernel⟩
abbrev s_d_law_clause : Stmt := top 24
def N_d_law_clause : List Str := ["digits", "width", "names", "body", "k"]
theorem sc_d_law_clause : FnScope N_d_law_clause ["digits", "width"] (defScope s_d_law_clause) := ⟨rfl, rfl, rfl, by decide +kernel, rfl, by decide +kernel, by decide +kernel⟩
abbrev s_d_law_question : Stmt := top 25
def N_d_law_question : List Str := ["cell", "digits", "width", "k"]
theorem sc_d_law_question : FnScope N_d_law_question ["cell"] (defScope s_d_law_question) := ⟨rfl, rfl, rfl, by decide +kernel, rfl, by decide +kernel, by decide +kernel⟩
abbrev s_d_law_cell : Stmt := top 16
def N_d_law_cell : List Str := ["script", "k"]
theorem sc_d_law_cell : FnScope N_d_law_cell ["script", "k"] (defScope s_d_law_cell) := ⟨rfl, rfl, rfl, by decide +kernel, rfl, by decide +kernel, by decide +kernel⟩
abbrev s_is_name : Stmt := top 5
def N_is_name : List Str := ["value"]
theorem sc_is_name : FnScope N_is_name ["value"] (defScope s_is_name) := ⟨rfl, rfl, rfl, by decide +kernel, rfl, by decide +kernel, by decide +kernel⟩
abbrev s_is_constant : Stmt := top 7
def N_is_constant : List Str := ["value"]
theorem sc_is_constant : FnScope N_is_constant ["value"] (defScope s_is_constant) := ⟨rfl, rfl, rfl, by decide +kernel, rfl, by decide +kernel, by decide +kernel⟩
abbrev s_is_variable : Stmt := top 6
def N_is_variable : List Str := ["value"]
theorem sc_is_variable : FnScope N_is_variable ["value"] (defScope s_is_variable) := ⟨rfl, rfl, rfl, by decide +kernel, rfl, by decide +kernel, by decide +kernel⟩
abbrev s_is_slot : Stmt := top 8
def N_is_slot : List Str := ["value"]
theorem sc_is_slot : FnScope N_is_slot ["value"] (defScope s_is_slot) := ⟨rfl, rfl, rfl, by decide +kernel, rfl, by decide +kernel, by decide +kernel⟩
abbrev s_is_atom : Stmt := top 9
def N_is_atom : List Str := ["value", "relations", "relation", "slots", "slot"]
theorem sc_is_atom : FnScope N_is_atom ["value", "relations"] (defScope s_is_atom) := ⟨rfl, rfl, rfl, by decide +kernel, rfl, by decide +kernel, by decide +kernel⟩
abbrev s_are_atoms : Stmt := top 10
def N_are_atoms : List Str := ["value", "relations", "atom"]
theorem sc_are_atoms : FnScope N_are_atoms ["value", "relations"] (defScope s_are_atoms) := ⟨rfl, rfl, rfl, by decide +kernel, rfl, by decide +kernel, by decide +kernel⟩
abbrev s_variables_of : Stmt := top 11
def N_variables_of : List Str := ["atoms", "variables", "_", "slots", "slot"]
theorem sc_variables_of : FnScope N_variables_of ["atoms"] (defScope s_variables_of) := ⟨rfl, rfl, rfl, by decide +kernel, rfl, by decide +kernel, by decide +kernel⟩
abbrev s_is_variable_of : Stmt := top 12
def N_is_variable_of : List Str := ["value", "atoms"]
theorem sc_is_variable_of : FnScope N_is_variable_of ["value", "atoms"] (defScope s_is_variable_of) := ⟨rfl, rfl, rfl, by decide +kernel, rfl, by decide +kernel, by decide +kernel⟩
abbrev s_is_clause : Stmt := top 13
def N_is_clause : List Str := ["value", "relations", "slots", "body", "slot"]
theorem sc_is_clause : FnScope N_is_clause ["value", "relations"] (defScope s_is_clause) := ⟨rfl, rfl, rfl, by decide +kernel, rfl, by decide +kernel, by decide +kernel⟩
abbrev s_is_question : Stmt := top 14
def N_is_question : List Str := ["value", "program", "clause", "many", "slots", "_"]
theorem sc_is_question : FnScope N_is_question ["value", "program"] (defScope s_is_question) := ⟨rfl, rfl, rfl, by decide +kernel, rfl, by decide +kernel, by decide +kernel⟩
abbrev s_d_law_spoiled : Stmt := top 26
def N_d_law_spoiled : List Str := ["question", "digit", "slots", "body", "bad"]
theorem sc_d_law_spoiled : FnScope N_d_law_spoiled ["question", "digit"] (defScope s_d_law_spoiled) := ⟨rfl, rfl, rfl, by decide +kernel, rfl, by decide +kernel, by decide +kernel⟩
abbrev s_law : Stmt := top 27
def N_law : List Str := ["script", "program", "k", "question", "n", "spoiled"]
theorem sc_law : FnScope N_law ["script"] (defScope s_law) := ⟨rfl, rfl, rfl, by decide +kernel, rfl, by decide +kernel, by decide +kernel⟩
end K03
set_option maxHeartbeats 4000000
namespace K03
open PySem PySem.Spec PyProof.Rows L2 FL
abbrev fuel : Nat := 100000
def f_d_law_program_0 (n : Nat) : Ro → Option Out :=
  (fSet 1 (fCall gTupB (fCons (fL (fLc [2] (fSq seqL (fVar 0)) (gN 2) fYes (fun _ => none))) (fun _ => some []))))
def f_d_law_program_1 (n : Nat) : Ro → Option Out :=
  (fRet (fDisp (kCons (fun _ => some (.str "source")) (fDisp (kCons (fun _ => some (.str "s")) (fun _ => some (.int 2)) (kCons (fun _ => some (.str "p")) (fun _ => some (.int 1)) (fun _ => some [])))) (kCons (fun _ => some (.str "target")) (fDisp (kCons (fun _ => some (.str "q0")) (fun _ => some (.int 2)) (kCons (fun _ => some (.str "q1")) (fun _ => some (.int 2)) (kCons (fun _ => some (.str "q2")) (fun _ => some (.int 2)) (fun _ => some []))))) (kCons (fun _ => some (.str "rules")) (fVar 1) (fun _ => some []))))))
def f_d_law_program (n : Nat) : Ro → Option Out :=
  (fSeq (f_d_law_program_0 n)
    (f_d_law_program_1 n))
def g_d_law_program : List D → Option D := runF N_d_law_program 1 (f_d_law_program fuel)
def f_d_law_digits_0 (n : Nat) : Ro → Option Out :=
  (fSetO 2 (fLst (fun _ => some [])))
def f_d_law_digits_1 (n : Nat) : Ro → Option Out :=
  (fSet 3 (fCall gInt (fCons (fVar 0) (fun _ => some []))))
def f_d_law_digits_body1 (n : Nat) : Ro → Option Out :=
  (fIfS (fB (fOp (gIB fun i j => decide (j ≤ i)) (fVar 0) (fOp gPow (fun _ => some (.int 10)) (fun _ => some (.int 18))))) (fSeq (fApp 2 (fOp gMod (fCall gInt (fCons (fVar 3) (fun _ => some []))) (fVar 4)))
    (fSet 3 (fOp gDiv (fVar 3) (fVar 4)))) (fSeq (fSet 3 (fOp gMod (fOp gAdd (fOp gAdd (fOp gMul (fCall gInt (fCons (fVar 3) (fun _ => some []))) (fun _ => some (.int 48271))) (fOp gMul (fun _ => some (.int 1009)) (fLenO 2))) (fun _ => some (.int 12345))) (fun _ => some (.int 2147483647))))
    (fSeq (fSet 5 (fOp gMod (fOp gMul (fCall gInt (fCons (fVar 3) (fun _ => some []))) (fCall gInt (fCons (fVar 3) (fun _ => some [])))) (fun _ => some (.int 2147483629))))
    (fApp 2 (fOp gMod (fOp gDiv (fCall gInt (fCons (fVar 5) (fun _ => some []))) (fun _ => some (.int 13))) (fVar 4))))))
def f_d_law_digits_2 (n : Nat) : Ro → Option Out :=
  (fFor (fSq seqL (fVar 1)) (gN 4) (f_d_law_digits_body1 n))
def f_d_law_digits_3 (n : Nat) : Ro → Option Out :=
  (fRet (fVar 2))
def f_d_law_digits (n : Nat) : Ro → Option Out :=
  (fSeq (f_d_law_digits_0 n)
    (fSeq (f_d_law_digits_1 n)
    (fSeq (f_d_law_digits_2 n)
    (fFrz 2 (f_d_law_digits_3 n)))))
def g_d_law_digits : List D → Option D := runF N_d_law_digits 2 (f_d_law_digits fuel)
def f_d_law_clause_0 (n : Nat) : Ro → Option Out :=
  (fSet 2 (fL (fLst (fCons (fun _ => some (.str "x")) (fCons (fun _ => some (.str "y")) (fCons (fun _ => some (.str "v")) (fCons (fTup (fCons (fun _ => some (.str "a")) (fun _ => some []))) (fun _ => some []))))))))
def f_d_law_clause_1 (n : Nat) : Ro → Option Out :=
  (fSet 3 (fTup (fCons (fTup (fCons (fOp gCatS (fun _ => some (.str "q")) (fCall gStr (fCons (fOp gIx (fVar 0) (fun _ => some (.int 0))) (fun _ => some [])))) (fCons (fTup (fCons (fun _ => some (.str "x")) (fCons (fun _ => some (.str "y")) (fun _ => some [])))) (fun _ => some [])))) (fCons (fTup (fCons (fOp gCatS (fun _ => some (.str "q")) (fCall gStr (fCons (fOp gIx (fVar 0) (fun _ => some (.int 1))) (fun _ => some [])))) (fCons (fTup (fCons (fun _ => some (.str "y")) (fCons (fun _ => some (.str "v")) (fun _ => some [])))) (fun _ => some [])))) (fCons (fTup (fCons (fun _ => some (.str "q2")) (fCons (fTup (fCons (fun _ => some (.str "x")) (fCons (fTup (fCons (fun _ => some (.str "b")) (fun _ => some []))) (fun _ => some [])))) (fun _ => some [])))) (fun _ => some []))))))
def f_d_law_clause_2 (n : Nat) : Ro → Option Out :=
  (fRet (fTup (fCons (fCall gTupB (fCons (fL (fLc [4] (fRng (fCons (fVar 1) (fun _ => some []))) (gN 4) fYes (fOp gIx (fVar 2) (fOp gMod (fOp gIx (fVar 0) (fOp gAdd (fun _ => some (.int 2)) (fVar 4))) (fun _ => some (.int 4)))))) (fun _ => some []))) (fCons (fSlT (fVar 3) fNo (fPt (fOp gAdd (fun _ => some (.int 2)) (fOp gMod (fOp gIx (fVar 0) (fun _ => some (.int 0))) (fun _ => some (.int 2)))))) (fun _ => some [])))))
def f_d_law_clause (n : Nat) : Ro → Option Out :=
  (fSeq (f_d_law_clause_0 n)
    (fSeq (f_d_law_clause_1 n)
    (f_d_law_clause_2 n)))
def g_d_law_clause : List D → Option D := runF N_d_law_clause 2 (f_d_law_clause fuel)
def f_d_law_question_0 (n : Nat) : Ro → Option Out :=
  (fSet 1 (fCall g_d_law_digits (fCons (fVar 0) (fCons (fL (fLst (fCons (fun _ => some (.int 3)) (fCons (fun _ => some (.int 5)) (fCons (fun _ => some (.int 3)) (fCons (fun _ => some (.int 3)) (fCons (fun _ => some (.int 4)) (fCons (fun _ => some (.int 4)) (fCons (fun _ => some (.int 4)) (fCons (fun _ => some (.int 4)) (fun _ => some []))))))))))) (fun _ => some [])))))
def f_d_law_question_1 (n : Nat) : Ro → Option Out :=
  (fSet 2 (fOp gIx (fVar 1) (fun _ => some (.int 1))))
def f_d_law_question_2 (n : Nat) : Ro → Option Out :=
  (fRet (fCall gTupB (fCons (fL (fLc [3] (fRng (fCons (fOp gAdd (fun _ => some (.int 1)) (fOp gIx (fVar 1) (fun _ => some (.int 0)))) (fun _ => some []))) (gN 3) fYes (fCall g_d_law_clause (fCons (fL (fCatL (fL (fLst (fCons (fOp gMod (fOp gAdd (fOp gIx (fVar 1) (fun _ => some (.int 2))) (fVar 3)) (fun _ => some (.int 3))) (fCons (fOp gIx (fVar 1) (fun _ => some (.int 3))) (fun _ => some []))))) (fL (fSlL (fVar 1) (fPt (fun _ => some (.int 4))) fNo)))) (fCons (fVar 2) (fun _ => some [])))))) (fun _ => some []))))
def f_d_law_question (n : Nat) : Ro → Option Out :=
  (fSeq (f_d_law_question_0 n)
    (fSeq (f_d_law_question_1 n)
    (f_d_law_question_2 n)))
def g_d_law_question : List D → Option D := runF N_d_law_question 1 (f_d_law_question fuel)
def f_d_law_cell_0 (n : Nat) : Ro → Option Out :=
  (fIfS (fB (fOp (gIB fun i j => decide (i < j)) (fVar 1) (fCall gLen (fCons (fVar 0) (fun _ => some []))))) (fRet (fCall gInt (fCons (fOp gIx (fVar 0) (fVar 1)) (fun _ => some [])))) fNext)
def f_d_law_cell_1 (n : Nat) : Ro → Option Out :=
  (fRet (fun _ => some (.int 0)))
def f_d_law_cell (n : Nat) : Ro → Option Out :=
  (fSeq (f_d_law_cell_0 n)
    (f_d_law_cell_1 n))
def g_d_law_cell : List D → Option D := runF N_d_law_cell 2 (f_d_law_cell fuel)
def f_is_name_0 (n : Nat) : Ro → Option Out :=
  (fIfS (fOr (fNot (fB (fIsi "str" (fVar 0)))) (fNot (fCh (gIB fun i j => decide (i ≤ j)) (gIB fun i j => decide (i ≤ j)) (fun _ => some (.int 1)) (fCall gLen (fCons (fVar 0) (fun _ => some []))) (fun _ => some (.int 8))))) (fRet (fun _ => some (.bool false))) fNext)
def f_is_name_1 (n : Nat) : Ro → Option Out :=
  (fRet (fAllG (fun c => decide (c ∈ (Str.ofString "abcdefghijklmnopqrstuvwxyz0123456789").cps.toList)) (fVar 0)))
def f_is_name (n : Nat) : Ro → Option Out :=
  (fSeq (f_is_name_0 n)
    (f_is_name_1 n))
def g_is_name : List D → Option D := runF N_is_name 1 (f_is_name fuel)
def f_is_constant (n : Nat) : Ro → Option Out :=
  (fRet (fAndV (fIsi "tuple" (fVar 0)) (fAndV (fOp gEq (fCall gLen (fCons (fVar 0) (fun _ => some []))) (fun _ => some (.int 1))) (fCall g_is_name (fCons (fOp gIx (fVar 0) (fun _ => some (.int 0))) (fun _ => some []))))))
def g_is_constant : List D → Option D := runF N_is_constant 1 (f_is_constant fuel)
def f_is_variable (n : Nat) : Ro → Option Out :=
  (fRet (fAndV (fCall g_is_name (fCons (fVar 0) (fun _ => some []))) (fOp gInS (fOp gIx (fVar 0) (fun _ => some (.int 0))) (fun _ => some (.str "abcdefghijklmnopqrstuvwxyz")))))
def g_is_variable : List D → Option D := runF N_is_variable 1 (f_is_variable fuel)
def f_is_slot (n : Nat) : Ro → Option Out :=
  (fRet (fOrV (fCall g_is_variable (fCons (fVar 0) (fun _ => some []))) (fCall g_is_constant (fCons (fVar 0) (fun _ => some [])))))
def g_is_slot : List D → Option D := runF N_is_slot 1 (f_is_slot fuel)
def f_is_atom_0 (n : Nat) : Ro → Option Out :=
  (fIfS (fOr (fNot (fB (fIsi "tuple" (fVar 0)))) (fB (fOp gNe (fCall gLen (fCons (fVar 0) (fun _ => some []))) (fun _ => some (.int 2))))) (fRet (fun _ => some (.bool false))) fNext)
def f_is_atom_1 (n : Nat) : Ro → Option Out :=
  (fAsg (gT 2 (gsC (gN 2) (gsC (gN 3) gsN))) (fVar 0))
def f_is_atom_2 (n : Nat) : Ro → Option Out :=
  (fIfS (fOr (fNot (fB (fIsi "str" (fVar 2)))) (fB (fOp (gInD true) (fVar 2) (fVar 1)))) (fRet (fun _ => some (.bool false))) fNext)
def f_is_atom_3 (n : Nat) : Ro → Option Out :=
  (fIfS (fOr (fNot (fB (fIsi "tuple" (fVar 3)))) (fB (fOp gNe (fCall gLen (fCons (fVar 3) (fun _ => some []))) (fOp gGet (fVar 1) (fVar 2))))) (fRet (fun _ => some (.bool false))) fNext)
def f_is_atom_4 (n : Nat) : Ro → Option Out :=
  (fRet (fAll [4] (fSq seqT (fVar 3)) (gN 4) (fCall g_is_slot (fCons (fVar 4) (fun _ => some [])))))
def f_is_atom (n : Nat) : Ro → Option Out :=
  (fSeq (f_is_atom_0 n)
    (fSeq (f_is_atom_1 n)
    (fSeq (f_is_atom_2 n)
    (fSeq (f_is_atom_3 n)
    (f_is_atom_4 n)))))
def g_is_atom : List D → Option D := runF N_is_atom 2 (f_is_atom fuel)
def f_are_atoms_0 (n : Nat) : Ro → Option Out :=
  (fIfS (fOr (fNot (fB (fIsi "tuple" (fVar 0)))) (fB (fOp gEq (fCall gLen (fCons (fVar 0) (fun _ => some []))) (fun _ => some (.int 0))))) (fRet (fun _ => some (.bool false))) fNext)
def f_are_atoms_1 (n : Nat) : Ro → Option Out :=
  (fRet (fAll [2] (fSq seqT (fVar 0)) (gN 2) (fCall g_is_atom (fCons (fVar 2) (fCons (fVar 1) (fun _ => some []))))))
def f_are_atoms (n : Nat) : Ro → Option Out :=
  (fSeq (f_are_atoms_0 n)
    (f_are_atoms_1 n))
def g_are_atoms : List D → Option D := runF N_are_atoms 2 (f_are_atoms fuel)
def f_variables_of_0 (n : Nat) : Ro → Option Out :=
  (fNewD 1)
def f_variables_of_body1 (n : Nat) : Ro → Option Out :=
  (fIfS (fB (fIsi "str" (fVar 4))) (fPut 1 (fVar 4) (fun _ => some (.bool true))) fNext)
def f_variables_of_body2 (n : Nat) : Ro → Option Out :=
  (fFor (fSq seqT (fVar 3)) (gN 4) (f_variables_of_body1 n))
def f_variables_of_1 (n : Nat) : Ro → Option Out :=
  (fFor (fSq seqT (fVar 0)) (gT 2 (gsC (gN 2) (gsC (gN 3) gsN))) (f_variables_of_body2 n))
def f_variables_of_2 (n : Nat) : Ro → Option Out :=
  (fRet (fCall gTupB (fCons (fVar 1) (fun _ => some []))))
def f_variables_of (n : Nat) : Ro → Option Out :=
  (fSeq (f_variables_of_0 n)
    (fSeq (f_variables_of_1 n)
    (fFrz 1 (f_variables_of_2 n))))
def g_variables_of : List D → Option D := runF N_variables_of 1 (f_variables_of fuel)
def f_is_variable_of (n : Nat) : Ro → Option Out :=
  (fRet (fAndV (fIsi "str" (fVar 0)) (fOp (gInT false) (fVar 0) (fCall g_variables_of (fCons (fVar 1) (fun _ => some []))))))
def g_is_variable_of : List D → Option D := runF N_is_variable_of 2 (f_is_variable_of fuel)
def f_is_clause_0 (n : Nat) : Ro → Option Out :=
  (fIfS (fOr (fNot (fB (fIsi "tuple" (fVar 0)))) (fB (fOp gNe (fCall gLen (fCons (fVar 0) (fun _ => some []))) (fun _ => some (.int 2))))) (fRet (fun _ => some (.bool false))) fNext)
def f_is_clause_1 (n : Nat) : Ro → Option Out :=
  (fAsg (gT 2 (gsC (gN 2) (gsC (gN 3) gsN))) (fVar 0))
def f_is_clause_2 (n : Nat) : Ro → Option Out :=
  (fIfS (fOr (fNot (fB (fIsi "tuple" (fVar 2)))) (fOr (fB (fOp (gIB fun i j => decide (j < i)) (fCall gLen (fCons (fVar 2) (fun _ => some []))) (fun _ => some (.int 4)))) (fNot (fB (fCall g_are_atoms (fCons (fVar 3) (fCons (fVar 1) (fun _ => some [])))))))) (fRet (fun _ => some (.bool false))) fNext)
def f_is_clause_3 (n : Nat) : Ro → Option Out :=
  (fRet (fAll [4] (fSq seqT (fVar 2)) (gN 4) (fOrV (fCall g_is_constant (fCons (fVar 4) (fun _ => some []))) (fCall g_is_variable_of (fCons (fVar 4) (fCons (fVar 3) (fun _ => some [])))))))
def f_is_clause (n : Nat) : Ro → Option Out :=
  (fSeq (f_is_clause_0 n)
    (fSeq (f_is_clause_1 n)
    (fSeq (f_is_clause_2 n)
    (f_is_clause_3 n))))
def g_is_clause : List D → Option D := runF N_is_clause 2 (f_is_clause fuel)
def f_is_question_0 (n : Nat) : Ro → Option Out :=
  (fIfS (fOr (fNot (fB (fIsi "tuple" (fVar 0)))) (fB (fOp gEq (fCall gLen (fCons (fVar 0) (fun _ => some []))) (fun _ => some (.int 0))))) (fRet (fun _ => some (.bool false))) fNext)
def f_is_question_1 (n : Nat) : Ro → Option Out :=
  (fIfS (fNot (fB (fAll [2] (fSq seqT (fVar 0)) (gN 2) (fCall g_is_clause (fCons (fVar 2) (fCons (fOp gGet (fVar 1) (fun _ => some (.str "target"))) (fun _ => some []))))))) (fRet (fun _ => some (.bool false))) fNext)
def f_is_question_2 (n : Nat) : Ro → Option Out :=
  (fSet 3 (fCall gLen (fCons (fOp gIx (fOp gIx (fVar 0) (fun _ => some (.int 0))) (fun _ => some (.int 0))) (fun _ => some []))))
def f_is_question_3 (n : Nat) : Ro → Option Out :=
  (fRet (fAll [4, 5] (fSq seqT (fVar 0)) (gT 2 (gsC (gN 4) (gsC (gN 5) gsN))) (fOp gEq (fCall gLen (fCons (fVar 4) (fun _ => some []))) (fVar 3))))
def f_is_question (n : Nat) : Ro → Option Out :=
  (fSeq (f_is_question_0 n)
    (fSeq (f_is_question_1 n)
    (fSeq (f_is_question_2 n)
    (f_is_question_3 n))))
def g_is_question : List D → Option D := runF N_is_question 2 (f_is_question fuel)
def f_d_law_spoiled_0 (n : Nat) : Ro → Option Out :=
  (fAsg (gT 2 (gsC (gN 2) (gsC (gN 3) gsN))) (fOp gIx (fVar 0) (fun _ => some (.int 0))))
def f_d_law_spoiled_1 (n : Nat) : Ro → Option Out :=
  (fSet 4 (fL (fLst (fCons (fTup (fun _ => some [])) (fCons (fL (fListOf (fCons (fVar 0) (fun _ => some [])))) (fCons (fOp gCatT (fVar 0) (fTup (fCons (fTup (fCons (fOp gCatT (fVar 2) (fTup (fCons (fun _ => some (.str "x")) (fun _ => some [])))) (fCons (fVar 3) (fun _ => some [])))) (fun _ => some [])))) (fCons (fOp gCatT (fSlT (fVar 0) (fPt (fun _ => some (.int 1))) fNo) (fTup (fCons (fTup (fCons (fVar 2) (fCons (fTup (fun _ => some [])) (fun _ => some [])))) (fun _ => some [])))) (fCons (fTup (fCons (fTup (fCons (fOp gRepT (fTup (fCons (fun _ => some (.str "x")) (fun _ => some []))) (fun _ => some (.int 5))) (fCons (fVar 3) (fun _ => some [])))) (fun _ => some []))) (fCons (fTup (fCons (fTup (fCons (fTup (fCons (fun _ => some (.str "u")) (fun _ => some []))) (fCons (fVar 3) (fun _ => some [])))) (fun _ => some []))) (fCons (fTup (fCons (fTup (fCons (fTup (fCons (fTup (fCons (fun _ => some (.str "A")) (fun _ => some []))) (fun _ => some []))) (fCons (fVar 3) (fun _ => some [])))) (fun _ => some []))) (fCons (fTup (fCons (fTup (fCons (fTup (fCons (fun _ => some (.str "x")) (fun _ => some []))) (fCons (fTup (fCons (fTup (fCons (fun _ => some (.str "s")) (fCons (fTup (fCons (fun _ => some (.str "x")) (fCons (fun _ => some (.str "y")) (fun _ => some [])))) (fun _ => some [])))) (fun _ => some []))) (fun _ => some [])))) (fun _ => some []))) (fCons (fTup (fCons (fTup (fCons (fL (fListOf (fCons (fVar 2) (fun _ => some [])))) (fCons (fVar 3) (fun _ => some [])))) (fun _ => some []))) (fCons (fTup (fCons (fVar 3) (fun _ => some []))) (fCons (fTup (fCons (fTup (fCons (fTup (fCons (fun _ => some (.str "x")) (fun _ => some []))) (fCons (fL (fListOf (fCons (fVar 3) (fun _ => some [])))) (fun _ => some [])))) (fun _ => some []))) (fCons (fun _ => some .none) (fCons (fun _ => some (.int 5)) (fCons (fTup (fCons (fTup (fCons (fun _ => some (.str "x")) (fCons (fVar 3) (fun _ => some [])))) (fun _ => some []))) (fCons (fTup (fCons (fTup (fCons (fVar 2) (fCons (fVar 3) (fCons (fTup (fun _ => some [])) (fun _ => some []))))) (fun _ => some []))) (fun _ => some [])))))))))))))))))))
def f_d_law_spoiled_2 (n : Nat) : Ro → Option Out :=
  (fRet (fOp gIx (fVar 4) (fOp gMod (fVar 1) (fCall gLen (fCons (fVar 4) (fun _ => some []))))))
def f_d_law_spoiled (n : Nat) : Ro → Option Out :=
  (fSeq (f_d_law_spoiled_0 n)
    (fSeq (f_d_law_spoiled_1 n)
    (f_d_law_spoiled_2 n)))
def g_d_law_spoiled : List D → Option D := runF N_d_law_spoiled 2 (f_d_law_spoiled fuel)
def f_law_0 (n : Nat) : Ro → Option Out :=
  (fSet 1 (fCall g_d_law_program (fCons (fL (fLst (fun _ => some []))) (fun _ => some []))))
def f_law_body1 (n : Nat) : Ro → Option Out :=
  (fSeq (fSet 5 (fCall g_d_law_spoiled (fCons (fVar 3) (fCons (fOp gAdd (fOp gAdd (fCall gInt (fCons (fCall g_d_law_cell (fCons (fVar 0) (fCons (fVar 2) (fun _ => some [])))) (fun _ => some []))) (fOp gMul (fun _ => some (.int 4)) (fVar 2))) (fVar 4)) (fun _ => some [])))))
    (fIfS (fB (fOp gIsNot (fCall g_is_question (fCons (fVar 5) (fCons (fVar 1) (fun _ => some [])))) (fun _ => some (.bool false)))) (fRet (fun _ => some (.bool false))) fNext))
def f_law_body2 (n : Nat) : Ro → Option Out :=
  (fSeq (fSet 3 (fCall g_d_law_question (fCons (fOp gAdd (fCall g_d_law_cell (fCons (fVar 0) (fCons (fVar 2) (fun _ => some [])))) (fVar 2)) (fun _ => some []))))
    (fSeq (fIfS (fB (fOp gIsNot (fCall g_is_question (fCons (fVar 3) (fCons (fVar 1) (fun _ => some [])))) (fun _ => some (.bool true)))) (fRet (fun _ => some (.bool false))) fNext)
    (fFor (fRng (fCons (fun _ => some (.int 4)) (fun _ => some []))) (gN 4) (f_law_body1 n))))
def f_law_1 (n : Nat) : Ro → Option Out :=
  (fFor (fRng (fCons (fOp gAdd (fun _ => some (.int 1)) (fCall gMin2 (fCons (fCall gLen (fCons (fVar 0) (fun _ => some []))) (fCons (fun _ => some (.int 6)) (fun _ => some []))))) (fun _ => some []))) (gN 2) (f_law_body2 n))
def f_law_2 (n : Nat) : Ro → Option Out :=
  (fRet (fun _ => some (.bool true)))
def f_law (n : Nat) : Ro → Option Out :=
  (fSeq (f_law_0 n)
    (fSeq (f_law_1 n)
    (f_law_2 n)))
def g_law : List D → Option D := runF N_law 1 (f_law fuel)
end K03
set_option maxHeartbeats 4000000
namespace K03
open PySem PySem.Spec PyProof.Rows L2 FL
structure Txt (mg : Str → Option Value) (t_LETTERS : Tok) (t_LONGEST_NAME : Tok) (t_MOST_PLACES : Tok) (t_SIGNS : Tok) : Prop where
  all : mg "all" = none
  int : mg "int" = none
  isinstance : mg "isinstance" = none
  len : mg "len" = none
  list : mg "list" = none
  min : mg "min" = none
  range : mg "range" = none
  str : mg "str" = none
  tuple : mg "tuple" = none
  c_LETTERS : mg "LETTERS" = some (.str "abcdefghijklmnopqrstuvwxyz" t_LETTERS)
  c_LONGEST_NAME : mg "LONGEST_NAME" = some (.int 8 t_LONGEST_NAME)
  c_MOST_PLACES : mg "MOST_PLACES" = some (.int 4 t_MOST_PLACES)
  c_SIGNS : mg "SIGNS" = some (.str "abcdefghijklmnopqrstuvwxyz0123456789" t_SIGNS)
structure Cal (P : Program) (w : World) (K : PySem.W.Frag) (mg : Str → Option Value) (base : Heap) (Ps : List Addr) (x : Str) (ps : List Str) (k n : Nat) (g : List D → Option D) : Prop where
  ex : ∃ fa fd, FnOk P w K mg base CX0 k fa fd ps (spD K Ps n g) ∧ mg x = some (.ref fa) ∧ PySem.W.keepIn K (.ref fa) = true ∧ Binds K fd ps []
section
variable {P : Program} {w : World} {K : PySem.W.Frag} {mg : Str → Option Value} {base : Heap} {Ps : List Addr} {t_LETTERS : Tok} {t_LONGEST_NAME : Tok} {t_MOST_PLACES : Tok} {t_SIGNS : Tok} 
theorem ok_d_law_program (T : Txt mg t_LETTERS t_LONGEST_NAME t_MOST_PLACES t_SIGNS) {fd : FuncData} (F : FnP K "_law_program" s_d_law_program (He.fAd K ("_law_program", none)) fd)
    (hg : ∀ ds d, ds.length = 1 → g_d_law_program ds = some d → ∃ n, Gives (f_d_law_program n (startR N_d_law_program ds)) d)
    : FnOk P w K mg base CX0 1 (He.fAd K ("_law_program", none)) fd ["cells"] (spD K Ps 1 g_d_law_program) := by
  refine def_okD (fb := f_d_law_program) F sc_d_law_program (fun n cdv A outer s H E hr hc => ?_) hg
  exact (bd_cons (sd_set (i := 1) sc_d_law_program.nd rfl (by first | exact Or.inl rfl | exact Or.inr rfl) (pd_callTy (call_tupB rfl) sem_tupB (by rfl) T.tuple PyProof.Rows.boot_tuple (ad_cons (pd_ld (ld_lc (own := [("cell", 2)]) rfl sc_d_law_program.nd (id_list (pd_var 0)) (blkOk_by (own := [("cell", 2)]) (N := N_d_law_program) (sc := defScope s_d_law_program) (by decide +kernel)) (by decide) (fun _ _ _ _ _ => (gd_name (i := 2) sc_d_law_program.nd rfl (by first | exact Or.inl rfl | exact Or.inr rfl))) (fun _ _ _ _ _ => tsd_nil) (fun _ _ _ _ _ => pd_no))) ad_nil)))
      (bd_one (sd_ret (pd_disp (kd_cons pd_str (pd_disp (kd_cons pd_str pd_int (kd_cons pd_str pd_int kd_nil))) (kd_cons pd_str (pd_disp (kd_cons pd_str pd_int (kd_cons pd_str pd_int (kd_cons pd_str pd_int kd_nil)))) (kd_cons pd_str (pd_var 1) kd_nil)))))))
theorem ok_d_law_digits (T : Txt mg t_LETTERS t_LONGEST_NAME t_MOST_PLACES t_SIGNS) {fd : FuncData} (F : FnP K "_law_digits" s_d_law_digits (He.fAd K ("_law_digits", none)) fd)
    (hg : ∀ ds d, ds.length = 2 → g_d_law_digits ds = some d → ∃ n, Gives (f_d_law_digits n (startR N_d_law_digits ds)) d)
    : FnOk P w K mg base CX0 1 (He.fAd K ("_law_digits", none)) fd ["cell", "bases"] (spD K Ps 2 g_d_law_digits) := by
  refine def_okD (fb := f_d_law_digits) F sc_d_law_digits (fun n cdv A outer s H E hr hc => ?_) hg
  exact (bd_cons (sd_setO (i := 2) sc_d_law_digits.nd rfl (by first | exact Or.inl rfl | exact Or.inr rfl) (ld_lst ad_nil))
      (bd_cons (sd_set (i := 3) sc_d_law_digits.nd rfl (by first | exact Or.inl rfl | exact Or.inr rfl) (pd_callTy call_int1 sem_int (by rfl) T.int PyProof.Rows.boot_int (ad_cons (pd_var 0) ad_nil)))
      (bd_cons (sd_for PassesOwn.never rfl (id_list (pd_var 1)) (gd_name (i := 4) sc_d_law_digits.nd rfl (by first | exact Or.inl rfl | exact Or.inr rfl)) (bd_one (sd_if (td_cmp op_ge sem_ge (pd_var 0) (pd_op op_pow sem_pow pd_int pd_int) (nomark _)) (bd_cons (sd_app (i := 2) (by rfl) (by first | exact Or.inl rfl | exact Or.inr (Or.inl rfl)) (by decide) (by decide) (pd_op op_mod sem_mod (pd_callTy call_int1 sem_int (by rfl) T.int PyProof.Rows.boot_int (ad_cons (pd_var 3) ad_nil)) (pd_var 4)))
      (bd_one (sd_set (i := 3) sc_d_law_digits.nd rfl (by first | exact Or.inl rfl | exact Or.inr rfl) (pd_op op_fdiv sem_div (pd_var 3) (pd_var 4))))) (bd_cons (sd_set (i := 3) sc_d_law_digits.nd rfl (by first | exact Or.inl rfl | exact Or.inr rfl) (pd_op op_mod sem_mod (pd_op op_add sem_add (pd_op op_add sem_add (pd_op op_mul sem_mul (pd_callTy call_int1 sem_int (by rfl) T.int PyProof.Rows.boot_int (ad_cons (pd_var 3) ad_nil)) pd_int) (pd_op op_mul sem_mul pd_int (pd_lenO 2 (by rfl) T.len))) pd_int) pd_int))
      (bd_cons (sd_set (i := 5) sc_d_law_digits.nd rfl (by first | exact Or.inl rfl | exact Or.inr rfl) (pd_op op_mod sem_mod (pd_op op_mul sem_mul (pd_callTy call_int1 sem_int (by rfl) T.int PyProof.Rows.boot_int (ad_cons (pd_var 3) ad_nil)) (pd_callTy call_int1 sem_int (by rfl) T.int PyProof.Rows.boot_int (ad_cons (pd_var 3) ad_nil))) pd_int))
      (bd_one (sd_app (i := 2) (by rfl) (by first | exact Or.inl rfl | exact Or.inr (Or.inl rfl)) (by decide) (by decide) (pd_op op_mod sem_mod (pd_op op_fdiv sem_div (pd_callTy call_int1 sem_int (by rfl) T.int PyProof.Rows.boot_int (ad_cons (pd_var 5) ad_nil)) pd_int) (pd_var 4)))))))))
      (bd_one (sd_frz 2 (sd_ret (pd_var 2)))))))
theorem ok_d_law_clause (T : Txt mg t_LETTERS t_LONGEST_NAME t_MOST_PLACES t_SIGNS) {fd : FuncData} (F : FnP K "_law_clause" s_d_law_clause (He.fAd K ("_law_clause", none)) fd)
    (hg : ∀ ds d, ds.length = 2 → g_d_law_clause ds = some d → ∃ n, Gives (f_d_law_clause n (startR N_d_law_clause ds)) d)
    : FnOk P w K mg base CX0 1 (He.fAd K ("_law_clause", none)) fd ["digits", "width"] (spD K Ps 2 g_d_law_clause) := by
  refine def_okD (fb := f_d_law_clause) F sc_d_law_clause (fun n cdv A outer s H E hr hc => ?_) hg
  exact (bd_cons (sd_set (i := 2) sc_d_law_clause.nd rfl (by first | exact Or.inl rfl | exact Or.inr rfl) (pd_ld (ld_lst (ad_cons pd_str (ad_cons pd_str (ad_cons pd_str (ad_cons (pd_tup (ad_cons pd_str ad_nil)) ad_nil)))))))
      (bd_cons (sd_set (i := 3) sc_d_law_clause.nd rfl (by first | exact Or.inl rfl | exact Or.inr rfl) (pd_tup (ad_cons (pd_tup (ad_cons (pd_op op_add_str sem_catS pd_str (pd_callTy call_strB sem_str (by rfl) T.str PyProof.Rows.boot_str (ad_cons (pd_ix ix_seq sem_ix (pd_var 0) pd_int (fun _ _ => rfl)) ad_nil))) (ad_cons (pd_tup (ad_cons pd_str (ad_cons pd_str ad_nil))) ad_nil))) (ad_cons (pd_tup (ad_cons (pd_op op_add_str sem_catS pd_str (pd_callTy call_strB sem_str (by rfl) T.str PyProof.Rows.boot_str (ad_cons (pd_ix ix_seq sem_ix (pd_var 0) pd_int (fun _ _ => rfl)) ad_nil))) (ad_cons (pd_tup (ad_cons pd_str (ad_cons pd_str ad_nil))) ad_nil))) (ad_cons (pd_tup (ad_cons pd_str (ad_cons (pd_tup (ad_cons pd_str (ad_cons (pd_tup (ad_cons pd_str ad_nil)) ad_nil))) ad_nil))) ad_nil)))))
      (bd_one (sd_ret (pd_tup (ad_cons (pd_callTy (call_tupB rfl) sem_tupB (by rfl) T.tuple PyProof.Rows.boot_tuple (ad_cons (pd_ld (ld_lc (own := [("k", 4)]) rfl sc_d_law_clause.nd (id_range (by rfl) T.range (ad_cons (pd_var 1) ad_nil)) (blkOk_by (own := [("k", 4)]) (N := N_d_law_clause) (sc := defScope s_d_law_clause) (by decide +kernel)) (by decide) (fun _ _ _ _ _ => (gd_name (i := 4) sc_d_law_clause.nd rfl (by first | exact Or.inl rfl | exact Or.inr rfl))) (fun _ _ _ _ _ => tsd_nil) (fun _ _ _ _ _ => (pd_ix ix_seq sem_ix (pd_var 2) (pd_op op_mod sem_mod (pd_ix ix_seq sem_ix (pd_var 0) (pd_op op_add sem_add pd_int (pd_var 4)) (fun _ _ => rfl)) pd_int) (fun _ _ => rfl))))) ad_nil)) (ad_cons (pd_sliceT (pd_var 3) od_none (od_some (pd_op op_add sem_add pd_int (pd_op op_mod sem_mod (pd_ix ix_seq sem_ix (pd_var 0) pd_int (fun _ _ => rfl)) pd_int)))) ad_nil)))))))
theorem ok_d_law_question (T : Txt mg t_LETTERS t_LONGEST_NAME t_MOST_PLACES t_SIGNS) {fd : FuncData} (F : FnP K "_law_question" s_d_law_question (He.fAd K ("_law_question", none)) fd)
    (C_d_law_digits : Cal P w K mg base Ps "_law_digits" ["cell", "bases"] 1 2 g_d_law_digits)
    (C_d_law_clause : Cal P w K mg base Ps "_law_clause" ["digits", "width"] 1 2 g_d_law_clause)
    (hg : ∀ ds d, ds.length = 1 → g_d_law_question ds = some d → ∃ n, Gives (f_d_law_question n (startR N_d_law_question ds)) d)
    : FnOk P w K mg base CX0 2 (He.fAd K ("_law_question", none)) fd ["cell"] (spD K Ps 1 g_d_law_question) := by
  obtain ⟨_, _, G_d_law_digits, m_d_law_digits, k_d_law_digits, b_d_law_digits⟩ := C_d_law_digits.ex
  obtain ⟨_, _, G_d_law_clause, m_d_law_clause, k_d_law_clause, b_d_law_clause⟩ := C_d_law_clause.ex
  refine def_okD (fb := f_d_law_question) F sc_d_law_question (fun n cdv A outer s H E hr hc => ?_) hg
  exact (bd_cons (sd_set (i := 1) sc_d_law_question.nd rfl (by first | exact Or.inl rfl | exact Or.inr rfl) (pd_call G_d_law_digits (hr.mono (by omega)) (by rfl) m_d_law_digits k_d_law_digits b_d_law_digits (ad_cons (pd_var 0) (ad_cons (pd_ld (ld_lst (ad_cons pd_int (ad_cons pd_int (ad_cons pd_int (ad_cons pd_int (ad_cons pd_int (ad_cons pd_int (ad_cons pd_int (ad_cons pd_int ad_nil)))))))))) ad_nil)) (len_cons (len_cons len_nil))))
      (bd_cons (sd_set (i := 2) sc_d_law_question.nd rfl (by first | exact Or.inl rfl | exact Or.inr rfl) (pd_ix ix_seq sem_ix (pd_var 1) pd_int (fun _ _ => rfl)))
      (bd_one (sd_ret (pd_callTy (call_tupB rfl) sem_tupB (by rfl) T.tuple PyProof.Rows.boot_tuple (ad_cons (pd_ld (ld_lc (own := [("k", 3)]) rfl sc_d_law_question.nd (id_range (by rfl) T.range (ad_cons (pd_op op_add sem_add pd_int (pd_ix ix_seq sem_ix (pd_var 1) pd_int (fun _ _ => rfl))) ad_nil)) (blkOk_by (own := [("k", 3)]) (N := N_d_law_question) (sc := defScope s_d_law_question) (by decide +kernel)) (by decide) (fun _ _ _ _ _ => (gd_name (i := 3) sc_d_law_question.nd rfl (by first | exact Or.inl rfl | exact Or.inr rfl))) (fun _ _ _ _ _ => tsd_nil) (fun _ _ _ _ _ => (pd_call G_d_law_clause (hr.mono (by omega)) (by rfl) m_d_law_clause k_d_law_clause b_d_law_clause (ad_cons (pd_ld (ld_catL (pd_ld (ld_lst (ad_cons (pd_op op_mod sem_mod (pd_op op_add sem_add (pd_ix ix_seq sem_ix (pd_var 1) pd_int (fun _ _ => rfl)) (pd_var 3)) pd_int) (ad_cons (pd_ix ix_seq sem_ix (pd_var 1) pd_int (fun _ _ => rfl)) ad_nil)))) (pd_ld (ld_sliceL (pd_var 1) (od_some pd_int) od_none)))) (ad_cons (pd_var 2) ad_nil)) (len_cons (len_cons len_nil)))))) ad_nil))))))
theorem ok_d_law_cell (T : Txt mg t_LETTERS t_LONGEST_NAME t_MOST_PLACES t_SIGNS) {fd : FuncData} (F : FnP K "_law_cell" s_d_law_cell (He.fAd K ("_law_cell", none)) fd)
    (hg : ∀ ds d, ds.length = 2 → g_d_law_cell ds = some d → ∃ n, Gives (f_d_law_cell n (startR N_d_law_cell ds)) d)
    : FnOk P w K mg base CX0 1 (He.fAd K ("_law_cell", none)) fd ["script", "k"] (spD K Ps 2 g_d_law_cell) := by
  refine def_okD (fb := f_d_law_cell) F sc_d_law_cell (fun n cdv A outer s H E hr hc => ?_) hg
  exact (bd_cons (sd_if (td_cmp op_lt sem_lt (pd_var 1) (pd_callB call_len sem_len (by rfl) T.len PySem.boot_len (ad_cons (pd_var 0) ad_nil)) (nomark _)) (bd_one (sd_ret (pd_callTy call_int1 sem_int (by rfl) T.int PyProof.Rows.boot_int (ad_cons (pd_ix ix_seq sem_ix (pd_var 0) (pd_var 1) (fun _ _ => rfl)) ad_nil)))) bd_nil)
      (bd_one (sd_ret pd_int)))
theorem ok_is_name (T : Txt mg t_LETTERS t_LONGEST_NAME t_MOST_PLACES t_SIGNS) {fd : FuncData} (F : FnP K "is_name" s_is_name (He.fAd K ("is_name", none)) fd)
    (hP : (He.cT K ("is_name", none)).2 ∈ Ps) (TB : GxR.TabB base mg (He.cT K ("is_name", none)).1 (He.cT K ("is_name", none)).2)
    (hg : ∀ ds d, ds.length = 1 → g_is_name ds = some d → ∃ n, Gives (f_is_name n (startR N_is_name ds)) d)
    : FnOk P w K mg base CX0 1 (He.fAd K ("is_name", none)) fd ["value"] (spD K Ps 1 g_is_name) := by
  refine def_okD (fb := f_is_name) F sc_is_name (fun n cdv A outer s H E hr hc => ?_) hg
  have hcode : cdv = Value.ref (He.cT K ("is_name", none)).1 := hc.symm.trans (code_of F)
  exact (bd_cons (sd_if (td_w (wd_or (td_not (td_val (pd_isi "str" (by decide) (by rfl) T.isinstance PyProof.Rows.boot_isinstance (by rfl) T.str (by decide +kernel) (pd_var 0)))) (wd_or1 (td_not (td_chain op_le op_le sem_le sem_le pd_int (pd_callB call_len sem_len (by rfl) T.len PySem.boot_len (ad_cons (pd_var 0) ad_nil)) (pd_gint (by rfl) T.c_LONGEST_NAME)))))) (bd_one (sd_ret pd_bl)) bd_nil)
      (bd_one (sd_ret (pd_allG hP hr (by rfl) T.all TB hcode ⟨rfl, rfl, by decide +kernel, rfl, rfl, fun y hy e => absurd e ((by decide +kernel : ∀ y ∈ _, y.2 ≠ NameKind.free) y hy)⟩ (pd_var 0) (sign_in rfl rfl rfl T.c_SIGNS)))))
theorem ok_is_constant (T : Txt mg t_LETTERS t_LONGEST_NAME t_MOST_PLACES t_SIGNS) {fd : FuncData} (F : FnP K "is_constant" s_is_constant (He.fAd K ("is_constant", none)) fd)
    (C_is_name : Cal P w K mg base Ps "is_name" ["value"] 1 1 g_is_name)
    (hg : ∀ ds d, ds.length = 1 → g_is_constant ds = some d → ∃ n, Gives (f_is_constant n (startR N_is_constant ds)) d)
    : FnOk P w K mg base CX0 2 (He.fAd K ("is_constant", none)) fd ["value"] (spD K Ps 1 g_is_constant) := by
  obtain ⟨_, _, G_is_name, m_is_name, k_is_name, b_is_name⟩ := C_is_name.ex
  refine def_okD (fb := f_is_constant) F sc_is_constant (fun n cdv A outer s H E hr hc => ?_) hg
  exact (bd_one (sd_ret (pd_and (pd_isi "tuple" (by decide) (by rfl) T.isinstance PyProof.Rows.boot_isinstance (by rfl) T.tuple (by decide +kernel) (pd_var 0)) (pd_and (pd_cmp (op_eqD hr.units) sem_eq (pd_callB call_len sem_len (by rfl) T.len PySem.boot_len (ad_cons (pd_var 0) ad_nil)) pd_int (nomark _)) (pd_one (pd_call G_is_name (hr.mono (by omega)) (by rfl) m_is_name k_is_name b_is_name (ad_cons (pd_ix ix_seq sem_ix (pd_var 0) pd_int (fun _ _ => rfl)) ad_nil) (len_cons len_nil)))))))
theorem ok_is_variable (T : Txt mg t_LETTERS t_LONGEST_NAME t_MOST_PLACES t_SIGNS) {fd : FuncData} (F : FnP K "is_variable" s_is_variable (He.fAd K ("is_variable", none)) fd)
    (C_is_name : Cal P w K mg base Ps "is_name" ["value"] 1 1 g_is_name)
    (hg : ∀ ds d, ds.length = 1 → g_is_variable ds = some d → ∃ n, Gives (f_is_variable n (startR N_is_variable ds)) d)
    : FnOk P w K mg base CX0 2 (He.fAd K ("is_variable", none)) fd ["value"] (spD K Ps 1 g_is_variable) := by
  obtain ⟨_, _, G_is_name, m_is_name, k_is_name, b_is_name⟩ := C_is_name.ex
  refine def_okD (fb := f_is_variable) F sc_is_variable (fun n cdv A outer s H E hr hc => ?_) hg
  exact (bd_one (sd_ret (pd_and (pd_call G_is_name (hr.mono (by omega)) (by rfl) m_is_name k_is_name b_is_name (ad_cons (pd_var 0) ad_nil) (len_cons len_nil)) (pd_one (pd_cmp op_in_sign sem_inS (pd_ix ix_seq sem_ix (pd_var 0) pd_int (fun _ _ => rfl)) (pd_gstr (by rfl) T.c_LETTERS) (by rfl))))))
theorem ok_is_slot (T : Txt mg t_LETTERS t_LONGEST_NAME t_MOST_PLACES t_SIGNS) {fd : FuncData} (F : FnP K "is_slot" s_is_slot (He.fAd K ("is_slot", none)) fd)
    (C_is_constant : Cal P w K mg base Ps "is_constant" ["value"] 2 1 g_is_constant)
    (C_is_variable : Cal P w K mg base Ps "is_variable" ["value"] 2 1 g_is_variable)
    (hg : ∀ ds d, ds.length = 1 → g_is_slot ds = some d → ∃ n, Gives (f_is_slot n (startR N_is_slot ds)) d)
    : FnOk P w K mg base CX0 3 (He.fAd K ("is_slot", none)) fd ["value"] (spD K Ps 1 g_is_slot) := by
  obtain ⟨_, _, G_is_constant, m_is_constant, k_is_constant, b_is_constant⟩ := C_is_constant.ex
  obtain ⟨_, _, G_is_variable, m_is_variable, k_is_variable, b_is_variable⟩ := C_is_variable.ex
  refine def_okD (fb := f_is_slot) F sc_is_slot (fun n cdv A outer s H E hr hc => ?_) hg
  exact (bd_one (sd_ret (pd_or (pd_call G_is_variable (hr.mono (by omega)) (by rfl) m_is_variable k_is_variable b_is_variable (ad_cons (pd_var 0) ad_nil) (len_cons len_nil)) (pd_one (pd_call G_is_constant (hr.mono (by omega)) (by rfl) m_is_constant k_is_constant b_is_constant (ad_cons (pd_var 0) ad_nil) (len_cons len_nil))))))
theorem ok_is_atom (T : Txt mg t_LETTERS t_LONGEST_NAME t_MOST_PLACES t_SIGNS) {fd : FuncData} (F : FnP K "is_atom" s_is_atom (He.fAd K ("is_atom", none)) fd)
    (hP : (He.cT K ("is_atom", none)).2 ∈ Ps) (TB : GxR.TabB base mg (He.cT K ("is_atom", none)).1 (He.cT K ("is_atom", none)).2)
    (C_is_slot : Cal P w K mg base Ps "is_slot" ["value"] 3 1 g_is_slot)
    (hg : ∀ ds d, ds.length = 2 → g_is_atom ds = some d → ∃ n, Gives (f_is_atom n (startR N_is_atom ds)) d)
    : FnOk P w K mg base CX0 5 (He.fAd K ("is_atom", none)) fd ["value", "relations"] (spD K Ps 2 g_is_atom) := by
  obtain ⟨_, _, G_is_slot, m_is_slot, k_is_slot, b_is_slot⟩ := C_is_slot.ex
  refine def_okD (fb := f_is_atom) F sc_is_atom (fun n cdv A outer s H E hr hc => ?_) hg
  have hcode : cdv = Value.ref (He.cT K ("is_atom", none)).1 := hc.symm.trans (code_of F)
  exact (bd_cons (sd_if (td_w (wd_or (td_not (td_val (pd_isi "tuple" (by decide) (by rfl) T.isinstance PyProof.Rows.boot_isinstance (by rfl) T.tuple (by decide +kernel) (pd_var 0)))) (wd_or1 (td_cmp (op_neD hr.units) sem_ne (pd_callB call_len sem_len (by rfl) T.len PySem.boot_len (ad_cons (pd_var 0) ad_nil)) pd_int (nomark _))))) (bd_one (sd_ret pd_bl)) bd_nil)
      (bd_cons (sd_asg (pd_var 0) (gd_tup rfl (gsd_cons (gd_name (i := 2) sc_is_atom.nd rfl (by first | exact Or.inl rfl | exact Or.inr rfl)) (gsd_cons (gd_name (i := 3) sc_is_atom.nd rfl (by first | exact Or.inl rfl | exact Or.inr rfl)) gsd_nil))))
      (bd_cons (sd_if (td_w (wd_or (td_not (td_val (pd_isi "str" (by decide) (by rfl) T.isinstance PyProof.Rows.boot_isinstance (by rfl) T.str (by decide +kernel) (pd_var 2)))) (wd_or1 (td_dnotin (hu_of hr) (pd_var 2) (pd_var 1))))) (bd_one (sd_ret pd_bl)) bd_nil)
      (bd_cons (sd_if (td_w (wd_or (td_not (td_val (pd_isi "tuple" (by decide) (by rfl) T.isinstance PyProof.Rows.boot_isinstance (by rfl) T.tuple (by decide +kernel) (pd_var 3)))) (wd_or1 (td_cmp (op_neD hr.units) sem_ne (pd_callB call_len sem_len (by rfl) T.len PySem.boot_len (ad_cons (pd_var 3) ad_nil)) (pd_dget (hu_of hr) (pd_var 1) (pd_var 2) (fun _ _ => rfl)) (nomark _))))) (bd_one (sd_ret pd_bl)) bd_nil)
      (bd_one (sd_ret (pd_all (k := 3) (own := [("slot", 4)]) hP (hr.mono (by omega)) rfl sc_is_atom.nd (by rfl) T.all TB hcode ⟨rfl, by decide +kernel, rfl⟩ (blkOk_by (own := [("slot", 4)]) (N := N_is_atom) (sc := defScope s_is_atom) (by decide +kernel)) (by decide) (id_tup (pd_var 3)) (fun _ _ _ _ _ _ _ _ _ hr => (gd_name (i := 4) sc_is_atom.nd rfl (by first | exact Or.inl rfl | exact Or.inr rfl))) (fun _ _ _ _ _ _ _ _ _ hr => (pd_call G_is_slot (hr.mono (by omega)) (by rfl) m_is_slot k_is_slot b_is_slot (ad_cons (pd_var 4) ad_nil) (len_cons len_nil))))))))))
theorem ok_are_atoms (T : Txt mg t_LETTERS t_LONGEST_NAME t_MOST_PLACES t_SIGNS) {fd : FuncData} (F : FnP K "are_atoms" s_are_atoms (He.fAd K ("are_atoms", none)) fd)
    (hP : (He.cT K ("are_atoms", none)).2 ∈ Ps) (TB : GxR.TabB base mg (He.cT K ("are_atoms", none)).1 (He.cT K ("are_atoms", none)).2)
    (C_is_atom : Cal P w K mg base Ps "is_atom" ["value", "relations"] 5 2 g_is_atom)
    (hg : ∀ ds d, ds.length = 2 → g_are_atoms ds = some d → ∃ n, Gives (f_are_atoms n (startR N_are_atoms ds)) d)
    : FnOk P w K mg base CX0 7 (He.fAd K ("are_atoms", none)) fd ["value", "relations"] (spD K Ps 2 g_are_atoms) := by
  obtain ⟨_, _, G_is_atom, m_is_atom, k_is_atom, b_is_atom⟩ := C_is_atom.ex
  refine def_okD (fb := f_are_atoms) F sc_are_atoms (fun n cdv A outer s H E hr hc => ?_) hg
  have hcode : cdv = Value.ref (He.cT K ("are_atoms", none)).1 := hc.symm.trans (code_of F)
  exact (bd_cons (sd_if (td_w (wd_or (td_not (td_val (pd_isi "tuple" (by decide) (by rfl) T.isinstance PyProof.Rows.boot_isinstance (by rfl) T.tuple (by decide +kernel) (pd_var 0)))) (wd_or1 (td_cmp (op_eqD hr.units) sem_eq (pd_callB call_len sem_len (by rfl) T.len PySem.boot_len (ad_cons (pd_var 0) ad_nil)) pd_int (nomark _))))) (bd_one (sd_ret pd_bl)) bd_nil)
      (bd_one (sd_ret (pd_all (k := 5) (own := [("atom", 2)]) hP (hr.mono (by omega)) rfl sc_are_atoms.nd (by rfl) T.all TB hcode ⟨rfl, by decide +kernel, rfl⟩ (blkOk_by (own := [("atom", 2)]) (N := N_are_atoms) (sc := defScope s_are_atoms) (by decide +kernel)) (by decide) (id_tup (pd_var 0)) (fun _ _ _ _ _ _ _ _ _ hr => (gd_name (i := 2) sc_are_atoms.nd rfl (by first | exact Or.inl rfl | exact Or.inr rfl))) (fun _ _ _ _ _ _ _ _ _ hr => (pd_call G_is_atom (hr.mono (by omega)) (by rfl) m_is_atom k_is_atom b_is_atom (ad_cons (pd_var 2) (ad_cons (pd_var 1) ad_nil)) (len_cons (len_cons len_nil))))))))
theorem ok_variables_of (T : Txt mg t_LETTERS t_LONGEST_NAME t_MOST_PLACES t_SIGNS) {fd : FuncData} (F : FnP K "variables_of" s_variables_of (He.fAd K ("variables_of", none)) fd)
    (hg : ∀ ds d, ds.length = 1 → g_variables_of ds = some d → ∃ n, Gives (f_variables_of n (startR N_variables_of ds)) d)
    : FnOk P w K mg base CX0 1 (He.fAd K ("variables_of", none)) fd ["atoms"] (spD K Ps 1 g_variables_of) := by
  refine def_okD (fb := f_variables_of) F sc_variables_of (fun n cdv A outer s H E hr hc => ?_) hg
  exact (bd_cons (sd_newD (i := 1) sc_variables_of.nd rfl (by first | exact Or.inl rfl | exact Or.inr rfl))
      (bd_cons (sd_for PassesOwn.never rfl (id_tup (pd_var 0)) (gd_tup rfl (gsd_cons (gd_name (i := 2) sc_variables_of.nd rfl (by first | exact Or.inl rfl | exact Or.inr rfl)) (gsd_cons (gd_name (i := 3) sc_variables_of.nd rfl (by first | exact Or.inl rfl | exact Or.inr rfl)) gsd_nil))) (bd_one (sd_for PassesOwn.never rfl (id_tup (pd_var 3)) (gd_name (i := 4) sc_variables_of.nd rfl (by first | exact Or.inl rfl | exact Or.inr rfl)) (bd_one (sd_if (td_val (pd_isi "str" (by decide) (by rfl) T.isinstance PyProof.Rows.boot_isinstance (by rfl) T.str (by decide +kernel) (pd_var 4))) (bd_one (sd_put (i := 1) (hu_of hr) (by rfl) (pd_var 4) pd_bl)) bd_nil)))))
      (bd_one (sd_frz 1 (sd_ret (pd_callTy (call_tupB rfl) sem_tupB (by rfl) T.tuple PyProof.Rows.boot_tuple (ad_cons (pd_var 1) ad_nil)))))))
theorem ok_is_variable_of (T : Txt mg t_LETTERS t_LONGEST_NAME t_MOST_PLACES t_SIGNS) {fd : FuncData} (F : FnP K "is_variable_of" s_is_variable_of (He.fAd K ("is_variable_of", none)) fd)
    (C_variables_of : Cal P w K mg base Ps "variables_of" ["atoms"] 1 1 g_variables_of)
    (hg : ∀ ds d, ds.length = 2 → g_is_variable_of ds = some d → ∃ n, Gives (f_is_variable_of n (startR N_is_variable_of ds)) d)
    : FnOk P w K mg base CX0 2 (He.fAd K ("is_variable_of", none)) fd ["value", "atoms"] (spD K Ps 2 g_is_variable_of) := by
  obtain ⟨_, _, G_variables_of, m_variables_of, k_variables_of, b_variables_of⟩ := C_variables_of.ex
  refine def_okD (fb := f_is_variable_of) F sc_is_variable_of (fun n cdv A outer s H E hr hc => ?_) hg
  exact (bd_one (sd_ret (pd_and (pd_isi "str" (by decide) (by rfl) T.isinstance PyProof.Rows.boot_isinstance (by rfl) T.str (by decide +kernel) (pd_var 0)) (pd_one (pd_cmp op_in_seq (sem_inT false) (pd_var 0) (pd_call G_variables_of (hr.mono (by omega)) (by rfl) m_variables_of k_variables_of b_variables_of (ad_cons (pd_var 1) ad_nil) (len_cons len_nil)) (by rfl))))))
theorem ok_is_clause (T : Txt mg t_LETTERS t_LONGEST_NAME t_MOST_PLACES t_SIGNS) {fd : FuncData} (F : FnP K "is_clause" s_is_clause (He.fAd K ("is_clause", none)) fd)
    (hP : (He.cT K ("is_clause", none)).2 ∈ Ps) (TB : GxR.TabB base mg (He.cT K ("is_clause", none)).1 (He.cT K ("is_clause", none)).2)
    (C_are_atoms : Cal P w K mg base Ps "are_atoms" ["value", "relations"] 7 2 g_are_atoms)
    (C_is_variable_of : Cal P w K mg base Ps "is_variable_of" ["value", "atoms"] 2 2 g_is_variable_of)
    (C_is_constant : Cal P w K mg base Ps "is_constant" ["value"] 2 1 g_is_constant)
    (hg : ∀ ds d, ds.length = 2 → g_is_clause ds = some d → ∃ n, Gives (f_is_clause n (startR N_is_clause ds)) d)
    : FnOk P w K mg base CX0 9 (He.fAd K ("is_clause", none)) fd ["value", "relations"] (spD K Ps 2 g_is_clause) := by
  obtain ⟨_, _, G_are_atoms, m_are_atoms, k_are_atoms, b_are_atoms⟩ := C_are_atoms.ex
  obtain ⟨_, _, G_is_variable_of, m_is_variable_of, k_is_variable_of, b_is_variable_of⟩ := C_is_variable_of.ex
  obtain ⟨_, _, G_is_constant, m_is_constant, k_is_constant, b_is_constant⟩ := C_is_constant.ex
  refine def_okD (fb := f_is_clause) F sc_is_clause (fun n cdv A outer s H E hr hc => ?_) hg
  have hcode : cdv = Value.ref (He.cT K ("is_clause", none)).1 := hc.symm.trans (code_of F)
  exact (bd_cons (sd_if (td_w (wd_or (td_not (td_val (pd_isi "tuple" (by decide) (by rfl) T.isinstance PyProof.Rows.boot_isinstance (by rfl) T.tuple (by decide +kernel) (pd_var 0)))) (wd_or1 (td_cmp (op_neD hr.units) sem_ne (pd_callB call_len sem_len (by rfl) T.len PySem.boot_len (ad_cons (pd_var 0) ad_nil)) pd_int (nomark _))))) (bd_one (sd_ret pd_bl)) bd_nil)
      (bd_cons (sd_asg (pd_var 0) (gd_tup rfl (gsd_cons (gd_name (i := 2) sc_is_clause.nd rfl (by first | exact Or.inl rfl | exact Or.inr rfl)) (gsd_cons (gd_name (i := 3) sc_is_clause.nd rfl (by first | exact Or.inl rfl | exact Or.inr rfl)) gsd_nil))))
      (bd_cons (sd_if (td_w (wd_or (td_not (td_val (pd_isi "tuple" (by decide) (by rfl) T.isinstance PyProof.Rows.boot_isinstance (by rfl) T.tuple (by decide +kernel) (pd_var 2)))) (wd_or (td_cmp op_gt sem_gt (pd_callB call_len sem_len (by rfl) T.len PySem.boot_len (ad_cons (pd_var 2) ad_nil)) (pd_gint (by rfl) T.c_MOST_PLACES) (nomark _)) (wd_or1 (td_not (td_val (pd_call G_are_atoms (hr.mono (by omega)) (by rfl) m_are_atoms k_are_atoms b_are_atoms (ad_cons (pd_var 3) (ad_cons (pd_var 1) ad_nil)) (len_cons (len_cons len_nil))))))))) (bd_one (sd_ret pd_bl)) bd_nil)
      (bd_one (sd_ret (pd_all (k := 7) (own := [("slot", 4)]) hP (hr.mono (by omega)) rfl sc_is_clause.nd (by rfl) T.all TB hcode ⟨rfl, by decide +kernel, rfl⟩ (blkOk_by (own := [("slot", 4)]) (N := N_is_clause) (sc := defScope s_is_clause) (by decide +kernel)) (by decide) (id_tup (pd_var 2)) (fun _ _ _ _ _ _ _ _ _ hr => (gd_name (i := 4) sc_is_clause.nd rfl (by first | exact Or.inl rfl | exact Or.inr rfl))) (fun _ _ _ _ _ _ _ _ _ hr => (pd_or (pd_call G_is_constant (hr.mono (by omega)) (by rfl) m_is_constant k_is_constant b_is_constant (ad_cons (pd_var 4) ad_nil) (len_cons len_nil)) (pd_one (pd_call G_is_variable_of (hr.mono (by omega)) (by rfl) m_is_variable_of k_is_variable_of b_is_variable_of (ad_cons (pd_var 4) (ad_cons (pd_var 3) ad_nil)) (len_cons (len_cons len_nil))))))))))))
theorem ok_is_question (T : Txt mg t_LETTERS t_LONGEST_NAME t_MOST_PLACES t_SIGNS) {fd : FuncData} (F : FnP K "is_question" s_is_question (He.fAd K ("is_question", none)) fd)
    (hP : (He.cT K ("is_question", none)).2 ∈ Ps) (TB : GxR.TabB base mg (He.cT K ("is_question", none)).1 (He.cT K ("is_question", none)).2)
    (C_is_clause : Cal P w K mg base Ps "is_clause" ["value", "relations"] 9 2 g_is_clause)
    (hg : ∀ ds d, ds.length = 2 → g_is_question ds = some d → ∃ n, Gives (f_is_question n (startR N_is_question ds)) d)
    : FnOk P w K mg base CX0 11 (He.fAd K ("is_question", none)) fd ["value", "program"] (spD K Ps 2 g_is_question) := by
  obtain ⟨_, _, G_is_clause, m_is_clause, k_is_clause, b_is_clause⟩ := C_is_clause.ex
  refine def_okD (fb := f_is_question) F sc_is_question (fun n cdv A outer s H E hr hc => ?_) hg
  have hcode : cdv = Value.ref (He.cT K ("is_question", none)).1 := hc.symm.trans (code_of F)
  exact (bd_cons (sd_if (td_w (wd_or (td_not (td_val (pd_isi "tuple" (by decide) (by rfl) T.isinstance PyProof.Rows.boot_isinstance (by rfl) T.tuple (by decide +kernel) (pd_var 0)))) (wd_or1 (td_cmp (op_eqD hr.units) sem_eq (pd_callB call_len sem_len (by rfl) T.len PySem.boot_len (ad_cons (pd_var 0) ad_nil)) pd_int (nomark _))))) (bd_one (sd_ret pd_bl)) bd_nil)
      (bd_cons (sd_if (td_not (td_val (pd_all (k := 9) (own := [("clause", 2)]) hP (hr.mono (by omega)) rfl sc_is_question.nd (by rfl) T.all TB hcode ⟨rfl, by decide +kernel, rfl⟩ (blkOk_by (own := [("clause", 2)]) (N := N_is_question) (sc := defScope s_is_question) (by decide +kernel)) (by decide) (id_tup (pd_var 0)) (fun _ _ _ _ _ _ _ _ _ hr => (gd_name (i := 2) sc_is_question.nd rfl (by first | exact Or.inl rfl | exact Or.inr rfl))) (fun _ _ _ _ _ _ _ _ _ hr => (pd_call G_is_clause (hr.mono (by omega)) (by rfl) m_is_clause k_is_clause b_is_clause (ad_cons (pd_var 2) (ad_cons (pd_dget (hu_of hr) (pd_var 1) pd_str (fun _ _ => rfl)) ad_nil)) (len_cons (len_cons len_nil))))))) (bd_one (sd_ret pd_bl)) bd_nil)
      (bd_cons (sd_set (i := 3) sc_is_question.nd rfl (by first | exact Or.inl rfl | exact Or.inr rfl) (pd_callB call_len sem_len (by rfl) T.len PySem.boot_len (ad_cons (pd_ix ix_seq sem_ix (pd_ix ix_seq sem_ix (pd_var 0) pd_int (fun _ _ => rfl)) pd_int (fun _ _ => rfl)) ad_nil)))
      (bd_one (sd_ret (pd_all (k := 9) (own := [("slots", 4), ("_", 5)]) hP (hr.mono (by omega)) rfl sc_is_question.nd (by rfl) T.all TB hcode ⟨rfl, by decide +kernel, rfl⟩ (blkOk_by (own := [("slots", 4), ("_", 5)]) (N := N_is_question) (sc := defScope s_is_question) (by decide +kernel)) (by decide) (id_tup (pd_var 0)) (fun _ _ _ _ _ _ _ _ _ hr => (gd_tup rfl (gsd_cons (gd_name (i := 4) sc_is_question.nd rfl (by first | exact Or.inl rfl | exact Or.inr rfl)) (gsd_cons (gd_name (i := 5) sc_is_question.nd rfl (by first | exact Or.inl rfl | exact Or.inr rfl)) gsd_nil)))) (fun _ _ _ _ _ _ _ _ _ hr => (pd_cmp (op_eqD hr.units) sem_eq (pd_callB call_len sem_len (by rfl) T.len PySem.boot_len (ad_cons (pd_var 4) ad_nil)) (pd_var 3) (nomark _)))))))))
theorem ok_d_law_spoiled (T : Txt mg t_LETTERS t_LONGEST_NAME t_MOST_PLACES t_SIGNS) {fd : FuncData} (F : FnP K "_law_spoiled" s_d_law_spoiled (He.fAd K ("_law_spoiled", none)) fd)
    (hg : ∀ ds d, ds.length = 2 → g_d_law_spoiled ds = some d → ∃ n, Gives (f_d_law_spoiled n (startR N_d_law_spoiled ds)) d)
    : FnOk P w K mg base CX0 1 (He.fAd K ("_law_spoiled", none)) fd ["question", "digit"] (spD K Ps 2 g_d_law_spoiled) := by
  refine def_okD (fb := f_d_law_spoiled) F sc_d_law_spoiled (fun n cdv A outer s H E hr hc => ?_) hg
  exact (bd_cons (sd_asg (pd_ix ix_seq sem_ix (pd_var 0) pd_int (fun _ _ => rfl)) (gd_tup rfl (gsd_cons (gd_name (i := 2) sc_d_law_spoiled.nd rfl (by first | exact Or.inl rfl | exact Or.inr rfl)) (gsd_cons (gd_name (i := 3) sc_d_law_spoiled.nd rfl (by first | exact Or.inl rfl | exact Or.inr rfl)) gsd_nil))))
      (bd_cons (sd_set (i := 4) sc_d_law_spoiled.nd rfl (by first | exact Or.inl rfl | exact Or.inr rfl) (pd_ld (ld_lst (ad_cons (pd_tup ad_nil) (ad_cons (pd_ld (ld_listOf (by rfl) T.list PyProof.Rows.boot_list (ad_cons (pd_var 0) ad_nil))) (ad_cons (pd_op op_catA sem_catT (pd_var 0) (pd_tup (ad_cons (pd_tup (ad_cons (pd_op op_catA sem_catT (pd_var 2) (pd_tup (ad_cons pd_str ad_nil))) (ad_cons (pd_var 3) ad_nil))) ad_nil))) (ad_cons (pd_op op_catA sem_catT (pd_sliceT (pd_var 0) (od_some pd_int) od_none) (pd_tup (ad_cons (pd_tup (ad_cons (pd_var 2) (ad_cons (pd_tup ad_nil) ad_nil))) ad_nil))) (ad_cons (pd_tup (ad_cons (pd_tup (ad_cons (pd_op op_repT sem_repT (pd_tup (ad_cons pd_str ad_nil)) pd_int) (ad_cons (pd_var 3) ad_nil))) ad_nil)) (ad_cons (pd_tup (ad_cons (pd_tup (ad_cons (pd_tup (ad_cons pd_str ad_nil)) (ad_cons (pd_var 3) ad_nil))) ad_nil)) (ad_cons (pd_tup (ad_cons (pd_tup (ad_cons (pd_tup (ad_cons (pd_tup (ad_cons pd_str ad_nil)) ad_nil)) (ad_cons (pd_var 3) ad_nil))) ad_nil)) (ad_cons (pd_tup (ad_cons (pd_tup (ad_cons (pd_tup (ad_cons pd_str ad_nil)) (ad_cons (pd_tup (ad_cons (pd_tup (ad_cons pd_str (ad_cons (pd_tup (ad_cons pd_str (ad_cons pd_str ad_nil))) ad_nil))) ad_nil)) ad_nil))) ad_nil)) (ad_cons (pd_tup (ad_cons (pd_tup (ad_cons (pd_ld (ld_listOf (by rfl) T.list PyProof.Rows.boot_list (ad_cons (pd_var 2) ad_nil))) (ad_cons (pd_var 3) ad_nil))) ad_nil)) (ad_cons (pd_tup (ad_cons (pd_var 3) ad_nil)) (ad_cons (pd_tup (ad_cons (pd_tup (ad_cons (pd_tup (ad_cons pd_str ad_nil)) (ad_cons (pd_ld (ld_listOf (by rfl) T.list PyProof.Rows.boot_list (ad_cons (pd_var 3) ad_nil))) ad_nil))) ad_nil)) (ad_cons pd_non (ad_cons pd_int (ad_cons (pd_tup (ad_cons (pd_tup (ad_cons pd_str (ad_cons (pd_var 3) ad_nil))) ad_nil)) (ad_cons (pd_tup (ad_cons (pd_tup (ad_cons (pd_var 2) (ad_cons (pd_var 3) (ad_cons (pd_tup ad_nil) ad_nil)))) ad_nil)) ad_nil))))))))))))))))))
      (bd_one (sd_ret (pd_ix ix_seq sem_ix (pd_var 4) (pd_op op_mod sem_mod (pd_var 1) (pd_callB call_len sem_len (by rfl) T.len PySem.boot_len (ad_cons (pd_var 4) ad_nil))) (fun _ _ => rfl))))))
theorem ok_law (T : Txt mg t_LETTERS t_LONGEST_NAME t_MOST_PLACES t_SIGNS) {fd : FuncData} (F : FnP K "law" s_law (He.fAd K ("law", none)) fd)
    (C_d_law_program : Cal P w K mg base Ps "_law_program" ["cells"] 1 1 g_d_law_program)
    (C_d_law_question : Cal P w K mg base Ps "_law_question" ["cell"] 2 1 g_d_law_question)
    (C_d_law_cell : Cal P w K mg base Ps "_law_cell" ["script", "k"] 1 2 g_d_law_cell)
    (C_is_question : Cal P w K mg base Ps "is_question" ["value", "program"] 11 2 g_is_question)
    (C_d_law_spoiled : Cal P w K mg base Ps "_law_spoiled" ["question", "digit"] 1 2 g_d_law_spoiled)
    (hg : ∀ ds d, ds.length = 1 → g_law ds = some d → ∃ n, Gives (f_law n (startR N_law ds)) d)
    : FnOk P w K mg base CX0 12 (He.fAd K ("law", none)) fd ["script"] (spD K Ps 1 g_law) := by
  obtain ⟨_, _, G_d_law_program, m_d_law_program, k_d_law_program, b_d_law_program⟩ := C_d_law_program.ex
  obtain ⟨_, _, G_d_law_question, m_d_law_question, k_d_law_question, b_d_law_question⟩ := C_d_law_question.ex
  obtain ⟨_, _, G_d_law_cell, m_d_law_cell, k_d_law_cell, b_d_law_cell⟩ := C_d_law_cell.ex
  obtain ⟨_, _, G_is_question, m_is_question, k_is_question, b_is_question⟩ := C_is_question.ex
  obtain ⟨_, _, G_d_law_spoiled, m_d_law_spoiled, k_d_law_spoiled, b_d_law_spoiled⟩ := C_d_law_spoiled.ex
  refine def_okD (fb := f_law) F sc_law (fun n cdv A outer s H E hr hc => ?_) hg
  exact (bd_cons (sd_set (i := 1) sc_law.nd rfl (by first | exact Or.inl rfl | exact Or.inr rfl) (pd_call G_d_law_program (hr.mono (by omega)) (by rfl) m_d_law_program k_d_law_program b_d_law_program (ad_cons (pd_ld (ld_lst ad_nil)) ad_nil) (len_cons len_nil)))
      (bd_cons (sd_for PassesOwn.never rfl (id_range (by rfl) T.range (ad_cons (pd_op op_add sem_add pd_int (pd_callB (call_min2 rfl) sem_min2 (by rfl) T.min PyProof.Rows.boot_min (ad_cons (pd_callB call_len sem_len (by rfl) T.len PySem.boot_len (ad_cons (pd_var 0) ad_nil)) (ad_cons pd_int ad_nil)))) ad_nil)) (gd_name (i := 2) sc_law.nd rfl (by first | exact Or.inl rfl | exact Or.inr rfl)) (bd_cons (sd_set (i := 3) sc_law.nd rfl (by first | exact Or.inl rfl | exact Or.inr rfl) (pd_call G_d_law_question (hr.mono (by omega)) (by rfl) m_d_law_question k_d_law_question b_d_law_question (ad_cons (pd_op op_add sem_add (pd_call G_d_law_cell (hr.mono (by omega)) (by rfl) m_d_law_cell k_d_law_cell b_d_law_cell (ad_cons (pd_var 0) (ad_cons (pd_var 2) ad_nil)) (len_cons (len_cons len_nil))) (pd_var 2)) ad_nil) (len_cons len_nil)))
      (bd_cons (sd_if (td_cmp op_notBl sem_isnot (pd_call G_is_question (hr.mono (by omega)) (by rfl) m_is_question k_is_question b_is_question (ad_cons (pd_var 3) (ad_cons (pd_var 1) ad_nil)) (len_cons (len_cons len_nil))) pd_bl (nomark _)) (bd_one (sd_ret pd_bl)) bd_nil)
      (bd_one (sd_for PassesOwn.never rfl (id_range (by rfl) T.range (ad_cons pd_int ad_nil)) (gd_name (i := 4) sc_law.nd rfl (by first | exact Or.inl rfl | exact Or.inr rfl)) (bd_cons (sd_set (i := 5) sc_law.nd rfl (by first | exact Or.inl rfl | exact Or.inr rfl) (pd_call G_d_law_spoiled (hr.mono (by omega)) (by rfl) m_d_law_spoiled k_d_law_spoiled b_d_law_spoiled (ad_cons (pd_var 3) (ad_cons (pd_op op_add sem_add (pd_op op_add sem_add (pd_callTy call_int1 sem_int (by rfl) T.int PyProof.Rows.boot_int (ad_cons (pd_call G_d_law_cell (hr.mono (by omega)) (by rfl) m_d_law_cell k_d_law_cell b_d_law_cell (ad_cons (pd_var 0) (ad_cons (pd_var 2) ad_nil)) (len_cons (len_cons len_nil))) ad_nil)) (pd_op op_mul sem_mul pd_int (pd_var 2))) (pd_var 4)) ad_nil)) (len_cons (len_cons len_nil))))
      (bd_one (sd_if (td_cmp op_notBl sem_isnot (pd_call G_is_question (hr.mono (by omega)) (by rfl) m_is_question k_is_question b_is_question (ad_cons (pd_var 5) (ad_cons (pd_var 1) ad_nil)) (len_cons (len_cons len_nil))) pd_bl (nomark _)) (bd_one (sd_ret pd_bl)) bd_nil))))))))
      (bd_one (sd_ret pd_bl))))
end
end K03
set_option maxHeartbeats 4000000
namespace K03
open PySem PySem.Spec PyProof.Rows L2 FL
theorem digits_body (c b rest : Int) (L : D) (ds : List D) (x5 : En) (hb : 0 < b ∧ b < 1073741824) (hl : ds.length < 1000) :
    ∃ d rest' x5', f_d_law_digits_body1 fuel [.fz (.int c), .fz L, .ow ds, .fz (.int rest), .fz (.int b), x5] = some (.nx [.fz (.int c), .fz L, .ow (ds ++ [.int d]), .fz (.int rest'), .fz (.int b), x5']) ∧ 0 ≤ d ∧ d < b := by
  have hl' : ds.length < 1000000 := by omega
  by_cases hc : (10 : Int) ^ 18 ≤ c
  · refine ⟨rest % b, rest / b, x5, ?_, Int.emod_nonneg _ (by omega), Int.emod_lt_of_pos _ hb.1⟩
    unfold f_d_law_digits_body1
    simp [fIfS, fB, fOp, fVar, gPow, gI, cPow, gIB, asB, fSeq, fApp, fCall, fCons, gInt, gMod, cMod, hb.1, fSet, gDiv, cDiv, hb.2, hl']
    intro h
    exact absurd hc (by omega)
  · refine ⟨(((rest * 48271 + 1009 * (ds.length : Int) + 12345) % 2147483647) * ((rest * 48271 + 1009 * (ds.length : Int) + 12345) % 2147483647) % 2147483629) / 13 % b, (rest * 48271 + 1009 * (ds.length : Int) + 12345) % 2147483647,
      .fz (.int (((rest * 48271 + 1009 * (ds.length : Int) + 12345) % 2147483647) * ((rest * 48271 + 1009 * (ds.length : Int) + 12345) % 2147483647) % 2147483629)), ?_, Int.emod_nonneg _ (by omega), Int.emod_lt_of_pos _ hb.1⟩
    have hr1 : 0 ≤ (rest * 48271 + 1009 * (ds.length : Int) + 12345) % 2147483647 := Int.emod_nonneg _ (by omega)
    have hr2 : (rest * 48271 + 1009 * (ds.length : Int) + 12345) % 2147483647 < 2147483647 := Int.emod_lt_of_pos _ (by omega)
    have hm : cMul ((rest * 48271 + 1009 * (ds.length : Int) + 12345) % 2147483647) ((rest * 48271 + 1009 * (ds.length : Int) + 12345) % 2147483647) = true := by
      generalize (rest * 48271 + 1009 * (ds.length : Int) + 12345) % 2147483647 = z at hr1 hr2 ⊢
      unfold cMul
      rw [decide_eq_true (show -(2 ^ 64) < z ∧ z < 2 ^ 64 by omega)]
      rfl
    have h1 : ∀ x : Int, cMul x 48271 = true := fun x => by
      unfold cMul
      rw [decide_eq_true (show -(2 ^ 64) < (48271 : Int) ∧ (48271 : Int) < 2 ^ 64 by decide), Bool.or_true]
    have h2 : ∀ x : Int, cMul 1009 x = true := fun x => by
      unfold cMul
      rw [decide_eq_true (show -(2 ^ 64) < (1009 : Int) ∧ (1009 : Int) < 2 ^ 64 by decide), Bool.true_or]
    unfold f_d_law_digits_body1
    have hd : ¬ ((1000000000000000000 : Int) ≤ c) := fun h => hc (by omega)
    simp [fIfS, fB, fOp, fVar, gPow, gI, gI0, cPow, gIB, asB, fSeq, fApp, fCall, fCons, gInt, gMod, cMod, hb.1, fSet, gDiv, cDiv, hb.2, hl', h1, h2, hm, fLenO, hd]
theorem digits_ok (c : Int) (bs : List Int) (hb : ∀ b ∈ bs, 0 < b ∧ b < 1073741824) (hn : bs.length < 1000) : ∃ ds : List Int, g_d_law_digits [.int c, .list (bs.map PyData.int)] = some (.list (ds.map PyData.int)) ∧ ds.length = bs.length ∧ ∀ (i : Nat) b d, bs[i]? = some b → ds[i]? = some d → 0 ≤ d ∧ d < b := by
  have go := loop_ix (fg := gN 4) (fb := f_d_law_digits_body1 fuel) (bs.map PyData.int) (fun pre ρ => ∃ (ds : List Int) (rest : Int) (x4 x5 : En), ρ = [.fz (.int c), .fz (.list (bs.map PyData.int)), .ow (ds.map PyData.int), .fz (.int rest), x4, x5] ∧ ds.length = pre.length ∧ (∀ (i : Nat) b d, pre[i]? = some (.int b) → ds[i]? = some d → 0 ≤ d ∧ d < b)) ?_
    (bs.map PyData.int) [] rfl [.fz (.int c), .fz (.list (bs.map PyData.int)), .ow [], .fz (.int c), .no, .no] ⟨[], c, .no, .no, rfl, rfl, fun i b d h => by simp at h⟩
  · obtain ⟨ρ', e1, ds, rest, x4, x5, rfl, h1, h3⟩ := go
    refine ⟨ds, ?_, by rw [h1, List.length_map], fun i b d hi hd => h3 i b d (by rw [List.getElem?_map, hi]; rfl) hd⟩
    unfold g_d_law_digits runF
    rw [if_pos (by rfl)]
    have e0 : f_d_law_digits fuel (startR N_d_law_digits [.int c, .list (bs.map PyData.int)]) = some (.rt (.list (ds.map PyData.int))) := by
      unfold f_d_law_digits
      have s0 : f_d_law_digits_0 fuel (startR N_d_law_digits [.int c, .list (bs.map PyData.int)]) = some (.nx [.fz (.int c), .fz (.list (bs.map PyData.int)), .ow [], .no, .no, .no]) := rfl
      have s1 : f_d_law_digits_1 fuel [.fz (.int c), .fz (.list (bs.map PyData.int)), .ow [], .no, .no, .no] = some (.nx [.fz (.int c), .fz (.list (bs.map PyData.int)), .ow [], .fz (.int c), .no, .no]) := rfl
      have s2 : f_d_law_digits_2 fuel [.fz (.int c), .fz (.list (bs.map PyData.int)), .ow [], .fz (.int c), .no, .no] = some (.nx [.fz (.int c), .fz (.list (bs.map PyData.int)), .ow (ds.map PyData.int), .fz (.int rest), x4, x5]) := e1
      have s3 : fFrz 2 (f_d_law_digits_3 fuel) [.fz (.int c), .fz (.list (bs.map PyData.int)), .ow (ds.map PyData.int), .fz (.int rest), x4, x5] = some (.rt (.list (ds.map PyData.int))) := rfl
      simp only [fSeq, s0, s1, s2, s3, Option.bind_some]
    rw [e0]
    rfl
  · rintro pre d post ρ hall ⟨ds, rest, x4, x5, rfl, h1, h2⟩
    have hdm : d ∈ bs.map PyData.int := by rw [hall]; simp
    obtain ⟨b, hbm, rfl⟩ := List.mem_map.mp hdm
    have hlen : pre.length < bs.length := by
      have := congrArg List.length hall
      simp at this
      omega
    obtain ⟨d, rest', x5', e, d0, d1⟩ := digits_body c b rest (.list (bs.map PyData.int)) (ds.map PyData.int) x5 (hb b hbm) (by rw [List.length_map]; omega)
    refine ⟨_, _, rfl, .inl e, ds ++ [d], rest', .fz (.int b), x5', by rw [List.map_append]; rfl, by rw [List.length_append, List.length_append, h1]; rfl, fun i b' d' hi hd' => ?_⟩
    by_cases hlt : i < pre.length
    · rw [List.getElem?_append_left hlt] at hi
      rw [List.getElem?_append_left (by omega)] at hd'
      exact h2 i b' d' hi hd'
    · rw [List.getElem?_append_right (by omega)] at hi
      rw [List.getElem?_append_right (by omega)] at hd'
      have hi0 : i - pre.length = 0 := by
        have := (List.getElem?_eq_some_iff.mp hi).1
        simp at this
        omega
      rw [hi0] at hi
      rw [h1, hi0] at hd'
      simp at hi hd'
      subst hi hd'
      exact ⟨d0, d1⟩

/-! ### cells -/
theorem cell_ok (ns : List Int) (k : Nat) : ∃ z : Int, g_d_law_cell [.list (ns.map PyData.int), .int k] = some (.int z) := by
  have hlen : (ns.map PyData.int).length = ns.length := List.length_map ..
  unfold g_d_law_cell runF
  rw [if_pos (by rfl)]
  by_cases h : k < ns.length
  · refine ⟨ns[k], ?_⟩
    have ha : atI (ns.map PyData.int) (k : Int) = some (.int ns[k]) := by
      unfold atI ixN
      rw [if_pos (by omega), if_pos (by rw [hlen]; omega)]
      simp [h]
    have s0 : f_d_law_cell_0 fuel [.fz (.list (ns.map PyData.int)), .fz (.int k)] = some (.rt (.int ns[k])) := by
      unfold f_d_law_cell_0
      simp [fIfS, fB, fOp, fVar, gIB, fCall, fCons, gLen, asB, fRet, gInt, gIx, ha, h]
    show outD (fSeq (f_d_law_cell_0 fuel) (f_d_law_cell_1 fuel) [.fz (.list (ns.map PyData.int)), .fz (.int k)]) = _
    unfold fSeq
    rw [s0]
    rfl
  · refine ⟨0, ?_⟩
    have s0 : f_d_law_cell_0 fuel [.fz (.list (ns.map PyData.int)), .fz (.int k)] = some (.nx [.fz (.list (ns.map PyData.int)), .fz (.int k)]) := by
      unfold f_d_law_cell_0
      simp [fIfS, fB, fOp, fVar, gIB, fCall, fCons, gLen, asB, fRet, gInt, gIx, h, fNext]
    show outD (fSeq (f_d_law_cell_0 fuel) (f_d_law_cell_1 fuel) [.fz (.list (ns.map PyData.int)), .fz (.int k)]) = _
    unfold fSeq
    rw [s0]
    rfl

/-! ### clauses -/
def NM : List D := [.str "x", .str "y", .str "v", .tuple [.str "a"]]
def rg (n : Nat) : List Int := (List.range n).map fun (i : Nat) => (i : Int)
theorem mem_rg {n : Nat} {d : Int} (h0 : 0 ≤ d) (h1 : d < n) : d ∈ rg n := by
  unfold rg
  exact List.mem_map.mpr ⟨d.toNat, List.mem_range.mpr (by omega), by omega⟩
def atom2 (a : Str) (x y : D) : D := .tuple [.str a, .tuple [x, y]]
def BODY (e d : Int) : D :=
  let a := atom2 (Str.ofString "q" ++ Str.ofString (toString e)) (.str "x") (.str "y")
  let b := atom2 (Str.ofString "q" ++ Str.ofString (toString d)) (.str "y") (.str "v")
  if e % 2 = 0 then .tuple [a, b] else .tuple [a, b, atom2 "q2" (.str "x") (.tuple [.str "b"])]
def BODIES : List D := (rg 3).flatMap fun e => (rg 3).map fun d => BODY e d
def okC (w : Int) : Option D → Bool
  | some (.tuple [.tuple ss, b]) => decide ((ss.length : Int) = w) && (ss.all (fun s => NM.any (FL.same s)) && BODIES.any (FL.same b))
  | _ => false
def chk (e d w : Int) : Bool := (rg 4).all fun p => (rg 4).all fun q => (rg 4).all fun r => (rg 4).all fun s => okC w (g_d_law_clause [.list [.int e, .int d, .int p, .int q, .int r, .int s], .int w])
theorem chk_test : okC 3 (g_d_law_clause [.list [.int 1, .int 2, .int 0, .int 1, .int 3, .int 2], .int 3]) = true := by kernel_rfl
end K03
set_option maxHeartbeats 4000000
namespace K03
open PySem PySem.Spec PyProof.Rows L2 FL
def clO (e d p q r s w : Int) : Option D := g_d_law_clause [.list [.int e, .int d, .int p, .int q, .int r, .int s], .int w]
theorem c0 (p q r s : Int) : ((rg 3).all fun e => (rg 3).all fun d => okC 0 (clO e d p q r s 0)) = true := by kernel_rfl
theorem c1 (q r s : Int) : ((rg 3).all fun e => (rg 3).all fun d => (rg 4).all fun p => okC 1 (clO e d p q r s 1)) = true := by kernel_rfl
theorem c2 (r s : Int) : ((rg 3).all fun e => (rg 3).all fun d => (rg 4).all fun p => (rg 4).all fun q => okC 2 (clO e d p q r s 2)) = true := by kernel_rfl
theorem c3 (s : Int) : ((rg 3).all fun e => (rg 3).all fun d => (rg 4).all fun p => (rg 4).all fun q => (rg 4).all fun r => okC 3 (clO e d p q r s 3)) = true := by kernel_rfl
theorem c4 : ((rg 3).all fun e => (rg 3).all fun d => (rg 4).all fun p => (rg 4).all fun q => (rg 4).all fun r => (rg 4).all fun s => okC 4 (clO e d p q r s 4)) = true := by kernel_rfl
theorem clause_chk (e d p q r s w : Int) (he : 0 ≤ e ∧ e < 3) (hd : 0 ≤ d ∧ d < 3) (hp : 0 ≤ p ∧ p < 4) (hq : 0 ≤ q ∧ q < 4) (hr : 0 ≤ r ∧ r < 4) (hs : 0 ≤ s ∧ s < 4) (hw : 0 ≤ w ∧ w < 5) : okC w (clO e d p q r s w) = true := by
  have me := mem_rg (n := 3) he.1 he.2
  have md := mem_rg (n := 3) hd.1 hd.2
  have mp := mem_rg (n := 4) hp.1 hp.2
  have mq := mem_rg (n := 4) hq.1 hq.2
  have mr := mem_rg (n := 4) hr.1 hr.2
  have ms := mem_rg (n := 4) hs.1 hs.2
  have : w = 0 ∨ w = 1 ∨ w = 2 ∨ w = 3 ∨ w = 4 := by omega
  rcases this with h | h | h | h | h <;> rw [h]
  · exact List.all_eq_true.mp (List.all_eq_true.mp (c0 p q r s) e me) d md
  · exact List.all_eq_true.mp (List.all_eq_true.mp (List.all_eq_true.mp (c1 q r s) e me) d md) p mp
  · exact List.all_eq_true.mp (List.all_eq_true.mp (List.all_eq_true.mp (List.all_eq_true.mp (c2 r s) e me) d md) p mp) q mq
  · exact List.all_eq_true.mp (List.all_eq_true.mp (List.all_eq_true.mp (List.all_eq_true.mp (List.all_eq_true.mp (c3 s) e me) d md) p mp) q mq) r mr
  · exact List.all_eq_true.mp (List.all_eq_true.mp (List.all_eq_true.mp (List.all_eq_true.mp (List.all_eq_true.mp (List.all_eq_true.mp c4 e me) d md) p mp) q mq) r mr) s ms
/-- a clause that is drawn: w slots -/
def GoodC (w : Nat) (c : D) : Prop := ∃ ss b, c = .tuple [.tuple ss, b] ∧ ss.length = w ∧ (∀ s ∈ ss, s ∈ NM) ∧ b ∈ BODIES
theorem any_same {l : List D} {x : D} (h : l.any (FL.same x) = true) : x ∈ l := by
  obtain ⟨y, hy, e⟩ := List.any_eq_true.mp h
  rw [same_eq _ _ e]; exact hy
theorem okC_good {w : Nat} {o : Option D} (h : okC (w : Int) o = true) : ∃ c, o = some c ∧ GoodC w c := by
  unfold okC at h
  split at h
  · rename_i ss b
    simp only [Bool.and_eq_true, decide_eq_true_eq] at h
    refine ⟨_, rfl, ss, b, rfl, by omega, fun s hs => any_same (List.all_eq_true.mp h.2.1 s hs), any_same h.2.2⟩
  · cases h
end K03
set_option maxHeartbeats 4000000
namespace K03
open PySem PySem.Spec PyProof.Rows L2 FL
def TG : D := .dict [(.str "q0", .int 2), (.str "q1", .int 2), (.str "q2", .int 2)]
def PROG : D := match g_d_law_program [.list []] with
  | some d => d
  | none => .none
theorem prog_ok : g_d_law_program [.list []] = some PROG := by kernel_rfl
theorem prog_tg : gGet PROG (.str "target") = some TG := by kernel_rfl
theorem allF_all {fg : D → Ro → Option Ro} {fe : Ro → Option D} {ρ0 : Ro} : ∀ xs : List D, (∀ x ∈ xs, ∃ ρ1, fg x ρ0 = some ρ1 ∧ fe ρ1 = some (.bool true)) → allF fg fe ρ0 xs = some true
  | [], _ => rfl
  | x :: xs, h => by
    obtain ⟨ρ1, e1, e2⟩ := h x List.mem_cons_self
    have ih := allF_all xs fun y hy => h y (List.mem_cons_of_mem _ hy)
    unfold allF
    simp only [e1, e2, ih, Option.bind_some, asB, if_pos]
theorem allF_stop {fg : D → Ro → Option Ro} {fe : Ro → Option D} {ρ0 : Ro} (y : D) (post : List D) (hy : ∃ ρ1, fg y ρ0 = some ρ1 ∧ fe ρ1 = some (.bool false)) : ∀ xs : List D, (∀ x ∈ xs, ∃ ρ1, fg x ρ0 = some ρ1 ∧ fe ρ1 = some (.bool true)) → allF fg fe ρ0 (xs ++ y :: post) = some false
  | [], _ => by
    obtain ⟨ρ1, e1, e2⟩ := hy
    show allF fg fe ρ0 (y :: post) = _
    unfold allF
    simp only [e1, e2, Option.bind_some, asB]
    rfl
  | x :: xs, h => by
    obtain ⟨ρ1, e1, e2⟩ := h x List.mem_cons_self
    have ih := allF_stop y post hy xs fun y hy => h y (List.mem_cons_of_mem _ hy)
    show allF fg fe ρ0 (x :: (xs ++ y :: post)) = _
    unfold allF
    simp only [e1, e2, ih, Option.bind_some, asB, if_pos]
theorem eq_ints (n m : Int) : gEq (.int n) (.int m) = some (.bool (decide (n = m))) := by
  unfold gEq
  rw [if_pos ⟨rfl, rfl⟩]
  by_cases h : n = m
  · subst h; simp [PyData.eqv]
  · simp [PyData.eqv, h]
theorem at0 (c : D) (l : List D) : gIx (.tuple (c :: l)) (.int 0) = some c := by
  have h : atI (c :: l) 0 = some c := by
    unfold atI ixN
    rw [if_pos (by omega), if_pos (by simp)]
    rfl
  simp [gIx, h]
/-! ### a clause -/
theorem slot_chk (x0 x1 x2 : En) : (BODIES.all fun b => NM.all fun s => isB true (fOrV (fCall g_is_constant (fCons (fVar 4) (fun _ => some []))) (fCall g_is_variable_of (fCons (fVar 4) (fCons (fVar 3) (fun _ => some [])))) [x0, x1, x2, .fz b, .fz s])) = true := by kernel_rfl
theorem atoms_chk : (BODIES.all fun b => isB true (g_are_atoms [b, TG])) = true := by kernel_rfl
theorem clause_true {w : Nat} {c : D} (h : GoodC w c) (hw : w ≤ 4) : g_is_clause [c, TG] = some (.bool true) := by
  obtain ⟨ss, b, rfl, hl, hs, hb⟩ := h
  have ha := isB_eq (List.all_eq_true.mp atoms_chk b hb)
  unfold g_is_clause
  have s0 : f_is_clause_0 fuel (startR N_is_clause [.tuple [.tuple ss, b], TG]) = some (.nx [.fz (.tuple [.tuple ss, b]), .fz TG, .no, .no, .no]) := rfl
  have s1 : f_is_clause_1 fuel [.fz (.tuple [.tuple ss, b]), .fz TG, .no, .no, .no] = some (.nx [.fz (.tuple [.tuple ss, b]), .fz TG, .fz (.tuple ss), .fz b, .no]) := rfl
  have h4 : ¬ (4 < (ss.length : Int)) := by omega
  have s2 : f_is_clause_2 fuel [.fz (.tuple [.tuple ss, b]), .fz TG, .fz (.tuple ss), .fz b, .no] = some (.nx [.fz (.tuple [.tuple ss, b]), .fz TG, .fz (.tuple ss), .fz b, .no]) := by
    unfold f_is_clause_2
    simp [fIfS, fOr, fNot, fB, fIsi, isTy, tyName, fOp, fCall, fCons, fVar, gLen, gIB, asB, h4, ha, fNext]
  have s3 : f_is_clause_3 fuel [.fz (.tuple [.tuple ss, b]), .fz TG, .fz (.tuple ss), .fz b, .no] = some (.rt (.bool true)) := by
    have e := allF_all (fg := gN 4) (fe := fOrV (fCall g_is_constant (fCons (fVar 4) (fun _ => some []))) (fCall g_is_variable_of (fCons (fVar 4) (fCons (fVar 3) (fun _ => some []))))) (ρ0 := [.fz (.tuple [.tuple ss, b]), .fz TG, .fz (.tuple ss), .fz b, .no]) ss
      fun x hx => ⟨_, rfl, isB_eq (List.all_eq_true.mp (List.all_eq_true.mp (slot_chk (.fz (.tuple [.tuple ss, b])) (.fz TG) (.fz (.tuple ss))) b hb) x (hs x hx))⟩
    show ((allF _ _ [.fz (.tuple [.tuple ss, b]), .fz TG, .fz (.tuple ss), .fz b, .no] ss).map PyData.bool).map Out.rt = _
    rw [e]
    rfl
  refine runF_of rfl ?_
  unfold f_is_clause
  exact (fSeq_nx s0).trans ((fSeq_nx s1).trans ((fSeq_nx s2).trans s3))
/-! ### a question -/
def ρq (cs : List D) : Ro := [.fz (.tuple cs), .fz PROG, .no, .no, .no, .no]
theorem q_0 (c : D) (cs : List D) : f_is_question_0 fuel (startR N_is_question [.tuple (c :: cs), PROG]) = some (.nx (ρq (c :: cs))) := by
  have e : fVar 0 (ρq (c :: cs)) = some (.tuple (c :: cs)) := rfl
  have e2 : startR N_is_question [.tuple (c :: cs), PROG] = ρq (c :: cs) := rfl
  have h : ¬ ((cs.length : Int) + 1 = 0) := by omega
  rw [e2]
  unfold f_is_question_0
  simp [fIfS, fOr, fNot, fB, fIsi, isTy, tyName, fOp, fCall, fCons, e, gLen, asB, eq_ints, h, fNext]
theorem cl_at (cs : List D) (x : D) (k : Bool) (h : g_is_clause [x, TG] = some (.bool k)) : ∃ ρ1, gN 2 x (ρq cs) = some ρ1 ∧ fCall g_is_clause (fCons (fVar 2) (fCons (fOp gGet (fVar 1) (fun _ => some (.str "target"))) (fun _ => some []))) ρ1 = some (.bool k) := by
  refine ⟨_, rfl, ?_⟩
  have e1 : fVar 1 ((ρq cs).set 2 (.fz x)) = some PROG := rfl
  have e2 : fVar 2 ((ρq cs).set 2 (.fz x)) = some x := rfl
  simp [fCall, fCons, fOp, e1, e2, prog_tg, h]
theorem q_1t (cs : List D) (h : ∀ x ∈ cs, g_is_clause [x, TG] = some (.bool true)) : f_is_question_1 fuel (ρq cs) = some (.nx (ρq cs)) := by
  have e := allF_all (fg := gN 2) (ρ0 := ρq cs) cs fun x hx => cl_at cs x true (h x hx)
  have e2 : fAll [2] (fSq seqT (fVar 0)) (gN 2) (fCall g_is_clause (fCons (fVar 2) (fCons (fOp gGet (fVar 1) (fun _ => some (.str "target"))) (fun _ => some [])))) (ρq cs) = some (.bool true) := by
    show (allF _ _ (ρq cs) cs).map PyData.bool = _
    rw [e]
    rfl
  unfold f_is_question_1
  simp [fIfS, fNot, fB, e2, asB, fNext]
theorem q_1f (pre : List D) (y : D) (post : List D) (h : ∀ x ∈ pre, g_is_clause [x, TG] = some (.bool true)) (hy : g_is_clause [y, TG] = some (.bool false)) : f_is_question_1 fuel (ρq (pre ++ y :: post)) = some (.rt (.bool false)) := by
  have e := allF_stop (fg := gN 2) (ρ0 := ρq (pre ++ y :: post)) y post (cl_at _ y false hy) pre fun x hx => cl_at _ x true (h x hx)
  have e2 : fAll [2] (fSq seqT (fVar 0)) (gN 2) (fCall g_is_clause (fCons (fVar 2) (fCons (fOp gGet (fVar 1) (fun _ => some (.str "target"))) (fun _ => some [])))) (ρq (pre ++ y :: post)) = some (.bool false) := by
    show (allF _ _ (ρq (pre ++ y :: post)) (pre ++ y :: post)).map PyData.bool = _
    rw [e]
    rfl
  unfold f_is_question_1
  simp [fIfS, fNot, fB, e2, asB, fRet]
theorem question_no (pre : List D) (y : D) (post : List D) (h : ∀ x ∈ pre, g_is_clause [x, TG] = some (.bool true)) (hy : g_is_clause [y, TG] = some (.bool false)) : g_is_question [.tuple (pre ++ y :: post), PROG] = some (.bool false) := by
  unfold g_is_question
  refine runF_of rfl ?_
  unfold f_is_question
  obtain ⟨c, cs, e⟩ : ∃ c cs, pre ++ y :: post = c :: cs := by
    cases pre with
    | nil => exact ⟨_, _, rfl⟩
    | cons c cs => exact ⟨_, _, rfl⟩
  have s0 := q_0 c cs
  rw [← e] at s0
  exact (fSeq_nx s0).trans (fSeq_rt (q_1f pre y post h hy))
def ρw (cs : List D) (n : Int) : Ro := [.fz (.tuple cs), .fz PROG, .no, .fz (.int n), .no, .no]
theorem q_2 (ss : List D) (b : D) (cs : List D) : f_is_question_2 fuel (ρq (.tuple [.tuple ss, b] :: cs)) = some (.nx (ρw (.tuple [.tuple ss, b] :: cs) ss.length)) := by
  have e : fVar 0 (ρq (.tuple [.tuple ss, b] :: cs)) = some (.tuple (.tuple [.tuple ss, b] :: cs)) := rfl
  unfold f_is_question_2
  simp [fSet, fCall, fCons, fOp, e, at0, gLen]
  rfl
theorem ln_at (cs : List D) (n : Int) (ss : List D) (b : D) : ∃ ρ1, gT 2 (gsC (gN 4) (gsC (gN 5) gsN)) (.tuple [.tuple ss, b]) (ρw cs n) = some ρ1 ∧ fOp gEq (fCall gLen (fCons (fVar 4) (fun _ => some []))) (fVar 3) ρ1 = some (.bool (decide ((ss.length : Int) = n))) := by
  refine ⟨[.fz (.tuple cs), .fz PROG, .no, .fz (.int n), .fz (.tuple ss), .fz b], rfl, ?_⟩
  simp [fOp, fCall, fCons, fVar, gLen, eq_ints]
theorem question_yes {w : Nat} (c : D) (cs : List D) (h : ∀ x ∈ c :: cs, GoodC w x) (hw : w ≤ 4) : g_is_question [.tuple (c :: cs), PROG] = some (.bool true) := by
  obtain ⟨ss, b, rfl, hl, _, _⟩ := h c List.mem_cons_self
  unfold g_is_question
  refine runF_of rfl ?_
  unfold f_is_question
  have s1 := q_1t (.tuple [.tuple ss, b] :: cs) fun x hx => clause_true (h x hx) hw
  have s3 : f_is_question_3 fuel (ρw (.tuple [.tuple ss, b] :: cs) ss.length) = some (.rt (.bool true)) := by
    have e := allF_all (fg := gT 2 (gsC (gN 4) (gsC (gN 5) gsN))) (fe := fOp gEq (fCall gLen (fCons (fVar 4) (fun _ => some []))) (fVar 3)) (ρ0 := ρw (.tuple [.tuple ss, b] :: cs) ss.length) (.tuple [.tuple ss, b] :: cs) fun x hx => by
      obtain ⟨ss', b', rfl, hl', _, _⟩ := h x hx
      obtain ⟨ρ1, e1, e2⟩ := ln_at (.tuple [.tuple ss, b] :: cs) ss.length ss' b'
      refine ⟨ρ1, e1, ?_⟩
      rw [e2, decide_eq_true (by omega)]
    show ((allF _ _ (ρw _ _) _).map PyData.bool).map Out.rt = _
    rw [e]
    rfl
  exact (fSeq_nx (q_0 _ cs)).trans ((fSeq_nx s1).trans ((fSeq_nx (q_2 ss b cs)).trans s3))
theorem question_len {w v : Nat} (c : D) (cs : List D) (y : D) (h : ∀ x ∈ c :: cs, GoodC w x) (hw : w ≤ 4) (hy : GoodC v y) (hv : v ≤ 4) (hne : v ≠ w) : g_is_question [.tuple ((c :: cs) ++ [y]), PROG] = some (.bool false) := by
  obtain ⟨ss, b, rfl, hl, _, _⟩ := h c List.mem_cons_self
  unfold g_is_question
  refine runF_of rfl ?_
  unfold f_is_question
  have s1 := q_1t ((.tuple [.tuple ss, b] :: cs) ++ [y]) fun x hx => by
    rcases List.mem_append.mp hx with hx | hx
    · exact clause_true (h x hx) hw
    · rw [List.mem_singleton.mp hx]; exact clause_true hy hv
  have s3 : f_is_question_3 fuel (ρw ((.tuple [.tuple ss, b] :: cs) ++ [y]) ss.length) = some (.rt (.bool false)) := by
    have e := allF_stop (fg := gT 2 (gsC (gN 4) (gsC (gN 5) gsN))) (fe := fOp gEq (fCall gLen (fCons (fVar 4) (fun _ => some []))) (fVar 3)) (ρ0 := ρw ((.tuple [.tuple ss, b] :: cs) ++ [y]) ss.length) y [] (by
      obtain ⟨ss', b', rfl, hl', _, _⟩ := hy
      obtain ⟨ρ1, e1, e2⟩ := ln_at ((.tuple [.tuple ss, b] :: cs) ++ [.tuple [.tuple ss', b']]) ss.length ss' b'
      refine ⟨ρ1, e1, ?_⟩
      rw [e2, decide_eq_false (by omega)]) (.tuple [.tuple ss, b] :: cs) fun x hx => by
      obtain ⟨ss', b', rfl, hl', _, _⟩ := h x hx
      obtain ⟨ρ1, e1, e2⟩ := ln_at ((.tuple [.tuple ss, b] :: cs) ++ [y]) ss.length ss' b'
      refine ⟨ρ1, e1, ?_⟩
      rw [e2, decide_eq_true (by omega)]
    show ((allF _ _ (ρw _ _) _).map PyData.bool).map Out.rt = _
    rw [e]
    rfl
  exact (fSeq_nx (q_0 _ (cs ++ [y]))).trans ((fSeq_nx s1).trans ((fSeq_nx (q_2 ss b (cs ++ [y]))).trans s3))
end K03
set_option maxHeartbeats 4000000
namespace K03
open PySem PySem.Spec PyProof.Rows L2 FL
/-! ### the questions that are drawn -/
theorem list8 {α : Type} {l : List α} (h : l.length = 8) : ∃ a b c d e f g k, l = [a, b, c, d, e, f, g, k] := by
  match l, h with
  | [a, b, c, d, e, f, g, k], _ => exact ⟨a, b, c, d, e, f, g, k, rfl⟩
theorem question_ok (c : Int) : ∃ (w : Nat) (c0 : D) (cs : List D), w ≤ 4 ∧ g_d_law_question [.int c] = some (.tuple (c0 :: cs)) ∧ (∀ x ∈ c0 :: cs, GoodC w x) ∧ cs.length ≤ 2 := by
  obtain ⟨ds, e, hl, hr⟩ := digits_ok c [3, 5, 3, 3, 4, 4, 4, 4] (by decide) (by decide)
  obtain ⟨d0, d1, d2, d3, d4, d5, d6, d7, rfl⟩ := list8 hl
  have h0 := hr 0 _ _ rfl rfl
  have h1 := hr 1 _ _ rfl rfl
  have h2 := hr 2 _ _ rfl rfl
  have h3 := hr 3 _ _ rfl rfl
  have h4 := hr 4 _ _ rfl rfl
  have h5 := hr 5 _ _ rfl rfl
  have h6 := hr 6 _ _ rfl rfl
  have h7 := hr 7 _ _ rfl rfl
  have s0 : f_d_law_question_0 fuel (startR N_d_law_question [.int c]) = some (.nx [.fz (.int c), .fz (.list [.int d0, .int d1, .int d2, .int d3, .int d4, .int d5, .int d6, .int d7]), .no, .no]) := by
    have e' : fCall g_d_law_digits (fCons (fVar 0) (fCons (fL (fLst (fCons (fun _ => some (.int 3)) (fCons (fun _ => some (.int 5)) (fCons (fun _ => some (.int 3)) (fCons (fun _ => some (.int 3)) (fCons (fun _ => some (.int 4)) (fCons (fun _ => some (.int 4)) (fCons (fun _ => some (.int 4)) (fCons (fun _ => some (.int 4)) (fun _ => some []))))))))))) (fun _ => some []))) (startR N_d_law_question [.int c]) = some (.list [.int d0, .int d1, .int d2, .int d3, .int d4, .int d5, .int d6, .int d7]) := e
    unfold f_d_law_question_0 fSet
    rw [e']
    rfl
  have s1 : f_d_law_question_1 fuel [.fz (.int c), .fz (.list [.int d0, .int d1, .int d2, .int d3, .int d4, .int d5, .int d6, .int d7]), .no, .no] = some (.nx [.fz (.int c), .fz (.list [.int d0, .int d1, .int d2, .int d3, .int d4, .int d5, .int d6, .int d7]), .fz (.int d1), .no]) := rfl
  have turn : ∀ x ∈ rngN (1 + d0), ∃ ρ1 d, gN 3 x (wipeR [.fz (.int c), .fz (.list [.int d0, .int d1, .int d2, .int d3, .int d4, .int d5, .int d6, .int d7]), .fz (.int d1), .no] [3]) = some ρ1 ∧ fYes ρ1 = some true ∧
      fCall g_d_law_clause (fCons (fL (fCatL (fL (fLst (fCons (fOp gMod (fOp gAdd (fOp gIx (fVar 1) (fun _ => some (.int 2))) (fVar 3)) (fun _ => some (.int 3))) (fCons (fOp gIx (fVar 1) (fun _ => some (.int 3))) (fun _ => some []))))) (fL (fSlL (fVar 1) (fPt (fun _ => some (.int 4))) fNo)))) (fCons (fVar 2) (fun _ => some []))) ρ1 = some d ∧ GoodC d1.toNat d := by
    intro x hx
    unfold rngN at hx
    obtain ⟨k, hk, rfl⟩ := List.mem_map.mp hx
    have ok := clause_chk ((d2 + k) % 3) d3 d4 d5 d6 d7 d1 ⟨Int.emod_nonneg _ (by omega), Int.emod_lt_of_pos _ (by omega)⟩ h3 h4 h5 h6 h7 h1
    rw [show okC d1 = okC ((d1.toNat : Nat) : Int) by rw [Int.toNat_of_nonneg h1.1]] at ok
    obtain ⟨cl, e1, g1⟩ := okC_good ok
    exact ⟨_, cl, rfl, rfl, e1, g1⟩
  have hml : (rngN (1 + d0)).length = (1 + d0).toNat := by unfold rngN; simp
  obtain ⟨cs, e1, l1, g1⟩ := lc_all (GoodC d1.toNat) (rngN (1 + d0)) [] turn (by rw [hml]; simp; omega)
  rw [hml] at l1
  rw [List.nil_append] at e1
  have hrg : fRng (fCons (fOp gAdd (fun _ => some (.int 1)) (fOp gIx (fVar 1) (fun _ => some (.int 0)))) (fun _ => some [])) [.fz (.int c), .fz (.list [.int d0, .int d1, .int d2, .int d3, .int d4, .int d5, .int d6, .int d7]), .fz (.int d1), .no] = some (rngN (1 + d0)) := by
    show seqR [.int (1 + d0)] = _
    unfold seqR
    exact if_pos (by omega)
  have s2 : f_d_law_question_2 fuel [.fz (.int c), .fz (.list [.int d0, .int d1, .int d2, .int d3, .int d4, .int d5, .int d6, .int d7]), .fz (.int d1), .no] = some (.rt (.tuple cs)) := by
    unfold f_d_law_question_2
    simp only [fRet, fCall, fCons, fL, fLc, hrg, Option.bind_some, Option.map_some]
    rw [show lcF (gN 3) fYes _ _ (rngN (1 + d0)) [] = some cs from e1]
    rfl
  cases cs with
  | nil => simp at l1; omega
  | cons c0 cs =>
    refine ⟨d1.toNat, c0, cs, by omega, ?_, g1, by rw [List.length_cons] at l1; omega⟩
    unfold g_d_law_question
    refine runF_of rfl ?_
    unfold f_d_law_question
    exact (fSeq_nx s0).trans ((fSeq_nx s1).trans s2)
end K03
set_option maxHeartbeats 4000000
namespace K03
open PySem PySem.Spec PyProof.Rows L2 FL
/-! ### the spoiled ones -/
theorem body_tup {b : D} (h : b ∈ BODIES) : ∃ bs, b = .tuple bs := by
  have k : (BODIES.all fun b => match b with | .tuple _ => true | _ => false) = true := by kernel_rfl
  have := List.all_eq_true.mp k b h
  split at this
  · exact ⟨_, rfl⟩
  · cases this
abbrev sx : D := .str "x"
def bads (q ss bs : List D) : List D := [.tuple [], .list q, .tuple (q ++ [.tuple [.tuple (ss ++ [sx]), .tuple bs]]), .tuple (q.drop 1 ++ [.tuple [.tuple ss, .tuple []]]), .tuple [.tuple [.tuple [sx, sx, sx, sx, sx], .tuple bs]],
  .tuple [.tuple [.tuple [.str "u"], .tuple bs]], .tuple [.tuple [.tuple [.tuple [.str "A"]], .tuple bs]], .tuple [.tuple [.tuple [sx], .tuple [.tuple [.str "s", .tuple [sx, .str "y"]]]]], .tuple [.tuple [.list ss, .tuple bs]], .tuple [.tuple bs],
  .tuple [.tuple [.tuple [sx], .list bs]], .none, .int 5, .tuple [.tuple [sx, .tuple bs]], .tuple [.tuple [.tuple ss, .tuple bs, .tuple []]]]
theorem spoil_0 (ss : List D) (b : D) (cs : List D) (hc : cs.length ≤ 2) (m : En) : f_d_law_spoiled_0 fuel [.fz (.tuple (.tuple [.tuple ss, b] :: cs)), m, .no, .no, .no] = some (.nx [.fz (.tuple (.tuple [.tuple ss, b] :: cs)), m, .fz (.tuple ss), .fz b, .no]) := by
  rcases cs with _ | ⟨a, _ | ⟨b', _ | ⟨c, cs⟩⟩⟩
  · rfl
  · rfl
  · rfl
  · simp at hc
theorem spoil_1 (q ss bs : List D) (hq : 1 ≤ q.length ∧ q.length ≤ 3) (hs : ss.length ≤ 4) (m : En) : f_d_law_spoiled_1 fuel [.fz (.tuple q), m, .fz (.tuple ss), .fz (.tuple bs), .no] = some (.nx [.fz (.tuple q), m, .fz (.tuple ss), .fz (.tuple bs), .fz (.list (bads q ss bs))]) := by
  rcases q with _ | ⟨a, _ | ⟨b, _ | ⟨c, _ | ⟨d, q⟩⟩⟩⟩
  · simp at hq
  · rcases ss with _ | ⟨s1, _ | ⟨s2, _ | ⟨s3, _ | ⟨s4, _ | ⟨s5, ss⟩⟩⟩⟩⟩ <;> first | (exfalso; simp at hs; done) | kernel_rfl
  · rcases ss with _ | ⟨s1, _ | ⟨s2, _ | ⟨s3, _ | ⟨s4, _ | ⟨s5, ss⟩⟩⟩⟩⟩ <;> first | (exfalso; simp at hs; done) | kernel_rfl
  · rcases ss with _ | ⟨s1, _ | ⟨s2, _ | ⟨s3, _ | ⟨s4, _ | ⟨s5, ss⟩⟩⟩⟩⟩ <;> first | (exfalso; simp at hs; done) | kernel_rfl
  · exfalso; simp at hq
def singles : D → List D
  | .tuple bs => [.tuple [.tuple [sx, sx, sx, sx, sx], .tuple bs], .tuple [.tuple [.str "u"], .tuple bs], .tuple [.tuple [.tuple [.str "A"]], .tuple bs], .tuple bs, .tuple [.tuple [sx], .list bs], .tuple [sx, .tuple bs]]
  | _ => []
theorem sing_chk : (BODIES.all fun b => (singles b).all fun y => isB false (g_is_clause [y, TG])) = true := by kernel_rfl
theorem sing7 : isB false (g_is_clause [.tuple [.tuple [sx], .tuple [.tuple [.str "s", .tuple [sx, .str "y"]]]], TG]) = true := by kernel_rfl
theorem sing8 (ss b : D) (l : List D) : isB false (g_is_clause [.tuple [.list l, b], TG]) = true := by kernel_rfl
theorem sing14 (a b c : D) : isB false (g_is_clause [.tuple [a, b, c], TG]) = true := by kernel_rfl
theorem no_q0 : isB false (g_is_question [.tuple [], PROG]) = true := by kernel_rfl
theorem no_q1 (l : List D) : isB false (g_is_question [.list l, PROG]) = true := by kernel_rfl
theorem no_q11 : isB false (g_is_question [.none, PROG]) = true := by kernel_rfl
theorem no_q12 : isB false (g_is_question [.int 5, PROG]) = true := by kernel_rfl
theorem no_body (ss : List D) (hs : ss.length ≤ 4) : g_is_clause [.tuple [.tuple ss, .tuple []], TG] = some (.bool false) := by
  refine isB_eq ?_
  rcases ss with _ | ⟨s1, _ | ⟨s2, _ | ⟨s3, _ | ⟨s4, _ | ⟨s5, ss⟩⟩⟩⟩⟩ <;> first | (exfalso; simp at hs; done) | kernel_rfl
theorem five (s1 s2 s3 s4 s5 b : D) : isB false (g_is_clause [.tuple [.tuple [s1, s2, s3, s4, s5], b], TG]) = true := by kernel_rfl
theorem one_no (y : D) (h : g_is_clause [y, TG] = some (.bool false)) : g_is_question [.tuple [y], PROG] = some (.bool false) := question_no [] y [] (fun _ h => by cases h) h
theorem bads_no {w : Nat} (hw : w ≤ 4) (ss bs cs : List D) (hg : ∀ x ∈ .tuple [.tuple ss, .tuple bs] :: cs, GoodC w x) (hl : ss.length = w) (hss : ∀ s ∈ ss, s ∈ NM) (hb : (.tuple bs : D) ∈ BODIES) : ∀ s ∈ bads (.tuple [.tuple ss, .tuple bs] :: cs) ss bs, g_is_question [s, PROG] = some (.bool false) := by
  have sing : ∀ y ∈ singles (.tuple bs), g_is_question [.tuple [y], PROG] = some (.bool false) := fun y hy => one_no y (isB_eq (List.all_eq_true.mp (List.all_eq_true.mp sing_chk _ hb) y hy))
  have cl : ∀ x ∈ .tuple [.tuple ss, .tuple bs] :: cs, g_is_clause [x, TG] = some (.bool true) := fun x hx => clause_true (hg x hx) hw
  intro s hs
  unfold bads at hs
  simp only [List.mem_cons, List.not_mem_nil, or_false] at hs
  rcases hs with rfl | rfl | rfl | rfl | rfl | rfl | rfl | rfl | rfl | rfl | rfl | rfl | rfl | rfl | rfl
  · exact isB_eq no_q0
  · exact isB_eq (no_q1 _)
  · by_cases h4 : w = 4
    · obtain ⟨s1, s2, s3, s4, rfl⟩ : ∃ s1 s2 s3 s4, ss = [s1, s2, s3, s4] := by
        match ss, (hl.trans h4) with
        | [a, b, c, d], _ => exact ⟨a, b, c, d, rfl⟩
      exact question_no _ _ [] cl (isB_eq (five s1 s2 s3 s4 sx (.tuple bs)))
    · exact question_len (v := w + 1) _ _ _ hg hw ⟨ss ++ [sx], .tuple bs, rfl, by rw [List.length_append, hl]; rfl, fun s hs => by
        rcases List.mem_append.mp hs with hs | hs
        · exact hss s hs
        · rw [List.mem_singleton.mp hs]; exact List.mem_cons_self, hb⟩ (by omega) (by omega)
  · exact question_no cs _ [] (fun x hx => cl x (List.mem_cons_of_mem _ hx)) (no_body ss (by omega))
  · exact sing _ (by simp [singles])
  · exact sing _ (by simp [singles])
  · exact sing _ (by simp [singles])
  · exact one_no _ (isB_eq sing7)
  · exact one_no _ (isB_eq (sing8 .none _ _))
  · exact sing _ (by simp [singles])
  · exact sing _ (by simp [singles])
  · exact isB_eq no_q11
  · exact isB_eq no_q12
  · exact sing _ (by simp [singles])
  · exact one_no _ (isB_eq (sing14 _ _ _))
theorem bads_len (q ss bs : List D) : (bads q ss bs).length = 15 := rfl
theorem spoil {w : Nat} (hw : w ≤ 4) (c0 : D) (cs : List D) (hc : cs.length ≤ 2) (hg : ∀ x ∈ c0 :: cs, GoodC w x) (m : Int) : ∃ s, g_d_law_spoiled [.tuple (c0 :: cs), .int m] = some s ∧ g_is_question [s, PROG] = some (.bool false) := by
  obtain ⟨ss, b, rfl, hl, hss, hb⟩ := hg c0 List.mem_cons_self
  obtain ⟨bs, rfl⟩ := body_tup hb
  generalize hB : bads (.tuple [.tuple ss, .tuple bs] :: cs) ss bs = B
  have len : B.length = 15 := by rw [← hB]; rfl
  have h0 : 0 ≤ m % 15 := Int.emod_nonneg _ (by decide)
  have h1 : m % 15 < 15 := Int.emod_lt_of_pos _ (by decide)
  have hi : (m % 15).toNat < B.length := by rw [len]; omega
  have ha : atI B (m % 15) = some B[(m % 15).toNat] := by
    unfold atI ixN
    rw [if_pos h0, if_pos (by rw [len]; exact h1)]
    exact List.getElem?_eq_getElem hi
  refine ⟨B[(m % 15).toNat], ?_, bads_no hw ss bs cs hg hl hss hb _ (by rw [hB]; exact List.getElem_mem hi)⟩
  have s1 := spoil_1 (.tuple [.tuple ss, .tuple bs] :: cs) ss bs ⟨by simp, by rw [List.length_cons]; omega⟩ (by omega) (.fz (.int m))
  rw [hB] at s1
  have s2 : f_d_law_spoiled_2 fuel [.fz (.tuple (.tuple [.tuple ss, .tuple bs] :: cs)), .fz (.int m), .fz (.tuple ss), .fz (.tuple bs), .fz (.list B)] = some (.rt B[(m % 15).toNat]) := by
    unfold f_d_law_spoiled_2
    simp [fRet, fOp, fVar, gMod, gI, cMod, fCall, fCons, gLen, len, gIx, ha]
  unfold g_d_law_spoiled
  refine runF_of rfl ?_
  unfold f_d_law_spoiled
  exact (fSeq_nx (spoil_0 ss (.tuple bs) cs hc (.fz (.int m)))).trans ((fSeq_nx s1).trans s2)
/-! ### the law -/
abbrev scr (ns : List Int) : D := .list (ns.map PyData.int)
theorem mul4 (k : Int) : cMul 4 k = true := by
  unfold cMul
  rw [decide_eq_true (show -(2 ^ 64) < (4 : Int) ∧ (4 : Int) < 2 ^ 64 by decide), Bool.true_or]
theorem inner (ns : List Int) (k : Nat) (n : Int) {w : Nat} (hw : w ≤ 4) (c0 : D) (cs : List D) (hc : cs.length ≤ 2) (hg : ∀ x ∈ c0 :: cs, GoodC w x) (x5 : En) : ∃ y5, f_law_body1 fuel [.fz (scr ns), .fz PROG, .fz (.int k), .fz (.tuple (c0 :: cs)), .fz (.int n), x5] = some (.nx [.fz (scr ns), .fz PROG, .fz (.int k), .fz (.tuple (c0 :: cs)), .fz (.int n), y5]) := by
  obtain ⟨z, e5⟩ := cell_ok ns k
  obtain ⟨s, e6, e7⟩ := spoil hw c0 cs hc hg (z + 4 * k + n)
  refine ⟨.fz s, ?_⟩
  have tf : gIsNot (.bool false) (.bool false) = some (.bool false) := rfl
  unfold f_law_body1
  have hm := mul4 (k : Int)
  simp [fSeq, fSet, fIfS, fB, fOp, fCall, fCons, fVar, e5, gInt, gI0, gI, hm, e6, e7, tf, asB, fNext]
theorem outer (ns : List Int) (k : Nat) (x3 x4 x5 : En) : ∃ y3 y4 y5, f_law_body2 fuel [.fz (scr ns), .fz PROG, .fz (.int k), x3, x4, x5] = some (.nx [.fz (scr ns), .fz PROG, .fz (.int k), y3, y4, y5]) := by
  obtain ⟨z, e5⟩ := cell_ok ns k
  obtain ⟨w, c0, cs, hw, e6, hg, hc⟩ := question_ok (z + k)
  have e7 := question_yes c0 cs hg hw
  have go := loop_inv (fg := gN 4) (fb := f_law_body1 fuel) (fun ρ => ∃ y4 y5, ρ = [.fz (scr ns), .fz PROG, .fz (.int k), .fz (.tuple (c0 :: cs)), y4, y5]) (rngN 4)
    (fun u hu ρ ⟨y4, y5, hρ⟩ => by
      unfold rngN at hu
      obtain ⟨n, _, rfl⟩ := List.mem_map.mp hu
      obtain ⟨z5, e⟩ := inner ns k n hw c0 cs hc hg y5
      exact ⟨[.fz (scr ns), .fz PROG, .fz (.int k), .fz (.tuple (c0 :: cs)), .fz (.int n), y5], _, by rw [hρ]; rfl, .inl e, _, _, rfl⟩)
    [.fz (scr ns), .fz PROG, .fz (.int k), .fz (.tuple (c0 :: cs)), x4, x5] ⟨_, _, rfl⟩
  obtain ⟨ρ', e8, y4, y5, rfl⟩ := go
  refine ⟨.fz (.tuple (c0 :: cs)), y4, y5, ?_⟩
  have tt : gIsNot (.bool true) (.bool true) = some (.bool false) := rfl
  unfold f_law_body2
  have t1 : fSet 3 (fCall g_d_law_question (fCons (fOp gAdd (fCall g_d_law_cell (fCons (fVar 0) (fCons (fVar 2) (fun _ => some [])))) (fVar 2)) (fun _ => some []))) [.fz (scr ns), .fz PROG, .fz (.int k), x3, x4, x5] = some (.nx [.fz (scr ns), .fz PROG, .fz (.int k), .fz (.tuple (c0 :: cs)), x4, x5]) := by
    simp [fSet, fOp, fCall, fCons, fVar, e5, gI0, e6]
  have t2 : fIfS (fB (fOp gIsNot (fCall g_is_question (fCons (fVar 3) (fCons (fVar 1) (fun _ => some [])))) (fun _ => some (.bool true)))) (fRet (fun _ => some (.bool false))) fNext [.fz (scr ns), .fz PROG, .fz (.int k), .fz (.tuple (c0 :: cs)), x4, x5] = some (.nx [.fz (scr ns), .fz PROG, .fz (.int k), .fz (.tuple (c0 :: cs)), x4, x5]) := by
    simp [fIfS, fB, fOp, fCall, fCons, fVar, e7, tt, asB, fNext]
  have t3 : fFor (fRng (fCons (fun _ => some (.int 4)) (fun _ => some []))) (gN 4) (f_law_body1 fuel) [.fz (scr ns), .fz PROG, .fz (.int k), .fz (.tuple (c0 :: cs)), x4, x5] = some (.nx [.fz (scr ns), .fz PROG, .fz (.int k), .fz (.tuple (c0 :: cs)), y4, y5]) := by
    have hr : fRng (fCons (fun _ => some (.int 4)) (fun _ => some [])) [.fz (scr ns), .fz PROG, .fz (.int k), .fz (.tuple (c0 :: cs)), x4, x5] = some (rngN 4) := rfl
    unfold fFor
    rw [hr, Option.bind_some]
    exact e8
  simp only [fSeq, t1, t2, t3, Option.bind_some]
theorem rng0 (ns : List Int) (x1 x2 x3 x4 x5 : En) : ∃ m : Nat, fRng (fCons (fOp gAdd (fun _ => some (.int 1)) (fCall gMin2 (fCons (fCall gLen (fCons (fVar 0) (fun _ => some []))) (fCons (fun _ => some (.int 6)) (fun _ => some []))))) (fun _ => some [])) [.fz (scr ns), x1, x2, x3, x4, x5] = some (rngN m) := by
  have e : fVar 0 [.fz (scr ns), x1, x2, x3, x4, x5] = some (scr ns) := rfl
  by_cases h10 : (6 : Int) < (ns.length : Int)
  · refine ⟨7, fRng_of ?_ (by omega)⟩
    simp [fCons, fOp, fCall, e, gLen, gMin2, gI0, h10]
  · refine ⟨1 + ns.length, fRng_of ?_ (by omega)⟩
    simp [fCons, fOp, fCall, e, gLen, gMin2, gI0, h10]
theorem loop0 (ns : List Int) : ∃ x2 x3 x4 x5, f_law_1 fuel [.fz (scr ns), .fz PROG, .no, .no, .no, .no] = some (.nx [.fz (scr ns), .fz PROG, x2, x3, x4, x5]) := by
  obtain ⟨m, hr⟩ := rng0 ns (.fz PROG) .no .no .no .no
  have go := loop_inv (fg := gN 2) (fb := f_law_body2 fuel) (fun ρ => ∃ x2 x3 x4 x5, ρ = [.fz (scr ns), .fz PROG, x2, x3, x4, x5]) (rngN m)
    (fun u hu ρ ⟨x2, x3, x4, x5, hρ⟩ => by
      unfold rngN at hu
      obtain ⟨k, hk, rfl⟩ := List.mem_map.mp hu
      obtain ⟨y3, y4, y5, e⟩ := outer ns k x3 x4 x5
      exact ⟨[.fz (scr ns), .fz PROG, .fz (.int k), x3, x4, x5], _, by rw [hρ]; rfl, .inl e, _, _, _, _, rfl⟩)
    [.fz (scr ns), .fz PROG, .no, .no, .no, .no] ⟨_, _, _, _, rfl⟩
  obtain ⟨ρ', e2, x2, x3, x4, x5, rfl⟩ := go
  refine ⟨x2, x3, x4, x5, ?_⟩
  unfold f_law_1 fFor
  rw [hr, Option.bind_some]
  exact e2
theorem law_true (ns : List Int) (hn : ns.length ≤ 63) : g_law [scr ns] = some (.bool true) := by
  have s0 : f_law_0 fuel (startR N_law [scr ns]) = some (.nx [.fz (scr ns), .fz PROG, .no, .no, .no, .no]) := by
    have e : fCall g_d_law_program (fCons (fL (fLst (fun _ => some []))) (fun _ => some [])) (startR N_law [scr ns]) = some PROG := prog_ok
    unfold f_law_0 fSet
    rw [e]
    rfl
  obtain ⟨x2, x3, x4, x5, s1⟩ := loop0 ns
  have s2 : f_law_2 fuel [.fz (scr ns), .fz PROG, x2, x3, x4, x5] = some (.rt (.bool true)) := rfl
  refine runF_of rfl ?_
  unfold f_law
  exact (fSeq_nx s0).trans ((fSeq_nx s1).trans s2)
end K03
set_option maxHeartbeats 0
namespace K03
open PySem PySem.Spec PyProof.Rows L2 FL
def dd_d_law_program : He.DefD := ⟨("_law_program", none), "_law_program", "_law_program", defArgs s_d_law_program, defBody s_d_law_program, defScope s_d_law_program, [], []⟩
def dd_d_law_digits : He.DefD := ⟨("_law_digits", none), "_law_digits", "_law_digits", defArgs s_d_law_digits, defBody s_d_law_digits, defScope s_d_law_digits, [], []⟩
def dd_d_law_clause : He.DefD := ⟨("_law_clause", none), "_law_clause", "_law_clause", defArgs s_d_law_clause, defBody s_d_law_clause, defScope s_d_law_clause, [], []⟩
def dd_d_law_question : He.DefD := ⟨("_law_question", none), "_law_question", "_law_question", defArgs s_d_law_question, defBody s_d_law_question, defScope s_d_law_question, [], []⟩
def dd_d_law_cell : He.DefD := ⟨("_law_cell", none), "_law_cell", "_law_cell", defArgs s_d_law_cell, defBody s_d_law_cell, defScope s_d_law_cell, [], []⟩
def dd_is_name : He.DefD := ⟨("is_name", none), "is_name", "is_name", defArgs s_is_name, defBody s_is_name, defScope s_is_name, [], []⟩
def dd_is_constant : He.DefD := ⟨("is_constant", none), "is_constant", "is_constant", defArgs s_is_constant, defBody s_is_constant, defScope s_is_constant, [], []⟩
def dd_is_variable : He.DefD := ⟨("is_variable", none), "is_variable", "is_variable", defArgs s_is_variable, defBody s_is_variable, defScope s_is_variable, [], []⟩
def dd_is_slot : He.DefD := ⟨("is_slot", none), "is_slot", "is_slot", defArgs s_is_slot, defBody s_is_slot, defScope s_is_slot, [], []⟩
def dd_is_atom : He.DefD := ⟨("is_atom", none), "is_atom", "is_atom", defArgs s_is_atom, defBody s_is_atom, defScope s_is_atom, [], []⟩
def dd_are_atoms : He.DefD := ⟨("are_atoms", none), "are_atoms", "are_atoms", defArgs s_are_atoms, defBody s_are_atoms, defScope s_are_atoms, [], []⟩
def dd_variables_of : He.DefD := ⟨("variables_of", none), "variables_of", "variables_of", defArgs s_variables_of, defBody s_variables_of, defScope s_variables_of, [], []⟩
def dd_is_variable_of : He.DefD := ⟨("is_variable_of", none), "is_variable_of", "is_variable_of", defArgs s_is_variable_of, defBody s_is_variable_of, defScope s_is_variable_of, [], []⟩
def dd_is_clause : He.DefD := ⟨("is_clause", none), "is_clause", "is_clause", defArgs s_is_clause, defBody s_is_clause, defScope s_is_clause, [], []⟩
def dd_is_question : He.DefD := ⟨("is_question", none), "is_question", "is_question", defArgs s_is_question, defBody s_is_question, defScope s_is_question, [], []⟩
def dd_d_law_spoiled : He.DefD := ⟨("_law_spoiled", none), "_law_spoiled", "_law_spoiled", defArgs s_d_law_spoiled, defBody s_d_law_spoiled, defScope s_d_law_spoiled, [], []⟩
def dd_law : He.DefD := ⟨("law", none), "law", "law", defArgs s_law, defBody s_law, defScope s_law, [], []⟩
def fn : List He.DefD := [dd_d_law_program, dd_d_law_digits, dd_d_law_clause, dd_d_law_question, dd_d_law_cell, dd_is_name, dd_is_constant, dd_is_variable, dd_is_slot, dd_is_atom, dd_are_atoms, dd_variables_of, dd_is_variable_of, dd_is_clause, dd_is_question, dd_d_law_spoiled, dd_law]
def fa : List He.Fa := [.glo "_law_program", .glo "_law_digits", .glo "_law_clause", .glo "_law_question", .glo "_law_cell", .glo "is_name", .glo "is_constant", .glo "is_variable", .glo "is_slot", .glo "is_atom", .glo "are_atoms", .glo "variables_of", .glo "is_variable_of", .glo "is_clause", .glo "is_question", .glo "_law_spoiled", .glo "law", .free "all", .free "int", .free "isinstance", .free "len", .free "list", .free "min", .free "range", .free "str", .free "tuple", .str "LETTERS" "abcdefghijklmnopqrstuvwxyz", .int "LONGEST_NAME" 8, .int "MOST_PLACES" 4, .str "SIGNS" "abcdefghijklmnopqrstuvwxyz0123456789"]
def tf : List He.Defn := [("is_name", none), ("is_atom", none), ("are_atoms", none), ("is_clause", none), ("is_question", none)]
def exT : PySem.W.Frag → Bool := fun _ => true
abbrev R : PySem.W.OpenRow := PySem.W.OpenLaw.row PySem.Challenge.rw_everytarget_k03_questions
abbrev hk : PySem.W.Hook := He.hookX 4 fa fn [] tf exT
def ob (s : PySem.W.SharedT) : He.AlX := He.obsX 4 fa fn [] tf exT (HandSHeadRun.getT s)
theorem ob_eq (s : PySem.W.SharedT) : ob s = hk.obs s.abs := He.obsX_eq (HandSHeadRun.getT_eq s)
def lo0 : List Str := ["LETTERS", "SIGNS", "LONGEST_NAME", "MOST_PLACES", "is_name", "is_variable", "is_constant", "is_slot", "is_atom", "are_atoms", "variables_of", "is_variable_of", "is_clause", "is_question", "_law_cell", "_law_digits", "_law_slots", "_law_body", "_law_head", "_law_rule", "_law_program", "_law_source", "_law_clause", "_law_question", "_law_spoiled"]
abbrev lo : List Str := lo0
theorem run (w : World) : HandSHeadRun.RunEq R (PySem.W.view R.prog [27]) hk ob 4000 lo w := by
  intro os
  kernel_rfl
def Ps (K : PySem.W.Frag) : List Addr := [(He.cT K ("is_name", none)).2, (He.cT K ("is_atom", none)).2, (He.cT K ("are_atoms", none)).2, (He.cT K ("is_clause", none)).2, (He.cT K ("is_question", none)).2]
theorem tr0 : TriplesOk (#[] : Array Value).toList := True.intro
theorem gT {base : Heap} {mg : Str → Option Value} {c P : Addr} (t : LamX.TabB base mg c P) : GxR.TabB base mg c P := ⟨t.code, t.bm, t.gP⟩
theorem glo {K : PySem.W.Frag} {h : Heap} {mg : Str → Option Value} {w : World} (X : K.In h) (G : h.Ns mainGlobals mg) (c : He.SaysX fa fn [] tf exT w h K) (i : Nat) {x : Str} (hi : fa[i]? = some (.glo x) := by rfl) : mg x = some (.ref (He.fAd K (x, none))) := He.glo_ok X G (c.t.d.fact i hi)
theorem fre {K : PySem.W.Frag} {h : Heap} {mg : Str → Option Value} {w : World} (X : K.In h) (G : h.Ns mainGlobals mg) (c : He.SaysX fa fn [] tf exT w h K) (i : Nat) {x : Str} (hi : fa[i]? = some (.free x) := by rfl) : mg x = none := He.free_ok X G (c.t.d.fact i hi)
theorem all_ok {P : Program} {w : World} {K : PySem.W.Frag} {mg : Str → Option Value} {h base : Heap} (X : K.In h) (G : h.Ns mainGlobals mg) (c : He.SaysX fa fn [] tf exT w h K) (TB : ∀ p ∈ tf.map (He.cT K), LamX.TabB base mg p.1 p.2) :
    ∃ fd : FuncData, FnP K "law" s_law (He.fAd K ("law", none)) fd ∧ FnOk P w K mg base CX0 12 (He.fAd K ("law", none)) fd ["script"] (spD K (Ps K) 1 g_law) := by
  obtain ⟨t_LETTERS, h_LETTERS⟩ := He.str_ok X G (c.t.d.fact 26 (f := .str "LETTERS" "abcdefghijklmnopqrstuvwxyz") rfl)
  obtain ⟨t_LONGEST_NAME, h_LONGEST_NAME⟩ := He.int_ok X G (c.t.d.fact 27 (f := .int "LONGEST_NAME" 8) rfl)
  obtain ⟨t_MOST_PLACES, h_MOST_PLACES⟩ := He.int_ok X G (c.t.d.fact 28 (f := .int "MOST_PLACES" 4) rfl)
  obtain ⟨t_SIGNS, h_SIGNS⟩ := He.str_ok X G (c.t.d.fact 29 (f := .str "SIGNS" "abcdefghijklmnopqrstuvwxyz0123456789") rfl)
  have T : Txt mg t_LETTERS t_LONGEST_NAME t_MOST_PLACES t_SIGNS := ⟨fre X G c 17, fre X G c 18, fre X G c 19, fre X G c 20, fre X G c 21, fre X G c 22, fre X G c 23, fre X G c 24, fre X G c 25, h_LETTERS, h_LONGEST_NAME, h_MOST_PLACES, h_SIGNS⟩
  obtain ⟨fd_d_law_program, F_d_law_program⟩ := c.t.d.def_ 0 (d := dd_d_law_program) rfl
  have F_d_law_program : FnP K "_law_program" s_d_law_program (He.fAd K ("_law_program", none)) fd_d_law_program := F_d_law_program
  have bi_d_law_program : Binds K fd_d_law_program ["cells"] [] := F_d_law_program.bindsN fun _ _ _ _ _ _ us hl => match us, hl with | [_], _ => rfl
  have C_d_law_program : Cal P w K mg base (Ps K) "_law_program" ["cells"] 1 1 g_d_law_program := ⟨_, _, ok_d_law_program T F_d_law_program hg_run, glo X G c 0, F_d_law_program.kp, bi_d_law_program⟩
  obtain ⟨fd_d_law_digits, F_d_law_digits⟩ := c.t.d.def_ 1 (d := dd_d_law_digits) rfl
  have F_d_law_digits : FnP K "_law_digits" s_d_law_digits (He.fAd K ("_law_digits", none)) fd_d_law_digits := F_d_law_digits
  have bi_d_law_digits : Binds K fd_d_law_digits ["cell", "bases"] [] := F_d_law_digits.bindsN fun _ _ _ _ _ _ us hl => match us, hl with | [_, _], _ => rfl
  have C_d_law_digits : Cal P w K mg base (Ps K) "_law_digits" ["cell", "bases"] 1 2 g_d_law_digits := ⟨_, _, ok_d_law_digits T F_d_law_digits hg_run, glo X G c 1, F_d_law_digits.kp, bi_d_law_digits⟩
  obtain ⟨fd_d_law_clause, F_d_law_clause⟩ := c.t.d.def_ 2 (d := dd_d_law_clause) rfl
  have F_d_law_clause : FnP K "_law_clause" s_d_law_clause (He.fAd K ("_law_clause", none)) fd_d_law_clause := F_d_law_clause
  have bi_d_law_clause : Binds K fd_d_law_clause ["digits", "width"] [] := F_d_law_clause.bindsN fun _ _ _ _ _ _ us hl => match us, hl with | [_, _], _ => rfl
  have C_d_law_clause : Cal P w K mg base (Ps K) "_law_clause" ["digits", "width"] 1 2 g_d_law_clause := ⟨_, _, ok_d_law_clause T F_d_law_clause hg_run, glo X G c 2, F_d_law_clause.kp, bi_d_law_clause⟩
  obtain ⟨fd_d_law_question, F_d_law_question⟩ := c.t.d.def_ 3 (d := dd_d_law_question) rfl
  have F_d_law_question : FnP K "_law_question" s_d_law_question (He.fAd K ("_law_question", none)) fd_d_law_question := F_d_law_question
  have bi_d_law_question : Binds K fd_d_law_question ["cell"] [] := F_d_law_question.bindsN fun _ _ _ _ _ _ us hl => match us, hl with | [_], _ => rfl
  have C_d_law_question : Cal P w K mg base (Ps K) "_law_question" ["cell"] 2 1 g_d_law_question := ⟨_, _, ok_d_law_question T F_d_law_question C_d_law_digits C_d_law_clause hg_run, glo X G c 3, F_d_law_question.kp, bi_d_law_question⟩
  obtain ⟨fd_d_law_cell, F_d_law_cell⟩ := c.t.d.def_ 4 (d := dd_d_law_cell) rfl
  have F_d_law_cell : FnP K "_law_cell" s_d_law_cell (He.fAd K ("_law_cell", none)) fd_d_law_cell := F_d_law_cell
  have bi_d_law_cell : Binds K fd_d_law_cell ["script", "k"] [] := F_d_law_cell.bindsN fun _ _ _ _ _ _ us hl => match us, hl with | [_, _], _ => rfl
  have C_d_law_cell : Cal P w K mg base (Ps K) "_law_cell" ["script", "k"] 1 2 g_d_law_cell := ⟨_, _, ok_d_law_cell T F_d_law_cell hg_run, glo X G c 4, F_d_law_cell.kp, bi_d_law_cell⟩
  obtain ⟨fd_is_name, F_is_name⟩ := c.t.d.def_ 5 (d := dd_is_name) rfl
  have F_is_name : FnP K "is_name" s_is_name (He.fAd K ("is_name", none)) fd_is_name := F_is_name
  have bi_is_name : Binds K fd_is_name ["value"] [] := F_is_name.bindsN fun _ _ _ _ _ _ us hl => match us, hl with | [_], _ => rfl
  have C_is_name : Cal P w K mg base (Ps K) "is_name" ["value"] 1 1 g_is_name := ⟨_, _, ok_is_name T F_is_name (by unfold Ps; simp) (gT (TB _ (List.mem_map.mpr ⟨("is_name", none), by unfold tf; simp, rfl⟩))) hg_run, glo X G c 5, F_is_name.kp, bi_is_name⟩
  obtain ⟨fd_is_constant, F_is_constant⟩ := c.t.d.def_ 6 (d := dd_is_constant) rfl
  have F_is_constant : FnP K "is_constant" s_is_constant (He.fAd K ("is_constant", none)) fd_is_constant := F_is_constant
  have bi_is_constant : Binds K fd_is_constant ["value"] [] := F_is_constant.bindsN fun _ _ _ _ _ _ us hl => match us, hl with | [_], _ => rfl
  have C_is_constant : Cal P w K mg base (Ps K) "is_constant" ["value"] 2 1 g_is_constant := ⟨_, _, ok_is_constant T F_is_constant C_is_name hg_run, glo X G c 6, F_is_constant.kp, bi_is_constant⟩
  obtain ⟨fd_is_variable, F_is_variable⟩ := c.t.d.def_ 7 (d := dd_is_variable) rfl
  have F_is_variable : FnP K "is_variable" s_is_variable (He.fAd K ("is_variable", none)) fd_is_variable := F_is_variable
  have bi_is_variable : Binds K fd_is_variable ["value"] [] := F_is_variable.bindsN fun _ _ _ _ _ _ us hl => match us, hl with | [_], _ => rfl
  have C_is_variable : Cal P w K mg base (Ps K) "is_variable" ["value"] 2 1 g_is_variable := ⟨_, _, ok_is_variable T F_is_variable C_is_name hg_run, glo X G c 7, F_is_variable.kp, bi_is_variable⟩
  obtain ⟨fd_is_slot, F_is_slot⟩ := c.t.d.def_ 8 (d := dd_is_slot) rfl
  have F_is_slot : FnP K "is_slot" s_is_slot (He.fAd K ("is_slot", none)) fd_is_slot := F_is_slot
  have bi_is_slot : Binds K fd_is_slot ["value"] [] := F_is_slot.bindsN fun _ _ _ _ _ _ us hl => match us, hl with | [_], _ => rfl
  have C_is_slot : Cal P w K mg base (Ps K) "is_slot" ["value"] 3 1 g_is_slot := ⟨_, _, ok_is_slot T F_is_slot C_is_constant C_is_variable hg_run, glo X G c 8, F_is_slot.kp, bi_is_slot⟩
  obtain ⟨fd_is_atom, F_is_atom⟩ := c.t.d.def_ 9 (d := dd_is_atom) rfl
  have F_is_atom : FnP K "is_atom" s_is_atom (He.fAd K ("is_atom", none)) fd_is_atom := F_is_atom
  have bi_is_atom : Binds K fd_is_atom ["value", "relations"] [] := F_is_atom.bindsN fun _ _ _ _ _ _ us hl => match us, hl with | [_, _], _ => rfl
  have C_is_atom : Cal P w K mg base (Ps K) "is_atom" ["value", "relations"] 5 2 g_is_atom := ⟨_, _, ok_is_atom T F_is_atom (by unfold Ps; simp) (gT (TB _ (List.mem_map.mpr ⟨("is_atom", none), by unfold tf; simp, rfl⟩))) C_is_slot hg_run, glo X G c 9, F_is_atom.kp, bi_is_atom⟩
  obtain ⟨fd_are_atoms, F_are_atoms⟩ := c.t.d.def_ 10 (d := dd_are_atoms) rfl
  have F_are_atoms : FnP K "are_atoms" s_are_atoms (He.fAd K ("are_atoms", none)) fd_are_atoms := F_are_atoms
  have bi_are_atoms : Binds K fd_are_atoms ["value", "relations"] [] := F_are_atoms.bindsN fun _ _ _ _ _ _ us hl => match us, hl with | [_, _], _ => rfl
  have C_are_atoms : Cal P w K mg base (Ps K) "are_atoms" ["value", "relations"] 7 2 g_are_atoms := ⟨_, _, ok_are_atoms T F_are_atoms (by unfold Ps; simp) (gT (TB _ (List.mem_map.mpr ⟨("are_atoms", none), by unfold tf; simp, rfl⟩))) C_is_atom hg_run, glo X G c 10, F_are_atoms.kp, bi_are_atoms⟩
  obtain ⟨fd_variables_of, F_variables_of⟩ := c.t.d.def_ 11 (d := dd_variables_of) rfl
  have F_variables_of : FnP K "variables_of" s_variables_of (He.fAd K ("variables_of", none)) fd_variables_of := F_variables_of
  have bi_variables_of : Binds K fd_variables_of ["atoms"] [] := F_variables_of.bindsN fun _ _ _ _ _ _ us hl => match us, hl with | [_], _ => rfl
  have C_variables_of : Cal P w K mg base (Ps K) "variables_of" ["atoms"] 1 1 g_variables_of := ⟨_, _, ok_variables_of T F_variables_of hg_run, glo X G c 11, F_variables_of.kp, bi_variables_of⟩
  obtain ⟨fd_is_variable_of, F_is_variable_of⟩ := c.t.d.def_ 12 (d := dd_is_variable_of) rfl
  have F_is_variable_of : FnP K "is_variable_of" s_is_variable_of (He.fAd K ("is_variable_of", none)) fd_is_variable_of := F_is_variable_of
  have bi_is_variable_of : Binds K fd_is_variable_of ["value", "atoms"] [] := F_is_variable_of.bindsN fun _ _ _ _ _ _ us hl => match us, hl with | [_, _], _ => rfl
  have C_is_variable_of : Cal P w K mg base (Ps K) "is_variable_of" ["value", "atoms"] 2 2 g_is_variable_of := ⟨_, _, ok_is_variable_of T F_is_variable_of C_variables_of hg_run, glo X G c 12, F_is_variable_of.kp, bi_is_variable_of⟩
  obtain ⟨fd_is_clause, F_is_clause⟩ := c.t.d.def_ 13 (d := dd_is_clause) rfl
  have F_is_clause : FnP K "is_clause" s_is_clause (He.fAd K ("is_clause", none)) fd_is_clause := F_is_clause
  have bi_is_clause : Binds K fd_is_clause ["value", "relations"] [] := F_is_clause.bindsN fun _ _ _ _ _ _ us hl => match us, hl with | [_, _], _ => rfl
  have C_is_clause : Cal P w K mg base (Ps K) "is_clause" ["value", "relations"] 9 2 g_is_clause := ⟨_, _, ok_is_clause T F_is_clause (by unfold Ps; simp) (gT (TB _ (List.mem_map.mpr ⟨("is_clause", none), by unfold tf; simp, rfl⟩))) C_are_atoms C_is_variable_of C_is_constant hg_run, glo X G c 13, F_is_clause.kp, bi_is_clause⟩
  obtain ⟨fd_is_question, F_is_question⟩ := c.t.d.def_ 14 (d := dd_is_question) rfl
  have F_is_question : FnP K "is_question" s_is_question (He.fAd K ("is_question", none)) fd_is_question := F_is_question
  have bi_is_question : Binds K fd_is_question ["value", "program"] [] := F_is_question.bindsN fun _ _ _ _ _ _ us hl => match us, hl with | [_, _], _ => rfl
  have C_is_question : Cal P w K mg base (Ps K) "is_question" ["value", "program"] 11 2 g_is_question := ⟨_, _, ok_is_question T F_is_question (by unfold Ps; simp) (gT (TB _ (List.mem_map.mpr ⟨("is_question", none), by unfold tf; simp, rfl⟩))) C_is_clause hg_run, glo X G c 14, F_is_question.kp, bi_is_question⟩
  obtain ⟨fd_d_law_spoiled, F_d_law_spoiled⟩ := c.t.d.def_ 15 (d := dd_d_law_spoiled) rfl
  have F_d_law_spoiled : FnP K "_law_spoiled" s_d_law_spoiled (He.fAd K ("_law_spoiled", none)) fd_d_law_spoiled := F_d_law_spoiled
  have bi_d_law_spoiled : Binds K fd_d_law_spoiled ["question", "digit"] [] := F_d_law_spoiled.bindsN fun _ _ _ _ _ _ us hl => match us, hl with | [_, _], _ => rfl
  have C_d_law_spoiled : Cal P w K mg base (Ps K) "_law_spoiled" ["question", "digit"] 1 2 g_d_law_spoiled := ⟨_, _, ok_d_law_spoiled T F_d_law_spoiled hg_run, glo X G c 15, F_d_law_spoiled.kp, bi_d_law_spoiled⟩
  obtain ⟨fd_law, F_law⟩ := c.t.d.def_ 16 (d := dd_law) rfl
  have F_law : FnP K "law" s_law (He.fAd K ("law", none)) fd_law := F_law
  have bi_law : Binds K fd_law ["script"] [] := F_law.bindsN fun _ _ _ _ _ _ us hl => match us, hl with | [_], _ => rfl
  exact ⟨fd_law, F_law, ok_law T F_law C_d_law_program C_d_law_question C_d_law_cell C_is_question C_d_law_spoiled hg_run⟩
theorem start_law {K : PySem.W.Frag} {H : Hp} {a : Addr} {ns : List Int} (hn : ns.length ≤ 63) (hT : ∀ p ∈ tf.map (He.cT K), H p.2 = some (.tbl #[])) (hS : SqL K H a (ns.map V.int)) : spD K (Ps K) 1 g_law [.ref a] H (fun v _ => v = .bl true) fun _ _ _ => False := by
  have hP : ∀ p ∈ Ps K, H p = some (.tbl #[]) := fun p hp => by
    have e : Ps K = (tf.map (He.cT K)).map (·.2) := rfl
    rw [e] at hp
    obtain ⟨q, hq, rfl⟩ := List.mem_map.mp hp
    exact hT q hq
  refine ⟨rfl, fun b => if b ∈ Ps K then none else H b, [.list (ns.map PyData.int)], .bool true, ⟨fun b o e => ?_, Same.refl _, fun _ h => .inl h, fun _ _ e _ => e, fun p hp => ⟨#[], hP p hp, tr0⟩, fun p hp => if_pos hp⟩, .cons (.lst (xs := ns.map V.int) ?_ (dpAll_ints ns)) .nil, law_true ns hn, fun v F' H' _ dv => by cases dv; rfl⟩
  · by_cases hb : b ∈ Ps K
    · rw [if_pos hb] at e; cases e
    · rw [if_neg hb] at e; exact e
  · rcases hS with (h | ⟨o, h⟩) | h
    · have nb : a ∉ Ps K := fun z => by rw [hP a z] at h; cases h
      exact .inl (.inl ((if_neg nb).trans h))
    · have nb : a ∉ Ps K := fun z => by rw [hP a z] at h; cases h
      exact .inl (.inr ⟨o, (if_neg nb).trans h⟩)
    · exact .inr h
theorem room_law : Room 12 callerA := ⟨rfl, by decide, by decide⟩
end K03
open PySem PySem.W PySem.Calls PyProof.Rows
theorem PySem.Challenge.cw_everytarget_k03_questions_holds : PySem.Challenge.rw_everytarget_k03_questions.Holds := by
  w_on; o_law
  refine HandSHeadRun.head_any (r := K03.R) (q := view (K03.R).prog [27]) (H := K03.hk) (ob := K03.ob) (M := 4000) (loose := K03.lo) (d := HandSHeadRun.topDef (K03.R).prog 27) (kwd := []) K03.ob_eq
    (by kernel_rfl) (fun s => by kernel_rfl) K03.run (by kernel_rfl) (by kernel_rfl) (by kernel_rfl) (by rfl) (by first | assumption | decide +kernel) (by decide +kernel) ⟨rfl, rfl, rfl, rfl, rfl, by decide +kernel⟩ ?hw ?hc
  case hw => w_witness2
  case hc =>
    refine LamX.walk_ofTsE (l := PySem.Challenge.rw_everytarget_k03_questions) (n := 63) (k := 12) (x := "script") (CX := fun _ => L2.CX0) rfl (by decide) (by kernel_rfl) K03.room_law ?F (fun _ _ _ _ _ z => z)
    intro w mg fa h Y G hmg0
    obtain ⟨K, KX, c⟩ := Y
    have hmg : mg ("law" : PySem.Str) = some (.ref fa) := by
      have e : (HandSHeadRun.topDef (K03.R).prog 27).name = ("law" : PySem.Str) := by kernel_rfl
      rw [← e]
      exact hmg0
    have hfa : fa = He.fAd K ("law", none) := by
      have e := hmg.symm.trans (K03.glo KX G c 16)
      cases e
      rfl
    refine ⟨K, KX, ?_⟩
    obtain ⟨fd, FL0⟩ := c.t.d.def_ 16 (d := K03.dd_law) rfl
    have fdu : ∀ {P : Program} {base : Heap}, (∀ p ∈ K03.tf.map (He.cT K), LamX.TabB base mg p.1 p.2) → L2.FnOk P w K mg base L2.CX0 12 fa fd ["script"] (FL.spD K (K03.Ps K) 1 K03.g_law) := fun {P base} TB => by
      obtain ⟨fd', F', ok⟩ := K03.all_ok (P := P) (base := base) KX G c TB
      have e : fd' = fd := by
        obtain ⟨_, _, _, _, _, _, _, _, _, _, e1, l1, _⟩ := F'.ex
        obtain ⟨_, _, _, _, _, _, _, _, _, _, e2, l2, _⟩ := FL0.ex
        have l3 := l1.symm.trans l2
        cases l3
        rfl
      rw [hfa, ← e]
      exact ok
    refine ⟨fd, K03.tf.map (He.cT K), FL.spD K (K03.Ps K) 1 K03.g_law, fun p hp => ?_, fun p hp => ?_, fun p hp => ?_, fun s u => ?_, fun H a ns hl _ hT hS => K03.start_law hl hT hS, fun base _ _ TB => fdu TB⟩
    · obtain ⟨q, hq, rfl⟩ := List.mem_map.mp hp
      exact c.empty q hq
    · obtain ⟨q, hq, rfl⟩ := List.mem_map.mp hp
      exact c.out q hq
    · obtain ⟨q, hq, rfl⟩ := List.mem_map.mp hp
      exact PySem.W.codeHd_of_K KX (c.hd q hq)
    · exact L2.FunD.bindsA (ps := ["script"]) FL0 (fun _ _ _ _ _ _ us hl => match us, hl with | [_], _ => rfl) s [u] rfl
