import PyProof.Rows.All
import Wide.All
import OpenK.AllK
import Wide.FinOn
import HandS.ForMost
import HandS.IsInst
import HandS.Gcd
import HandS.Wide
import HandS.Deep
import HandS.Flow
import HandS.Star
import HandS.Conv
import HandS.TupLe
import PySem.Challenge.RW_holdsfast_k01_whole_fractions_in_lowest
set_option Elab.async false
set_option linter.all false
set_option maxRecDepth 100000
set_option maxHeartbeats 4000000
/-! DL: Python data as trees, what a frame holds as slots, what a piece of a def computes as a function of the slots; one rule a construct, its function told by the rule. -/
namespace DL
open PySem PySem.Spec PyProof.Rows L2

inductive D where
  | non
  | bl (b : Bool)
  | int (i : Int)
  | str (s : Str)
  | tup (xs : List D)
  | lst (xs : List D)
  /-- a list that is only read: the script -/
  | rl (xs : List D)
  /-- a dict by ints and texts, one by tuples of such -/
  | dK (kvs : List (Key × D))
  | dT (kvs : List (List Key × D))

mutual
inductive Dt (K : PySem.W.Frag) (H : Hp) : V → D → Prop
  | non : Dt K H .non .non
  | bl (b : Bool) : Dt K H (.bl b) (.bl b)
  | int (i : Int) : Dt K H (.int i) (.int i)
  | str (x : Str) : Dt K H (.str x) (.str x)
  | lst {a : Addr} {xs : List V} {ds : List D} : H a = some (.lst xs) → DtA K H xs ds → Dt K H (.ref a) (.lst ds)
  | rl {a : Addr} {xs : List V} {ds : List D} : SqL K H a xs → DtA K H xs ds → Dt K H (.ref a) (.rl ds)
  | tup {a : Addr} {xs : List V} {ds : List D} : SqT K H a xs → DtA K H xs ds → Dt K H (.ref a) (.tup ds)
  | dK {a : Addr} {kvs : List (Key × V)} {kds : List (Key × D)} : H a = some (.dK kvs) → DtK K H kvs kds → Dt K H (.ref a) (.dK kds)
  | dT {a : Addr} {kvs : List (List Key × V)} {kds : List (List Key × D)} : H a = some (.dT kvs) → DtT K H kvs kds → Dt K H (.ref a) (.dT kds)
inductive DtA (K : PySem.W.Frag) (H : Hp) : List V → List D → Prop
  | nil : DtA K H [] []
  | cons {v : V} {vs : List V} {d : D} {ds : List D} : Dt K H v d → DtA K H vs ds → DtA K H (v :: vs) (d :: ds)
inductive DtK (K : PySem.W.Frag) (H : Hp) : List (Key × V) → List (Key × D) → Prop
  | nil : DtK K H [] []
  | cons {k : Key} {v : V} {vs : List (Key × V)} {d : D} {ds : List (Key × D)} : Dt K H v d → DtK K H vs ds → DtK K H ((k, v) :: vs) ((k, d) :: ds)
inductive DtT (K : PySem.W.Frag) (H : Hp) : List (List Key × V) → List (List Key × D) → Prop
  | nil : DtT K H [] []
  | cons {k : List Key} {v : V} {vs : List (List Key × V)} {d : D} {ds : List (List Key × D)} : Dt K H v d → DtT K H vs ds → DtT K H ((k, v) :: vs) ((k, d) :: ds)
end

theorem same_t {K : PySem.W.Frag} {H H' : Hp} {a : Addr} {xs : List V} (e : Same H H') (h : SqT K H a xs) : SqT K H' a xs := by
  rcases h with (h | ⟨o, h⟩) | h
  · exact .inl (.inl (e _ _ h))
  · exact .inl (.inr ⟨o, e _ _ h⟩)
  · exact .inr h
section
variable {K : PySem.W.Frag} {H H' : Hp}
mutual
theorem Dt.mono (e : Same H H') : ∀ {v : V} {d : D}, Dt K H v d → Dt K H' v d
  | _, _, .non => .non
  | _, _, .bl b => .bl b
  | _, _, .int i => .int i
  | _, _, .str x => .str x
  | _, _, .lst h a => .lst (e _ _ h) (DtA.mono e a)
  | _, _, .rl h a => .rl (e.seq h) (DtA.mono e a)
  | _, _, .tup h a => .tup (same_t e h) (DtA.mono e a)
  | _, _, .dK h a => .dK (e _ _ h) (DtK.mono e a)
  | _, _, .dT h a => .dT (e _ _ h) (DtT.mono e a)
theorem DtA.mono (e : Same H H') : ∀ {vs : List V} {ds : List D}, DtA K H vs ds → DtA K H' vs ds
  | _, _, .nil => .nil
  | _, _, .cons h a => .cons (Dt.mono e h) (DtA.mono e a)
theorem DtK.mono (e : Same H H') : ∀ {vs : List (Key × V)} {ds : List (Key × D)}, DtK K H vs ds → DtK K H' vs ds
  | _, _, .nil => .nil
  | _, _, .cons h a => .cons (Dt.mono e h) (DtK.mono e a)
theorem DtT.mono (e : Same H H') : ∀ {vs : List (List Key × V)} {ds : List (List Key × D)}, DtT K H vs ds → DtT K H' vs ds
  | _, _, .nil => .nil
  | _, _, .cons h a => .cons (Dt.mono e h) (DtT.mono e a)
end
theorem DtA.length : ∀ {vs : List V} {ds : List D}, DtA K H vs ds → vs.length = ds.length
  | _, _, .nil => rfl
  | _, _, .cons _ a => by rw [List.length_cons, List.length_cons, DtA.length a]
theorem DtA.app : ∀ {vs ws : List V} {ds es : List D}, DtA K H vs ds → DtA K H ws es → DtA K H (vs ++ ws) (ds ++ es)
  | _, _, _, _, .nil, b => b
  | _, _, _, _, .cons h a, b => .cons h (DtA.app a b)
theorem DtA.get : ∀ {vs : List V} {ds : List D} {i : Nat} {d : D}, DtA K H vs ds → ds[i]? = some d → ∃ v, vs[i]? = some v ∧ Dt K H v d
  | _, _, i, d, .nil, h => by simp at h
  | _, _, 0, d, .cons h a, e => ⟨_, rfl, by have := Option.some.inj (show some _ = some d from e); rw [← this]; exact h⟩
  | _, _, i + 1, d, .cons h a, e => by
    obtain ⟨v, e1, h1⟩ := DtA.get a (show _ = some d from e)
    exact ⟨v, e1, h1⟩
theorem DtA.drop : ∀ {vs : List V} {ds : List D} (n : Nat), DtA K H vs ds → DtA K H (vs.drop n) (ds.drop n)
  | _, _, 0, h => h
  | _, _, n + 1, .nil => by simp; exact .nil
  | _, _, n + 1, .cons h a => by simpa using DtA.drop n a
theorem DtA.take : ∀ {vs : List V} {ds : List D} (n : Nat), DtA K H vs ds → DtA K H (vs.take n) (ds.take n)
  | _, _, 0, h => by simp; exact .nil
  | _, _, n + 1, .nil => by simp; exact .nil
  | _, _, n + 1, .cons h a => by simpa using DtA.cons h (DtA.take n a)
theorem DtA.set : ∀ {vs : List V} {ds : List D} {v : V} {d : D} (n : Nat), DtA K H vs ds → Dt K H v d → DtA K H (vs.set n v) (ds.set n d)
  | _, _, _, _, _, .nil, _ => by simp; exact .nil
  | _, _, _, _, 0, .cons h a, k => by simpa using DtA.cons k a
  | _, _, _, _, n + 1, .cons h a, k => by simpa using DtA.cons h (DtA.set n a k)
end

/-! ### slots -/
inductive Sl where
  | no
  | tr (d : D)
  /-- a list that the frame alone may change; p: a parameter -/
  | ol (p : Bool) (ds : List D)
abbrev Sd := List Sl

structure Rep (K : PySem.W.Frag) (S H : Hp) (s : Sd) (σ : L2.St) : Prop where
  sub : Same S H
  len : σ.length = s.length
  tr : ∀ (i : Nat) (d : D), s[i]? = some (.tr d) → ∃ v, σ[i]? = some (some v) ∧ Dt K S v d
  ol : ∀ (i : Nat) (p : Bool) (ds : List D), s[i]? = some (.ol p ds) → ∃ a vs, σ[i]? = some (some (.ref a)) ∧ H a = some (.lst vs) ∧ S a = none ∧ DtA K S vs ds
  ne : ∀ (i j : Nat) (p q : Bool) (ds es : List D) (a : Addr), s[i]? = some (.ol p ds) → s[j]? = some (.ol q es) → σ[i]? = some (some (.ref a)) → σ[j]? = some (some (.ref a)) → i = j
def Own (s : Sd) (σ : L2.St) (a : Addr) : Prop := ∃ (i : Nat) (p : Bool) (ds : List D), s[i]? = some (Sl.ol p ds) ∧ σ[i]? = some (some (V.ref a))
structure Go (K : PySem.W.Frag) (S H : Hp) (s : Sd) (σ : L2.St) (S' H' : Hp) (s' : Sd) (σ' : L2.St) : Prop where
  rep : Rep K S' H' s' σ'
  ext : Same S S'
  keep : ∀ a o, H a = some o → ¬ Own s σ a → H' a = some o
  own : ∀ a, Own s' σ' a → Own s σ a ∨ H a = none
  live : ∀ a, H' a = none → H a = none
  grow : ∀ a, S' a ≠ none → S a ≠ none ∨ H a = none ∨ Own s σ a
  stay : ∀ (i : Nat) (ds : List D), s[i]? = some (.ol true ds) → ∃ ds', s'[i]? = some (.ol true ds') ∧ σ'[i]? = σ[i]?
  lens : s'.length = s.length
section
variable {K : PySem.W.Frag} {S H S' H' S'' H'' : Hp} {s s' s'' : Sd} {σ σ' σ'' : L2.St}
theorem Go.refl (r : Rep K S H s σ) : Go K S H s σ S H s σ :=
  ⟨r, Same.refl S, fun _ _ h _ => h, fun _ h => .inl h, fun _ h => h, fun _ h => .inl h, fun _ ds h => ⟨ds, h, rfl⟩, rfl⟩
theorem Go.trans (a : Go K S H s σ S' H' s' σ') (b : Go K S' H' s' σ' S'' H'' s'' σ'') : Go K S H s σ S'' H'' s'' σ'' := by
  refine ⟨b.rep, a.ext.trans b.ext, fun x o h n => b.keep x o (a.keep x o h n) fun y => ?_, fun x y => ?_, fun x y => a.live x (b.live x y), fun x y => ?_, fun i ds h => ?_, b.lens.trans a.lens⟩
  · rcases a.own x y with z | z
    · exact n z
    · rw [h] at z; cases z
  · rcases b.own x y with z | z
    · exact a.own x z
    · exact .inr (a.live x z)
  · rcases b.grow x y with z | z | z
    · exact a.grow x z
    · exact .inr (.inl (a.live x z))
    · rcases a.own x z with z | z
      · exact .inr (.inr z)
      · exact .inr (.inl z)
  · obtain ⟨ds', e1, e2⟩ := a.stay i ds h
    obtain ⟨ds'', e3, e4⟩ := b.stay i ds' e1
    exact ⟨ds'', e3, e4.trans e2⟩

/-- only new objects -/
structure Al (S H S' H' : Hp) : Prop where
  ext : Same S S'
  same : Same H H'
  sub : Same S' H'
  grow : ∀ a, S' a ≠ none → S a ≠ none ∨ H a = none
theorem Al.refl (h : Same S H) : Al S H S H := ⟨Same.refl _, Same.refl _, h, fun _ h => .inl h⟩
theorem Al.trans (a : Al S H S' H') (b : Al S' H' S'' H'') : Al S H S'' H'' := ⟨a.ext.trans b.ext, a.same.trans b.same, b.sub, fun x y => by
  rcases b.grow x y with z | z
  · exact a.grow x z
  · exact .inr (a.same.free z)⟩
theorem same_upd {H : Hp} {p : Addr} {o : HO} (h : H p = none) : Same H (upd H p o) := fun b x e => by
  rw [upd_ne (ne_of_none e h)]
  exact e
theorem Al.new {p : Addr} {o : HO} (h : Same S H) (hp : H p = none) : Al S H (upd S p o) (upd H p o) := by
  refine ⟨same_upd (h.free hp), same_upd hp, fun b x e => ?_, fun b e => ?_⟩
  · by_cases hb : b = p
    · subst hb; rw [upd_same] at e ⊢; exact e
    · rw [upd_ne hb] at e ⊢; exact h b x e
  · by_cases hb : b = p
    · subst hb; exact .inr hp
    · rw [upd_ne hb] at e; exact .inl e
theorem not_none {α : Type} {o : Option α} {x : α} (h : o = some x) : o ≠ none := by rw [h]; exact fun z => nomatch z
theorem none_of {α : Type} {o : Option α} (h : ¬ o ≠ none) : o = none := by
  cases o with
  | none => rfl
  | some x => exact absurd (fun z => nomatch z) h
theorem Al.go (r : Rep K S H s σ) (a : Al S H S' H') : Go K S H s σ S' H' s σ := by
  refine ⟨⟨a.sub, r.len, fun i d h => ?_, fun i p ds h => ?_, r.ne⟩, a.ext, fun x o h _ => a.same x o h, fun x h => .inl h, fun x h => a.same.free h, fun x h => ?_, fun i ds h => ⟨ds, h, rfl⟩, rfl⟩
  · obtain ⟨v, e, q⟩ := r.tr i d h
    exact ⟨v, e, q.mono a.ext⟩
  · obtain ⟨x, vs, e, e1, e2, q⟩ := r.ol i p ds h
    refine ⟨x, vs, e, a.same x _ e1, none_of fun z => ?_, q.mono a.ext⟩
    rcases a.grow x z with z | z
    · exact z e2
    · rw [e1] at z; cases z
  · rcases a.grow x h with z | z
    · exact .inl z
    · exact .inr (.inl z)

theorem getElem?_lt {α : Type} {l : List α} {i : Nat} {x : α} (h : l[i]? = some x) : i < l.length := (List.getElem?_eq_some_iff.mp h).1
/-- the content of an own list changes, S grows by nothing -/
theorem Rep.put (r : Rep K S H s σ) {i : Nat} {p : Bool} {ds ds' : List D} {a : Addr} {vs : List V} (hs : s[i]? = some (.ol p ds)) (hσ : σ[i]? = some (some (.ref a))) (q : DtA K S vs ds') :
    Go K S H s σ S (upd H a (.lst vs)) (s.set i (.ol p ds')) σ := by
  have hi := getElem?_lt hs
  obtain ⟨a0, vs0, e0, e1, e2, _⟩ := r.ol i p ds hs
  have ea : a0 = a := by rw [hσ] at e0; injection e0 with e0; injection e0 with e0; injection e0 with e0; exact e0.symm
  subst ea
  have own : Own s σ a0 := ⟨i, p, ds, hs, hσ⟩
  have hx : ∀ (j : Nat) (x : Sl), (s.set i (.ol p ds'))[j]? = some x → (j = i ∧ x = .ol p ds') ∨ (j ≠ i ∧ s[j]? = some x) := fun j x h => by
    by_cases hj : i = j
    · subst hj
      rw [List.getElem?_set_self hi] at h
      exact .inl ⟨rfl, (Option.some.inj h).symm⟩
    · rw [List.getElem?_set_ne hj] at h
      exact .inr ⟨fun z => hj z.symm, h⟩
  refine ⟨⟨fun b o h => ?_, by rw [List.length_set]; exact r.len, fun j d h => ?_, fun j p' es h => ?_, fun j k p1 p2 es fs b h1 h2 h3 h4 => ?_⟩, Same.refl _, fun b o h n => ?_, fun b h => ?_, fun b h => ?_, fun b h => .inl h, fun j es h => ?_, List.length_set⟩
  · have : b ≠ a0 := fun z => by subst z; rw [e2] at h; cases h
    rw [upd_ne this]; exact r.sub b o h
  · rcases hx j _ h with ⟨_, z⟩ | ⟨_, z⟩
    · cases z
    · exact r.tr j d z
  · rcases hx j _ h with ⟨z1, z⟩ | ⟨z1, z⟩
    · cases z
      subst z1
      exact ⟨a0, vs, hσ, upd_same, e2, q⟩
    · obtain ⟨b, ws, e3, e4, e5, e6⟩ := r.ol j p' es z
      have : b ≠ a0 := fun y => by subst y; exact z1 (r.ne j i p' p es ds b z hs e3 hσ)
      exact ⟨b, ws, e3, by rw [upd_ne this]; exact e4, e5, e6⟩
  · have g : ∀ (m : Nat) (p3 : Bool) (gs : List D), (s.set i (.ol p ds'))[m]? = some (.ol p3 gs) → ∃ p4 gs', s[m]? = some (.ol p4 gs') := fun m p3 gs h => by
      rcases hx m _ h with ⟨z1, z⟩ | ⟨_, z⟩
      · subst z1; exact ⟨_, _, hs⟩
      · exact ⟨_, _, z⟩
    obtain ⟨_, _, g1⟩ := g j p1 es h1
    obtain ⟨_, _, g2⟩ := g k p2 fs h2
    exact r.ne j k _ _ _ _ b g1 g2 h3 h4
  · have : b ≠ a0 := fun z => by subst z; exact n own
    rw [upd_ne this]; exact h
  · obtain ⟨j, p3, gs, h1, h2⟩ := h
    rcases hx j _ h1 with ⟨z1, z⟩ | ⟨_, z⟩
    · subst z1; exact .inl ⟨j, p, ds, hs, h2⟩
    · exact .inl ⟨j, p3, gs, z, h2⟩
  · by_cases hb : b = a0
    · subst hb; rw [upd_same] at h; cases h
    · rw [upd_ne hb] at h; exact h
  · by_cases hj : i = j
    · subst hj
      rw [hs] at h; cases h
      exact ⟨ds', List.getElem?_set_self hi, rfl⟩
    · exact ⟨es, by rw [List.getElem?_set_ne hj]; exact h, rfl⟩

/-- an own list becomes data -/
theorem Rep.frz (r : Rep K S H s σ) {i : Nat} {ds : List D} (hs : s[i]? = some (.ol false ds)) :
    ∃ a vs, σ[i]? = some (some (.ref a)) ∧ Dt K (upd S a (.lst vs)) (.ref a) (.lst ds) ∧ Go K S H s σ (upd S a (.lst vs)) H (s.set i (.tr (.lst ds))) σ := by
  have hi := getElem?_lt hs
  obtain ⟨a, vs, e0, e1, e2, e3⟩ := r.ol i false ds hs
  have hx : ∀ (j : Nat) (x : Sl), (s.set i (.tr (.lst ds)))[j]? = some x → (j = i ∧ x = .tr (.lst ds)) ∨ (j ≠ i ∧ s[j]? = some x) := fun j x h => by
    by_cases hj : i = j
    · subst hj
      rw [List.getElem?_set_self hi] at h
      exact .inl ⟨rfl, (Option.some.inj h).symm⟩
    · rw [List.getElem?_set_ne hj] at h
      exact .inr ⟨fun z => hj z.symm, h⟩
  have sm : Same S (upd S a (.lst vs)) := same_upd e2
  have dt : Dt K (upd S a (.lst vs)) (.ref a) (.lst ds) := .lst upd_same (e3.mono sm)
  refine ⟨a, vs, e0, dt, ⟨fun b o h => ?_, by rw [List.length_set]; exact r.len, fun j d h => ?_, fun j p' es h => ?_, fun j k p1 p2 es fs b h1 h2 h3 h4 => ?_⟩, sm, fun b o h n => h, fun b h => ?_, fun b h => h, fun b h => ?_, fun j es h => ?_, List.length_set⟩
  · by_cases hb : b = a
    · subst hb; rw [upd_same] at h; rw [e1]; exact h
    · rw [upd_ne hb] at h; exact r.sub b o h
  · rcases hx j _ h with ⟨z1, z⟩ | ⟨_, z⟩
    · cases z
      subst z1
      exact ⟨_, e0, dt⟩
    · obtain ⟨v, q1, q2⟩ := r.tr j d z
      exact ⟨v, q1, q2.mono sm⟩
  · rcases hx j _ h with ⟨z1, z⟩ | ⟨z1, z⟩
    · cases z
    · obtain ⟨b, ws, f3, f4, f5, f6⟩ := r.ol j p' es z
      have : b ≠ a := fun y => by subst y; exact z1 (r.ne j i p' false es ds b z hs f3 e0)
      exact ⟨b, ws, f3, f4, by rw [upd_ne this]; exact f5, f6.mono sm⟩
  · rcases hx j _ h1 with ⟨_, z⟩ | ⟨_, z⟩
    · cases z
    · rcases hx k _ h2 with ⟨_, y⟩ | ⟨_, y⟩
      · cases y
      · exact r.ne j k _ _ _ _ b z y h3 h4
  · obtain ⟨j, p3, gs, h1, h2⟩ := h
    rcases hx j _ h1 with ⟨_, z⟩ | ⟨_, z⟩
    · cases z
    · exact .inl ⟨j, p3, gs, z, h2⟩
  · by_cases hb : b = a
    · subst hb; exact .inr (.inr ⟨i, false, ds, hs, e0⟩)
    · rw [upd_ne hb] at h; exact .inl h
  · have hj : i ≠ j := fun z => by subst z; rw [hs] at h; cases h
    exact ⟨es, by rw [List.getElem?_set_ne hj]; exact h, rfl⟩

/-- a slot that is no parameter's list is given data -/
theorem Rep.set (r : Rep K S H s σ) {i : Nat} {v : V} {d : D} (hi : i < s.length) (hn : ∀ ds, s[i]? ≠ some (.ol true ds)) (q : Dt K S v d) : Go K S H s σ S H (s.set i (.tr d)) (σ.set i (some v)) := by
  have hi' : i < σ.length := by rw [r.len]; exact hi
  have hx : ∀ (j : Nat) (x : Sl), (s.set i (.tr d))[j]? = some x → (j = i ∧ x = .tr d) ∨ (i ≠ j ∧ s[j]? = some x) := fun j x h => by
    by_cases hj : i = j
    · subst hj
      rw [List.getElem?_set_self hi] at h
      exact .inl ⟨rfl, (Option.some.inj h).symm⟩
    · rw [List.getElem?_set_ne hj] at h
      exact .inr ⟨hj, h⟩
  refine ⟨⟨r.sub, by rw [List.length_set, List.length_set]; exact r.len, fun j e h => ?_, fun j p' es h => ?_, fun j k p1 p2 es fs b h1 h2 h3 h4 => ?_⟩, Same.refl _, fun b o h n => h, fun b h => ?_, fun b h => h, fun b h => .inl h, fun j es h => ?_, List.length_set⟩
  · rcases hx j _ h with ⟨z1, z⟩ | ⟨z1, z⟩
    · cases z
      subst z1
      exact ⟨v, List.getElem?_set_self hi', q⟩
    · obtain ⟨w, q1, q2⟩ := r.tr j e z
      exact ⟨w, by rw [List.getElem?_set_ne z1]; exact q1, q2⟩
  · rcases hx j _ h with ⟨z1, z⟩ | ⟨z1, z⟩
    · cases z
    · obtain ⟨b, ws, f3, f4⟩ := r.ol j p' es z
      exact ⟨b, ws, by rw [List.getElem?_set_ne z1]; exact f3, f4⟩
  · rcases hx j _ h1 with ⟨_, z⟩ | ⟨z1, z⟩
    · cases z
    · rcases hx k _ h2 with ⟨_, y⟩ | ⟨y1, y⟩
      · cases y
      · rw [List.getElem?_set_ne z1] at h3
        rw [List.getElem?_set_ne y1] at h4
        exact r.ne j k _ _ _ _ b z y h3 h4
  · obtain ⟨j, p3, gs, h1, h2⟩ := h
    rcases hx j _ h1 with ⟨_, z⟩ | ⟨z1, z⟩
    · cases z
    · rw [List.getElem?_set_ne z1] at h2
      exact .inl ⟨j, p3, gs, z, h2⟩
  · have hj : i ≠ j := fun z => by subst z; exact hn es h
    exact ⟨es, by rw [List.getElem?_set_ne hj]; exact h, List.getElem?_set_ne hj⟩
/-- a slot is given a new own list -/
theorem Rep.setO (r : Rep K S H s σ) {i : Nat} {a : Addr} {vs : List V} {ds : List D} (hi : i < s.length) (hn : ∀ ds, s[i]? ≠ some (.ol true ds)) (ha : H a = none) (q : DtA K S vs ds) :
    Go K S H s σ S (upd H a (.lst vs)) (s.set i (.ol false ds)) (σ.set i (some (.ref a))) := by
  have hi' : i < σ.length := by rw [r.len]; exact hi
  have sa : S a = none := r.sub.free ha
  have hx : ∀ (j : Nat) (x : Sl), (s.set i (.ol false ds))[j]? = some x → (j = i ∧ x = .ol false ds) ∨ (i ≠ j ∧ s[j]? = some x) := fun j x h => by
    by_cases hj : i = j
    · subst hj
      rw [List.getElem?_set_self hi] at h
      exact .inl ⟨rfl, (Option.some.inj h).symm⟩
    · rw [List.getElem?_set_ne hj] at h
      exact .inr ⟨hj, h⟩
  have sm : Same H (upd H a (.lst vs)) := same_upd ha
  have no : ∀ (j : Nat) (p : Bool) (es : List D), s[j]? = some (.ol p es) → σ[j]? ≠ some (some (.ref a)) := fun j p es h z => by
    obtain ⟨b, ws, f3, f4, _⟩ := r.ol j p es h
    rw [z] at f3; injection f3 with f3; injection f3 with f3; injection f3 with f3
    subst f3; rw [ha] at f4; cases f4
  refine ⟨⟨r.sub.trans sm, by rw [List.length_set, List.length_set]; exact r.len, fun j e h => ?_, fun j p' es h => ?_, fun j k p1 p2 es fs b h1 h2 h3 h4 => ?_⟩, Same.refl _, fun b o h n => sm b o h, fun b h => ?_, fun b h => sm.free h, fun b h => .inl h, fun j es h => ?_, List.length_set⟩
  · rcases hx j _ h with ⟨z1, z⟩ | ⟨z1, z⟩
    · cases z
    · obtain ⟨w, q1, q2⟩ := r.tr j e z
      exact ⟨w, by rw [List.getElem?_set_ne z1]; exact q1, q2⟩
  · rcases hx j _ h with ⟨z1, z⟩ | ⟨z1, z⟩
    · cases z
      subst z1
      exact ⟨a, vs, List.getElem?_set_self hi', upd_same, sa, q⟩
    · obtain ⟨b, ws, f3, f4, f5⟩ := r.ol j p' es z
      exact ⟨b, ws, by rw [List.getElem?_set_ne z1]; exact f3, sm _ _ f4, f5⟩
  · rcases hx j _ h1 with ⟨z1, z⟩ | ⟨z1, z⟩
    · rcases hx k _ h2 with ⟨y1, y⟩ | ⟨y1, y⟩
      · rw [z1, y1]
      · subst z1
        rw [List.getElem?_set_self hi'] at h3
        rw [List.getElem?_set_ne y1] at h4
        injection h3 with h3; injection h3 with h3; injection h3 with h3
        subst h3
        exact absurd h4 (no k _ _ y)
    · rcases hx k _ h2 with ⟨y1, y⟩ | ⟨y1, y⟩
      · subst y1
        rw [List.getElem?_set_self hi'] at h4
        rw [List.getElem?_set_ne z1] at h3
        injection h4 with h4; injection h4 with h4; injection h4 with h4
        subst h4
        exact absurd h3 (no j _ _ z)
      · rw [List.getElem?_set_ne z1] at h3
        rw [List.getElem?_set_ne y1] at h4
        exact r.ne j k _ _ _ _ b z y h3 h4
  · obtain ⟨j, p3, gs, h1, h2⟩ := h
    rcases hx j _ h1 with ⟨z1, z⟩ | ⟨z1, z⟩
    · subst z1
      rw [List.getElem?_set_self hi'] at h2
      injection h2 with h2; injection h2 with h2; injection h2 with h2
      subst h2
      exact .inr ha
    · rw [List.getElem?_set_ne z1] at h2
      exact .inl ⟨j, p3, gs, z, h2⟩
  · have hj : i ≠ j := fun z => by subst z; exact hn es h
    exact ⟨es, by rw [List.getElem?_set_ne hj]; exact h, List.getElem?_set_ne hj⟩
end
end DL
namespace DL
open PySem PySem.Spec PyProof.Rows L2

/-! ### data as the library's -/
mutual
def D.py : D → PyData
  | .non => .none
  | .bl b => .bool b
  | .int i => .int i
  | .str s => .str s
  | .tup xs => .tuple (D.pys xs)
  | .lst xs => .list (D.pys xs)
  | .rl xs => .list (D.pys xs)
  | .dK _ => .dict []
  | .dT _ => .dict []
def D.pys : List D → List PyData
  | [] => []
  | x :: r => D.py x :: D.pys r
end
section
variable {K : PySem.W.Frag} {H : Hp}
mutual
theorem Dt.dp : ∀ {v : V} {d : D}, Dt K H v d → d.py.canLay0 = true → Dp K H v d.py
  | _, _, .non, _ => .non
  | _, _, .bl b, _ => .bl b
  | _, _, .int i, _ => .int i
  | _, _, .str x, _ => .str x
  | _, _, .lst h a, c => .lst (.inl (.inl h)) (DtA.dp a (by simpa [D.py, PyData.canLay0] using c))
  | _, _, .rl h a, c => .lst h (DtA.dp a (by simpa [D.py, PyData.canLay0] using c))
  | _, _, .tup h a, c => .tup h (DtA.dp a (by simpa [D.py, PyData.canLay0] using c))
  | _, _, .dK _ _, c => by simp [D.py, PyData.canLay0] at c
  | _, _, .dT _ _, c => by simp [D.py, PyData.canLay0] at c
theorem DtA.dp : ∀ {vs : List V} {ds : List D}, DtA K H vs ds → PyData.canLayAll0 (D.pys ds) = true → DpAll K H vs (D.pys ds)
  | _, _, .nil, _ => .nil
  | _ :: _, d :: ds, .cons h a, c => by
    have c : (PyData.canLay0 (D.py d) && PyData.canLayAll0 (D.pys ds)) = true := by simpa [D.pys, PyData.canLayAll0] using c
    obtain ⟨c1, c2⟩ := Bool.and_eq_true_iff.mp c
    exact .cons (Dt.dp h c1) (DtA.dp a c2)
end
end

/-! ### what a piece computes -/
abbrev FE := Sd → Option (D × Sd)
abbrev FT := Sd → Option (Bool × Sd)
abbrev FA := Sd → Option (List D × Sd)
def QE (K : PySem.W.Frag) (r : Option (D × Sd)) (S H : Hp) (s : Sd) (σ : L2.St) (Q : VK) : Prop := match r with
  | some (d, s') => ∀ v S' H', Go K S H s σ S' H' s' σ → Dt K S' v d → Q v H'
  | none => False
def QT (K : PySem.W.Frag) (r : Option (Bool × Sd)) (S H : Hp) (s : Sd) (σ : L2.St) (Q : Bool → Hp → Prop) : Prop := match r with
  | some (b, s') => ∀ S' H', Go K S H s σ S' H' s' σ → Q b H'
  | none => False
def QA (K : PySem.W.Frag) (r : Option (List D × Sd)) (S H : Hp) (s : Sd) (σ : L2.St) (Q : List V → Hp → Prop) : Prop := match r with
  | some (ds, s') => ∀ vs S' H', Go K S H s σ S' H' s' σ → DtA K S' vs ds → Q vs H'
  | none => False
def SE (K : PySem.W.Frag) (t : TE) (f : FE) : Prop := ∀ S H s σ Q, Rep K S H s σ → QE K (f s) S H s σ Q → t σ H Q
def ST (K : PySem.W.Frag) (t : TT) (f : FT) : Prop := ∀ S H s σ Q, Rep K S H s σ → QT K (f s) S H s σ Q → t σ H Q
def SA (K : PySem.W.Frag) (t : TA) (f : FA) : Prop := ∀ S H s σ Q, Rep K S H s σ → QA K (f s) S H s σ Q → t σ H Q
section
variable {K : PySem.W.Frag} {S H : Hp} {s s1 : Sd} {σ : L2.St}
theorem SE.use {t : TE} {f : FE} {Q : VK} {d : D} (h : SE K t f) (r : Rep K S H s σ) (e : f s = some (d, s1)) (q : ∀ v S' H', Go K S H s σ S' H' s1 σ → Dt K S' v d → Q v H') : t σ H Q :=
  h S H s σ Q r (by rw [e]; exact q)
theorem ST.use {t : TT} {f : FT} {Q : Bool → Hp → Prop} {b : Bool} (h : ST K t f) (r : Rep K S H s σ) (e : f s = some (b, s1)) (q : ∀ S' H', Go K S H s σ S' H' s1 σ → Q b H') : t σ H Q :=
  h S H s σ Q r (by rw [e]; exact q)
theorem SA.use {t : TA} {f : FA} {Q : List V → Hp → Prop} {ds : List D} (h : SA K t f) (r : Rep K S H s σ) (e : f s = some (ds, s1)) (q : ∀ vs S' H', Go K S H s σ S' H' s1 σ → DtA K S' vs ds → Q vs H') : t σ H Q :=
  h S H s σ Q r (by rw [e]; exact q)
end
structure PD (X : Cx) (e : Expr) (t : TE) (f : FE) : Prop where
  pe : PE X e t
  ok : SE X.K t f
structure PDt (X : Cx) (e : Expr) (t : TT) (f : FT) : Prop where
  pe : PT X e t
  ok : ST X.K t f
structure PDw (X : Cx) (e : Expr) (t : TT) (f : FT) : Prop where
  pe : PW X e t
  ok : ST X.K t f
structure PDa (X : Cx) (es : List Expr) (t : TA) (f : FA) : Prop where
  pe : PA X es t
  ok : SA X.K t f

/-! ### names, constants -/
def fV (i : Nat) : FE := fun s => match s[i]? with
  | some (.tr d) => some (d, s)
  | some (.ol false ds) => some (.lst ds, s.set i (.tr (.lst ds)))
  | _ => none
def fC (d : D) : FE := fun s => some (d, s)
section
variable {X : Cx} {K : PySem.W.Frag}
theorem se_var {i : Nat} : SE K (tVar i) (fV i) := by
  intro S H s σ Q r h
  unfold fV at h
  cases e : s[i]? with
  | none => rw [e] at h; exact h.elim
  | some x =>
    rw [e] at h
    cases x with
    | no => exact h.elim
    | tr d =>
      obtain ⟨v, e1, q⟩ := r.tr i d e
      exact ⟨v, e1, h v S H (Go.refl r) q⟩
    | ol p ds =>
      cases p with
      | true => exact h.elim
      | false =>
        obtain ⟨a, vs, e1, q, g⟩ := r.frz e
        exact ⟨.ref a, e1, h _ _ _ g q⟩
theorem se_c {v : V} {d : D} (q : ∀ S, Dt K S v d) : SE K (tC v) (fC d) := fun S H s σ Q r h => h v S H (Go.refl r) (q S)
theorem pd_v (i : Nat) {x : Str} {pos : Pos} (hN : X.N[i]? = some x := by rfl) (hv : Vis X.env.scope x := by first | exact Or.inl rfl | exact Or.inr (Or.inl rfl) | exact Or.inr (Or.inr rfl)) (hd : (x == ("__debug__" : Str)) = false := by decide)
    (hcd : (x == ("__classdict__" : Str)) = false := by decide) : PD X (.Name x pos) (tVar i) (fV i) := ⟨pe_var hN hv hd hcd, se_var⟩
theorem pd_int {i : Int} {j pos} : PD X (.Constant (.int i) j pos) (tC (.int i)) (fC (.int i)) := ⟨pe_int, se_c fun _ => .int i⟩
theorem pd_str {x : Str} {j pos} : PD X (.Constant (.str x) j pos) (tC (.str x)) (fC (.str x)) := ⟨pe_str, se_c fun _ => .str x⟩
theorem pd_bl {b : Bool} {j pos} : PD X (.Constant (.bool b) j pos) (tC (.bl b)) (fC (.bl b)) := ⟨pe_bl, se_c fun _ => .bl b⟩
theorem pd_non {j pos} : PD X (.Constant .none j pos) (tC .non) (fC .non) := ⟨pe_non, se_c fun _ => .non⟩
end

/-! ### operators -/
def OpS (K : PySem.W.Frag) (r : R2) (g : D → D → Option D) : Prop := ∀ S H x y a b z Q, Same S H → Dt K S x a → Dt K S y b → g a b = some z → (∀ v S' H', Al S H S' H' → Dt K S' v z → Q v H') → r x y H Q
def fOp (g : D → D → Option D) (fa fb : FE) : FE := fun s => match fa s with
  | none => none
  | some (a, s1) => match fb s1 with
    | none => none
    | some (b, s2) => match g a b with
      | none => none
      | some z => some (z, s2)
def UnS (K : PySem.W.Frag) (r : V → Hp → VK → Prop) (g : D → Option D) : Prop := ∀ S H x a z Q, Same S H → Dt K S x a → g a = some z → (∀ v S' H', Al S H S' H' → Dt K S' v z → Q v H') → r x H Q
def fUn (g : D → Option D) (fa : FE) : FE := fun s => match fa s with
  | none => none
  | some (a, s1) => match g a with
    | none => none
    | some z => some (z, s1)
section
variable {X : Cx} {K : PySem.W.Frag} {ta tb tc te : TE} {fa fb fc : FE} {r r' : R2} {g g' : D → D → Option D}
theorem se_op (ha : SE K ta fa) (hb : SE K tb fb) (hr : OpS K r g) : SE K (tOp r ta tb) (fOp g fa fb) := by
  intro S H s σ Q r0 h
  unfold fOp at h
  cases e : fa s with
  | none => rw [e] at h; exact h.elim
  | some x =>
    obtain ⟨a, s1⟩ := x
    rw [e] at h
    refine ha.use r0 e fun x S1 H1 g1 d1 => ?_
    simp only at h
    cases e2 : fb s1 with
    | none => rw [e2] at h; exact h.elim
    | some y =>
      obtain ⟨b, s2⟩ := y
      rw [e2] at h
      simp only at h
      refine hb.use g1.rep e2 fun y S2 H2 g2 d2 => ?_
      cases e3 : g a b with
      | none => rw [e3] at h; exact h.elim
      | some z =>
        rw [e3] at h
        exact hr S2 H2 x y a b z Q g2.rep.sub (d1.mono g2.ext) d2 e3 fun v S' H' al q => h v S' H' ((g1.trans g2).trans (al.go g2.rep)) q
theorem se_un {r : V → Hp → VK → Prop} {g : D → Option D} (ha : SE K ta fa) (hr : UnS K r g) : SE K (tUn r ta) (fUn g fa) := by
  intro S H s σ Q r0 h
  unfold fUn at h
  cases e : fa s with
  | none => rw [e] at h; exact h.elim
  | some x =>
    obtain ⟨a, s1⟩ := x
    rw [e] at h
    refine ha.use r0 e fun x S1 H1 g1 d1 => ?_
    simp only at h
    cases e3 : g a with
    | none => rw [e3] at h; exact h.elim
    | some z =>
      rw [e3] at h
      exact hr S1 H1 x a z Q g1.rep.sub d1 e3 fun v S' H' al q => h v S' H' (g1.trans (al.go g1.rep)) q
theorem pd_op {a b : Expr} {op : Operator} {pos : Pos} (ho : OpR X (binaryOp op) r) (hs : OpS X.K r g) (ha : PD X a ta fa) (hb : PD X b tb fb) : PD X (.BinOp a op b pos) (tOp r ta tb) (fOp g fa fb) := ⟨pe_op ho ha.pe hb.pe, se_op ha.ok hb.ok hs⟩
theorem pd_cmp {a b : Expr} {op : CmpOp} {pos : Pos} (ho : OpR X (compareOp op) r) (hs : OpS X.K r g) (ha : PD X a ta fa) (hb : PD X b tb fb) (hm : behindInMarks op b = false) : PD X (.Compare a [op] [b] pos) (tOp r ta tb) (fOp g fa fb) := ⟨pe_cmpR ho ha.pe hb.pe hm, se_op ha.ok hb.ok hs⟩
theorem pd_un {a : Expr} {op : UnaryOp} {pos : Pos} {r : V → Hp → VK → Prop} {g : D → Option D} (ho : UnR X (unaryOp op) r) (hs : UnS X.K r g) (ha : PD X a ta fa) : PD X (.UnaryOp op a pos) (tUn r ta) (fUn g fa) := ⟨pe_un ho ha.pe, se_un ha.ok hs⟩
theorem pd_ix {a b : Expr} {pos : Pos} (hr : IxR X r) (hs : OpS X.K r g) (ha : PD X a ta fa) (hb : PD X b tb fb) (hp : PlainIx b) : PD X (.Subscript a b pos) (tOp r ta tb) (fOp g fa fb) := ⟨pe_ix hr ha.pe hb.pe hp, se_op ha.ok hb.ok hs⟩

/-! ### the operators on data -/
def gI (C : Int → Int → Bool) (g : Int → Int → D) : D → D → Option D
  | .int i, .int j => if C i j = true then some (g i j) else none
  | _, _ => none
theorem os_rI {P : Int → Int → Prop} {C : Int → Int → Bool} {gv : Int → Int → V} {g : Int → Int → D} (hc : ∀ i j, C i j = true → P i j) (hv : ∀ S i j, Dt K S (gv i j) (g i j)) : OpS K (rI P gv) (gI C g) := by
  intro S H x y a b z Q sm dx dy e q
  unfold gI at e
  split at e
  · rename_i i j
    cases dx
    cases dy
    split at e
    · rename_i c
      cases e
      exact ⟨i, j, rfl, rfl, hc i j c, q _ S H (Al.refl sm) (hv S i j)⟩
    · cases e
  · cases e
def gI0 (g : Int → Int → D) : D → D → Option D
  | .int i, .int j => some (g i j)
  | _, _ => none
theorem os_rI0 {gv : Int → Int → V} {g : Int → Int → D} (hv : ∀ S i j, Dt K S (gv i j) (g i j)) : OpS K (rI0 gv) (gI0 g) := by
  intro S H x y a b z Q sm dx dy e q
  unfold gI0 at e
  split at e
  · rename_i i j
    cases dx
    cases dy
    cases e
    exact ⟨i, j, rfl, rfl, q _ S H (Al.refl sm) (hv S i j)⟩
  · cases e
def gAddI := gI0 fun i j => .int (i + j)
def gSubI := gI0 fun i j => .int (i - j)
def gLt := gI0 fun i j => .bl (decide (i < j))
def gLe := gI0 fun i j => .bl (decide (i ≤ j))
def gGt := gI0 fun i j => .bl (decide (j < i))
def gGe := gI0 fun i j => .bl (decide (j ≤ i))
/-- a factor below 2 ^ 64 -/
def small64 (i : Int) : Bool := decide (-(2 ^ 64) < i ∧ i < 2 ^ 64)
def gMul := gI (fun i j => small64 i || small64 j) fun i j => .int (i * j)
def gMod := gI (fun _ j => decide (j ≠ 0)) fun i j => .int (i.fmod j)
def gDiv := gI (fun _ j => decide (j ≠ 0 ∧ j.natAbs < 1073741824)) fun i j => .int (i.fdiv j)
/-- // by a positive number below 2 ^ 9000 -/
def gDivW := gI (fun _ j => decide (0 < j ∧ j.natAbs.log2 < 9000)) fun i j => .int (i / j)
theorem os_add : OpS K (rI0 fun i j => .int (i + j)) gAddI := os_rI0 fun _ i j => .int _
theorem os_sub : OpS K (rI0 fun i j => .int (i - j)) gSubI := os_rI0 fun _ i j => .int _
theorem os_lt : OpS K (rI0 fun i j => .bl (decide (i < j))) gLt := os_rI0 fun _ i j => .bl _
theorem os_le : OpS K (rI0 fun i j => .bl (decide (i ≤ j))) gLe := os_rI0 fun _ i j => .bl _
theorem os_gt : OpS K (rI0 fun i j => .bl (decide (j < i))) gGt := os_rI0 fun _ i j => .bl _
theorem os_ge : OpS K (rI0 fun i j => .bl (decide (j ≤ i))) gGe := os_rI0 fun _ i j => .bl _
theorem os_mul : OpS K (rI CMul fun i j => .int (i * j)) gMul := os_rI (fun i j h => by
  rcases Bool.or_eq_true_iff.mp h with z | z
  · exact .inl (of_decide_eq_true z)
  · exact .inr (of_decide_eq_true z)) fun _ i j => .int _
theorem os_mod : OpS K (rI (fun _ j => j ≠ 0) fun i j => .int (i.fmod j)) gMod := os_rI (fun i j h => by have z := of_decide_eq_true h; exact z) fun _ i j => .int _
theorem os_div : OpS K (rI CDivN fun i j => .int (i.fdiv j)) gDiv := os_rI (fun i j h => by have z := of_decide_eq_true h; exact z) fun _ i j => .int _
theorem os_divW : OpS K (rI CDivW fun i j => .int (i / j)) gDivW := os_rI (fun i j h => by have z := of_decide_eq_true h; exact z) fun _ i j => .int _
/-- a power of not too large size -/
def CPowB (i j : Int) : Prop := 0 ≤ j ∧ (Builtin.Int.intBits i : Int) * j ≤ 2 ^ 27
theorem op_powB : OpR X (binaryOp .Pow) (rI CPowB fun i j => .int (i ^ j.toNat)) := opI fun _ _ _ _ _ _ _ hc q => pow_int hc.1 hc.2 q
def gPow := gI (fun i j => decide (0 ≤ j ∧ (Builtin.Int.intBits i : Int) * j ≤ 2 ^ 27)) fun i j => .int (i ^ j.toNat)
theorem os_pow : OpS K (rI CPowB fun i j => .int (i ^ j.toNat)) gPow := os_rI (fun i j h => by have z := of_decide_eq_true h; exact z) fun _ i j => .int _
/-- == and != of data -/
def gEqD : D → D → Option D := fun a b => if SeqAt.shaped a.py && SeqAt.shaped b.py then some (.bl (PyData.eqv a.py b.py)) else none
def gNeD : D → D → Option D := fun a b => if SeqAt.shaped a.py && SeqAt.shaped b.py then some (.bl (!PyData.eqv a.py b.py)) else none
theorem os_eqD : OpS K (rEqD K) gEqD := by
  intro S H x y a b z Q sm dx dy e q
  unfold gEqD at e
  split at e
  · rename_i c
    cases e
    obtain ⟨c1, c2⟩ := Bool.and_eq_true_iff.mp c
    exact ⟨_, _, (dx.mono sm).dp (SeqAt.canLay_of_shaped c1), (dy.mono sm).dp (SeqAt.canLay_of_shaped c2), c1, c2, q _ S H (Al.refl sm) (.bl _)⟩
  · cases e
theorem os_neD : OpS K (rNeD K) gNeD := by
  intro S H x y a b z Q sm dx dy e q
  unfold gNeD at e
  split at e
  · rename_i c
    cases e
    obtain ⟨c1, c2⟩ := Bool.and_eq_true_iff.mp c
    exact ⟨_, _, (dx.mono sm).dp (SeqAt.canLay_of_shaped c1), (dy.mono sm).dp (SeqAt.canLay_of_shaped c2), c1, c2, q _ S H (Al.refl sm) (.bl _)⟩
  · cases e
/-- x in xs, a list -/
def gInD : D → D → Option D
  | a, .lst ds => if SeqAt.shaped a.py && SeqAt.shaped (D.lst ds).py then some (.bl ((D.pys ds).any fun z => PyData.eqv z a.py)) else none
  | _, _ => none
def gNotInD : D → D → Option D
  | a, .lst ds => if SeqAt.shaped a.py && SeqAt.shaped (D.lst ds).py then some (.bl (!(D.pys ds).any fun z => PyData.eqv z a.py)) else none
  | _, _ => none
theorem os_inD : OpS K (rInD K) gInD := by
  intro S H x y a b z Q sm dx dy e q
  unfold gInD at e
  split at e
  · rename_i ds
    split at e
    · rename_i c
      cases e
      obtain ⟨c1, c2⟩ := Bool.and_eq_true_iff.mp c
      refine ⟨_, D.pys ds, (dx.mono sm).dp (SeqAt.canLay_of_shaped c1), ?_, c1, ?_, q _ S H (Al.refl sm) (.bl _)⟩
      · have := (dy.mono sm).dp (SeqAt.canLay_of_shaped c2)
        simpa [D.py] using this
      · simpa [D.py] using c2
    · cases e
  · cases e
theorem os_notInD : OpS K (rNotInD K) gNotInD := by
  intro S H x y a b z Q sm dx dy e q
  unfold gNotInD at e
  split at e
  · rename_i ds
    split at e
    · rename_i c
      cases e
      obtain ⟨c1, c2⟩ := Bool.and_eq_true_iff.mp c
      refine ⟨_, D.pys ds, (dx.mono sm).dp (SeqAt.canLay_of_shaped c1), ?_, c1, ?_, q _ S H (Al.refl sm) (.bl _)⟩
      · have := (dy.mono sm).dp (SeqAt.canLay_of_shaped c2)
        simpa [D.py] using this
      · simpa [D.py] using c2
    · cases e
  · cases e
/-- texts -/
def gS (C : Str → Str → Bool) (g : Str → Str → D) : D → D → Option D
  | .str i, .str j => if C i j = true then some (g i j) else none
  | _, _ => none
def gAddS := gS (fun i j => decide (i.length + j.length ≤ sizeLine)) fun i j => .str (i ++ j)
theorem os_addS : OpS K (fun x y H Q => ∃ i j, x = .str i ∧ y = .str j ∧ i.length + j.length ≤ sizeLine ∧ Q (.str (i ++ j)) H) gAddS := by
  intro S H x y a b z Q sm dx dy e q
  unfold gAddS gS at e
  split at e
  · rename_i i j
    cases dx
    cases dy
    split at e
    · rename_i c
      cases e
      exact ⟨i, j, rfl, rfl, of_decide_eq_true c, q _ S H (Al.refl sm) (.str _)⟩
    · cases e
  · cases e
def gLeS := gS (fun _ _ => true) fun i j => .bl (!decide (j.cps.toList < i.cps.toList))
theorem os_leS : OpS K (fun x y H Q => ∃ i j, x = .str i ∧ y = .str j ∧ Q (.bl (!decide (j.cps.toList < i.cps.toList))) H) gLeS := by
  intro S H x y a b z Q sm dx dy e q
  unfold gLeS gS at e
  split at e
  · rename_i i j
    cases dx
    cases dy
    cases e
    exact ⟨i, j, rfl, rfl, q _ S H (Al.refl sm) (.bl _)⟩
  · cases e
/-- list + list, tuple + tuple, list * n -/
def gCat : D → D → Option D
  | .lst a, .lst b => if a.length + b.length ≤ sizeLine then some (.lst (a ++ b)) else none
  | _, _ => none
theorem os_cat : OpS K rCat gCat := by
  intro S H x y a b z Q sm dx dy e q
  unfold gCat at e
  split at e
  · cases dx with
    | lst ha da =>
      cases dy with
      | lst hb db =>
        split at e
        · rename_i c
          cases e
          rw [← da.length, ← db.length] at c
          refine ⟨_, _, _, _, rfl, rfl, sm _ _ ha, sm _ _ hb, c, fun p hp => ?_⟩
          exact q _ _ _ (Al.new sm hp) (.lst upd_same ((da.app db).mono (Al.new sm hp).ext))
        · cases e
  · cases e
def gCatT : D → D → Option D
  | .tup (x :: a), .tup (y :: b) => if (x :: a).length + (y :: b).length ≤ sizeLine then some (.tup ((x :: a) ++ (y :: b))) else none
  | _, _ => none
theorem os_catT : OpS K (rCatT K) gCatT := by
  intro S H x y a b z Q sm dx dy e q
  unfold gCatT at e
  split at e
  · cases dx with
    | tup ha da =>
      cases dy with
      | tup hb db =>
        split at e
        · rename_i c
          cases e
          rw [← da.length, ← db.length] at c
          cases da with
          | cons d1 da =>
            cases db with
            | cons d2 db =>
              refine ⟨_, _, _, _, rfl, rfl, same_t sm ha, same_t sm hb, List.cons_ne_nil _ _, c, (fun z => nomatch z), fun _ p hp => ?_⟩
              exact q _ _ _ (Al.new sm hp) (.tup (.inl (.inl upd_same)) (((DtA.cons d1 da).app (DtA.cons d2 db)).mono (Al.new sm hp).ext))
        · cases e
  · cases e
theorem DtA.rep {S : Hp} : ∀ {vs : List V} {ds : List D} (n : Nat), DtA K S vs ds → DtA K S (List.replicate n vs).flatten (List.replicate n ds).flatten
  | _, _, 0, _ => by simp; exact .nil
  | _, _, n + 1, h => by
    rw [List.replicate_succ, List.replicate_succ, List.flatten_cons, List.flatten_cons]
    exact h.app (DtA.rep n h)
def gRep : D → D → Option D
  | .lst a, .int k => if -(2 ^ 63) ≤ k ∧ k < 2 ^ 63 ∧ a.length * k.toNat ≤ sizeLine then some (.lst (List.replicate k.toNat a).flatten) else none
  | _, _ => none
theorem os_rep : OpS K rRep gRep := by
  intro S H x y a b z Q sm dx dy e q
  unfold gRep at e
  split at e
  · cases dx with
    | lst ha da =>
      cases dy
      split at e
      · rename_i c
        cases e
        obtain ⟨c1, c2, c3⟩ := c
        rw [← da.length] at c3
        refine ⟨_, _, _, rfl, rfl, sm _ _ ha, c1, c2, c3, fun p hp => ?_⟩
        exact q _ _ _ (Al.new sm hp) (.lst upd_same ((da.rep _).mono (Al.new sm hp).ext))
      · cases e
  · cases e
/-- t[i], xs[i] -/
theorem DtA.atI {S : Hp} {vs : List V} {ds : List D} {i : Int} {d : D} (h : DtA K S vs ds) (e : L2.atI ds i = some d) : ∃ v, L2.atI vs i = some v ∧ Dt K S v d := by
  unfold L2.atI at e ⊢
  rw [h.length]
  cases ej : ixN ds.length i with
  | none => rw [ej] at e; cases e
  | some j =>
    rw [ej] at e
    exact h.get e
def gIxT : D → D → Option D
  | .tup xs, .int i => atI xs i
  | _, _ => none
def gIxL : D → D → Option D
  | .lst xs, .int i => atI xs i
  | .rl xs, .int i => atI xs i
  | _, _ => none
theorem os_ixT : OpS K (rIxT K) gIxT := by
  intro S H x y a b z Q sm dx dy e q
  unfold gIxT at e
  split at e
  · cases dx with
    | tup ha da =>
      cases dy
      obtain ⟨v, e1, h1⟩ := da.atI e
      exact ⟨_, _, _, v, rfl, rfl, same_t sm ha, e1, q v S H (Al.refl sm) h1⟩
  · cases e
theorem os_ixL : OpS K (rIxL K) gIxL := by
  intro S H x y a b z Q sm dx dy e q
  unfold gIxL at e
  split at e
  · cases dx with
    | lst ha da =>
      cases dy
      obtain ⟨v, e1, h1⟩ := da.atI e
      exact ⟨_, _, _, v, rfl, rfl, .inl (.inl (sm _ _ ha)), e1, q v S H (Al.refl sm) h1⟩
  · cases dx with
    | rl ha da =>
      cases dy
      obtain ⟨v, e1, h1⟩ := da.atI e
      exact ⟨_, _, _, v, rfl, rfl, sm.seq ha, e1, q v S H (Al.refl sm) h1⟩
  · cases e
def gIsB : D → D → Option D
  | .bl a, .bl b => some (.bl (decide (a = b)))
  | _, _ => none
theorem os_isB : OpS K (fun x y H Q => ∃ a b, x = .bl a ∧ y = .bl b ∧ Q (.bl (decide (a = b))) H) gIsB := by
  intro S H x y a b z Q sm dx dy e q
  unfold gIsB at e
  split at e
  · cases dx
    cases dy
    cases e
    exact ⟨_, _, rfl, rfl, q _ S H (Al.refl sm) (.bl _)⟩
  · cases e
def gNeg : D → Option D
  | .int i => some (.int (-i))
  | _ => none

/-! ### tests -/
def fB (f : FE) : FT := fun s => match f s with
  | some (.bl b, s1) => some (b, s1)
  | _ => none
def fNot (f : FT) : FT := fun s => match f s with
  | some (b, s1) => some (!b, s1)
  | none => none
def fAnd (f g : FT) : FT := fun s => match f s with
  | some (true, s1) => g s1
  | some (false, s1) => some (false, s1)
  | none => none
def fOr (f g : FT) : FT := fun s => match f s with
  | some (true, s1) => some (true, s1)
  | some (false, s1) => g s1
  | none => none
def fAndV (f g : FE) : FE := fun s => match f s with
  | some (.bl true, s1) => g s1
  | some (.bl false, s1) => some (.bl false, s1)
  | _ => none
def fOrV (f g : FE) : FE := fun s => match f s with
  | some (.bl true, s1) => some (.bl true, s1)
  | some (.bl false, s1) => g s1
  | _ => none
def fNotV (f : FE) : FE := fun s => match f s with
  | some (.bl b, s1) => some (.bl (!b), s1)
  | _ => none
def fIf (c : FT) (f g : FE) : FE := fun s => match c s with
  | some (true, s1) => f s1
  | some (false, s1) => g s1
  | none => none
variable {tA tB' : TT} {fA gB : FT}
theorem st_B (h : SE K ta fa) : ST K (tB ta) (fB fa) := by
  intro S H s σ Q r q
  unfold fB at q
  split at q
  · rename_i b s1 e
    refine h.use r e fun v S' H' g d => ?_
    cases d
    exact ⟨b, rfl, q S' H' g⟩
  · exact q.elim
theorem st_test (h : SE K ta fa) : ST K (tTest ta) (fB fa) := by
  intro S H s σ Q r q
  unfold fB at q
  split at q
  · rename_i b s1 e
    refine h.use r e fun v S' H' g d => ?_
    cases d
    exact ⟨b, rfl, q S' H' g⟩
  · exact q.elim
theorem st_not (h : ST K tA fA) : ST K (tNot tA) (fNot fA) := by
  intro S H s σ Q r q
  unfold fNot at q
  split at q
  · rename_i b s1 e
    exact h.use r e fun S' H' g => q S' H' g
  · exact q.elim
theorem qt_go {r : Option (Bool × Sd)} {S H S1 H1 : Hp} {s s1 : Sd} {σ : L2.St} {Q : Bool → Hp → Prop} (g : Go K S H s σ S1 H1 s1 σ) (h : QT K r S H s σ Q) : QT K r S1 H1 s1 σ Q := by
  cases r with
  | none => exact h
  | some x => exact fun S' H' g' => h S' H' (g.trans g')
theorem qe_go {r : Option (D × Sd)} {S H S1 H1 : Hp} {s s1 : Sd} {σ : L2.St} {Q : VK} (g : Go K S H s σ S1 H1 s1 σ) (h : QE K r S H s σ Q) : QE K r S1 H1 s1 σ Q := by
  cases r with
  | none => exact h
  | some x => exact fun v S' H' g' d => h v S' H' (g.trans g') d
theorem st_and (h : ST K tA fA) (k : ST K tB' gB) : ST K (tAnd tA tB') (fAnd fA gB) := by
  intro S H s σ Q r q
  unfold fAnd at q
  split at q
  · rename_i s1 e
    refine h.use r e fun S' H' g => ?_
    exact iteT (k S' H' s1 σ Q g.rep (qt_go g q))
  · rename_i s1 e
    exact h.use r e fun S' H' g => iteF (q S' H' g)
  · exact q.elim
theorem st_or (h : ST K tA fA) (k : ST K tB' gB) : ST K (tOr tA tB') (fOr fA gB) := by
  intro S H s σ Q r q
  unfold fOr at q
  split at q
  · rename_i s1 e
    exact h.use r e fun S' H' g => iteT (q S' H' g)
  · rename_i s1 e
    refine h.use r e fun S' H' g => ?_
    exact iteF (k S' H' s1 σ Q g.rep (qt_go g q))
  · exact q.elim
theorem se_andV (h : SE K ta fa) (k : SE K tb fb) : SE K (tAndV ta tb) (fAndV fa fb) := by
  intro S H s σ Q r q
  unfold fAndV at q
  split at q
  · rename_i s1 e
    refine h.use r e fun v S' H' g d => ?_
    cases d
    exact ⟨true, rfl, iteT (k S' H' s1 σ Q g.rep (qe_go g q))⟩
  · rename_i s1 e
    refine h.use r e fun v S' H' g d => ?_
    cases d
    exact ⟨false, rfl, iteF (q _ S' H' g (.bl _))⟩
  · exact q.elim
theorem se_orV (h : SE K ta fa) (k : SE K tb fb) : SE K (tOrV ta tb) (fOrV fa fb) := by
  intro S H s σ Q r q
  unfold fOrV at q
  split at q
  · rename_i s1 e
    refine h.use r e fun v S' H' g d => ?_
    cases d
    exact ⟨true, rfl, iteT (q _ S' H' g (.bl _))⟩
  · rename_i s1 e
    refine h.use r e fun v S' H' g d => ?_
    cases d
    exact ⟨false, rfl, iteF (k S' H' s1 σ Q g.rep (qe_go g q))⟩
  · exact q.elim
theorem se_notV (h : SE K ta fa) : SE K (tNotV ta) (fNotV fa) := by
  intro S H s σ Q r q
  unfold fNotV at q
  split at q
  · rename_i b s1 e
    refine h.use r e fun v S' H' g d => ?_
    cases d
    exact ⟨b, rfl, q _ S' H' g (.bl _)⟩
  · exact q.elim
theorem se_if (h : ST K tA fA) (k1 : SE K ta fa) (k2 : SE K tb fb) : SE K (tIf tA ta tb) (fIf fA fa fb) := by
  intro S H s σ Q r q
  unfold fIf at q
  split at q
  · rename_i s1 e
    refine h.use r e fun S' H' g => ?_
    exact iteT (k1 S' H' s1 σ Q g.rep (qe_go g q))
  · rename_i s1 e
    refine h.use r e fun S' H' g => ?_
    exact iteF (k2 S' H' s1 σ Q g.rep (qe_go g q))
  · exact q.elim
variable {a b c e : Expr} {rest : List Expr} {pos : Pos} {tU tW : TT} {fU fW : FT}
theorem pdt_val (h : PD X a ta fa) (he : ∀ whole, isTrue a X.env whole = (do let v ← whole; standAt a.pos; holding [v] (truthy v)) := by intro _; rfl) : PDt X a (tB ta) (fB fa) := ⟨pt_val h.pe he, st_B h.ok⟩
theorem pdt_cmp {op : CmpOp} (ho : OpR X (compareOp op) r) (hs : OpS X.K r g) (ha : PD X a ta fa) (hb : PD X b tb fb) (hm : behindInMarks op b = false) : PDt X (.Compare a [op] [b] pos) (tTest (tOp r ta tb)) (fB (fOp g fa fb)) := ⟨pt_cmpR ho ha.pe hb.pe hm, st_test (se_op ha.ok hb.ok hs)⟩
theorem pdt_not (h : PDt X a tU fU) : PDt X (.UnaryOp .Not a pos) (tNot tU) (fNot fU) := ⟨pt_not h.pe, st_not h.ok⟩
theorem pdw_and1 (h : PDt X a tU fU) : PDw X (.BoolOp .And [a] pos) tU fU := ⟨pw_and1 h.pe, h.ok⟩
theorem pdw_or1 (h : PDt X a tU fU) : PDw X (.BoolOp .Or [a] pos) tU fU := ⟨pw_or1 h.pe, h.ok⟩
theorem pdw_and (h : PDt X a tU fU) (k : PDw X (.BoolOp .And (b :: rest) pos) tW fW) : PDw X (.BoolOp .And (a :: b :: rest) pos) (tAnd tU tW) (fAnd fU fW) := ⟨pw_and h.pe k.pe, st_and h.ok k.ok⟩
theorem pdw_or (h : PDt X a tU fU) (k : PDw X (.BoolOp .Or (b :: rest) pos) tW fW) : PDw X (.BoolOp .Or (a :: b :: rest) pos) (tOr tU tW) (fOr fU fW) := ⟨pw_or h.pe k.pe, st_or h.ok k.ok⟩
theorem pdt_w (h : PDw X e tU fU) : PDt X e tU fU := ⟨h.pe.pt, h.ok⟩
theorem pd_one {op} (h : PD X a ta fa) : PD X (.BoolOp op [a] pos) ta fa := ⟨pe_one h.pe, h.ok⟩
theorem pd_and (h : PD X a ta fa) (k : PD X (.BoolOp .And (b :: rest) pos) tb fb) : PD X (.BoolOp .And (a :: b :: rest) pos) (tAndV ta tb) (fAndV fa fb) := ⟨pe_and h.pe k.pe, se_andV h.ok k.ok⟩
theorem pd_or (h : PD X a ta fa) (k : PD X (.BoolOp .Or (b :: rest) pos) tb fb) : PD X (.BoolOp .Or (a :: b :: rest) pos) (tOrV ta tb) (fOrV fa fb) := ⟨pe_or h.pe k.pe, se_orV h.ok k.ok⟩
theorem pd_not (h : PD X a ta fa) : PD X (.UnaryOp .Not a pos) (tNotV ta) (fNotV fa) := ⟨pe_not h.pe, se_notV h.ok⟩
theorem pd_if (h : PDt X c tU fU) (ha : PD X a ta fa) (hb : PD X b tb fb) : PD X (.IfExp c a b pos) (tIf tU ta tb) (fIf fU fa fb) := ⟨pe_ifExp h.pe ha.pe hb.pe, se_if h.ok ha.ok hb.ok⟩
/-- a < b < c -/
def fChain (g g' : D → D → Option D) (fa fb fc : FE) : FE := fun s => match fa s with
  | none => none
  | some (a, s1) => match fb s1 with
    | none => none
    | some (b, s2) => match g a b with
      | some (.bl true) => match fc s2 with
        | none => none
        | some (c, s3) => match g' b c with
          | none => none
          | some z => some (z, s3)
      | some (.bl false) => some (.bl false, s2)
      | _ => none
theorem se_chain (ha : SE K ta fa) (hb : SE K tb fb) (hc : SE K tc fc) (hr : OpS K r g) (hr' : OpS K r' g') : SE K (tChain r r' ta tb tc) (fChain g g' fa fb fc) := by
  intro S H s σ Q r0 h
  unfold fChain at h
  cases e : fa s with
  | none => rw [e] at h; exact h.elim
  | some x =>
    obtain ⟨a, s1⟩ := x
    rw [e] at h
    refine ha.use r0 e fun x S1 H1 g1 d1 => ?_
    simp only at h
    cases e2 : fb s1 with
    | none => rw [e2] at h; exact h.elim
    | some y =>
      obtain ⟨b, s2⟩ := y
      rw [e2] at h
      simp only at h
      refine hb.use g1.rep e2 fun y S2 H2 g2 d2 => ?_
      have g12 := g1.trans g2
      split at h
      · rename_i e3
        refine hr S2 H2 x y a b _ _ g2.rep.sub (d1.mono g2.ext) d2 e3 fun v S3 H3 al dv => ?_
        cases dv
        refine ⟨true, rfl, iteT ?_⟩
        have g3 := g12.trans (al.go g2.rep)
        cases e4 : fc s2 with
        | none => rw [e4] at h; exact h.elim
        | some w =>
          obtain ⟨c, s3⟩ := w
          rw [e4] at h
          simp only at h
          refine hc.use g3.rep e4 fun w S4 H4 g4 d4 => ?_
          cases e5 : g' b c with
          | none => rw [e5] at h; exact h.elim
          | some z =>
            rw [e5] at h
            exact hr' S4 H4 y w b c z Q g4.rep.sub ((d2.mono al.ext).mono g4.ext) d4 e5 fun v S' H' al q => h v S' H' ((g3.trans g4).trans (al.go g4.rep)) q
      · rename_i e3
        refine hr S2 H2 x y a b _ _ g2.rep.sub (d1.mono g2.ext) d2 e3 fun v S3 H3 al dv => ?_
        cases dv
        exact ⟨false, rfl, iteF (h _ _ _ (g12.trans (al.go g2.rep)) (.bl _))⟩
      · exact h.elim
theorem pd_chain {op op' : CmpOp} (ho : OpR X (compareOp op) r) (hs : OpS X.K r g) (ho' : OpR X (compareOp op') r') (hs' : OpS X.K r' g') (ha : PD X a ta fa) (hb : PD X b tb fb) (hc : PD X c tc fc)
    (hm : lastMarks [op, op'] [b, c] = false := by with_unfolding_all rfl) : PD X (.Compare a [op, op'] [b, c] pos) (tChain r r' ta tb tc) (fChain g g' fa fb fc) := ⟨pe_chain ho ho' ha.pe hb.pe hc.pe hm, se_chain ha.ok hb.ok hc.ok hs hs'⟩
theorem pdt_chain {op op' : CmpOp} (ho : OpR X (compareOp op) r) (hs : OpS X.K r g) (ho' : OpR X (compareOp op') r') (hs' : OpS X.K r' g') (ha : PD X a ta fa) (hb : PD X b tb fb) (hc : PD X c tc fc)
    (hm : lastMarks [op, op'] [b, c] = false := by with_unfolding_all rfl) : PDt X (.Compare a [op, op'] [b, c] pos) (tTest (tChain r r' ta tb tc)) (fB (fChain g g' fa fb fc)) := ⟨pt_chain ho ho' ha.pe hb.pe hc.pe hm, st_test (se_chain ha.ok hb.ok hc.ok hs hs')⟩

/-! ### argument lists, displays -/
def fNil : FA := fun s => some ([], s)
def fCons (f : FE) (g : FA) : FA := fun s => match f s with
  | none => none
  | some (d, s1) => match g s1 with
    | none => none
    | some (ds, s2) => some (d :: ds, s2)
variable {es : List Expr} {tr : TA} {fr : FA}
theorem sa_nil : SA K tNil fNil := fun S H s σ Q r h => h [] S H (Go.refl r) .nil
theorem sa_cons (h : SE K te fa) (k : SA K tr fr) : SA K (tCons te tr) (fCons fa fr) := by
  intro S H s σ Q r q
  unfold fCons at q
  cases e : fa s with
  | none => rw [e] at q; exact q.elim
  | some x =>
    obtain ⟨d, s1⟩ := x
    rw [e] at q
    simp only at q
    refine h.use r e fun v S1 H1 g1 d1 => ?_
    cases e2 : fr s1 with
    | none => rw [e2] at q; exact q.elim
    | some y =>
      obtain ⟨ds, s2⟩ := y
      rw [e2] at q
      exact k.use g1.rep e2 fun vs S2 H2 g2 d2 => q _ S2 H2 (g1.trans g2) (.cons (d1.mono g2.ext) d2)
theorem pda_nil : PDa X [] tNil fNil := ⟨pa_nil, sa_nil⟩
theorem pda_cons (h : PD X e te fa) (k : PDa X es tr fr) (hs : starEach (e :: es) X.env = (false, eval e X.env) :: starEach es X.env := by rfl) : PDa X (e :: es) (tCons te tr) (fCons fa fr) := ⟨pa_cons h.pe k.pe hs, sa_cons h.ok k.ok⟩
def fTup (f : FA) : FE := fun s => match f s with
  | none => none
  | some (ds, s1) => if ds.length ≤ 100000 then some (.tup ds, s1) else none
def fLst (f : FA) : FE := fun s => match f s with
  | none => none
  | some (ds, s1) => if ds.length ≤ 100000 then some (.lst ds, s1) else none
theorem sz_of {n : Nat} (h : n ≤ 100000) : n ≤ sizeLine := Nat.le_trans h (by decide)
theorem sz_lt {n : Nat} (h : n < 100000) : n < sizeLine := Nat.lt_of_lt_of_le h (by decide)
theorem se_tup (h : SA K tr fr) : SE K (tTup tr) (fTup fr) := by
  intro S H s σ Q r q
  unfold fTup at q
  cases e : fr s with
  | none => rw [e] at q; exact q.elim
  | some x =>
    obtain ⟨ds, s1⟩ := x
    rw [e] at q
    simp only at q
    split at q
    · rename_i c
      refine h.use r e fun vs S1 H1 g d => ⟨sz_of (by rw [d.length]; exact c), fun p hp => ?_⟩
      have al := Al.new (o := HO.tup vs) g.rep.sub hp
      exact q _ _ _ (g.trans (al.go g.rep)) (.tup (.inl (.inl upd_same)) (d.mono al.ext))
    · exact q.elim
theorem se_lst (h : SA K tr fr) : SE K (tLst tr) (fLst fr) := by
  intro S H s σ Q r q
  unfold fLst at q
  cases e : fr s with
  | none => rw [e] at q; exact q.elim
  | some x =>
    obtain ⟨ds, s1⟩ := x
    rw [e] at q
    simp only at q
    split at q
    · rename_i c
      refine h.use r e fun vs S1 H1 g d => ⟨sz_of (by rw [d.length]; exact c), fun p hp => ?_⟩
      have al := Al.new (o := HO.lst vs) g.rep.sub hp
      exact q _ _ _ (g.trans (al.go g.rep)) (.lst upd_same (d.mono al.ext))
    · exact q.elim
theorem pd_tup {x1} (h : PDa X es tr fr) : PD X (.Tuple es x1 pos) (tTup tr) (fTup fr) := ⟨pe_tup h.pe, se_tup h.ok⟩
theorem pd_lst (h : PDa X es tr fr) : PD X (.List es pos) (tLst tr) (fLst fr) := ⟨pe_lst h.pe, se_lst h.ok⟩

/-! ### calls of built-ins -/
def CallS (K : PySem.W.Frag) (r : List V → Hp → VK → Prop) (g : List D → Option D) : Prop := ∀ S H vs ds z Q, Same S H → DtA K S vs ds → g ds = some z → (∀ v S' H', Al S H S' H' → Dt K S' v z → Q v H') → r vs H Q
def fCB (g : List D → Option D) (f : FA) : FE := fun s => match f s with
  | none => none
  | some (ds, s1) => match g ds with
    | none => none
    | some z => some (z, s1)
theorem se_cb {r : List V → Hp → VK → Prop} {g : List D → Option D} (h : SA K tr fr) (hr : CallS K r g) : SE K (tCB r tr) (fCB g fr) := by
  intro S H s σ Q r0 q
  unfold fCB at q
  cases e : fr s with
  | none => rw [e] at q; exact q.elim
  | some x =>
    obtain ⟨ds, s1⟩ := x
    rw [e] at q
    simp only at q
    refine h.use r0 e fun vs S1 H1 g1 d => ?_
    cases e2 : g ds with
    | none => rw [e2] at q; exact q.elim
    | some z =>
      rw [e2] at q
      exact hr S1 H1 vs ds z Q g1.rep.sub d e2 fun v S' H' al dv => q v S' H' (g1.trans (al.go g1.rep)) dv
theorem pd_callB {r : List V → Hp → VK → Prop} {g : List D → Option D} {id : String} {x : Str} {p : Pos} (hc : CallR X (.builtin id) r) (hs : CallS X.K r g) (hg : Gl X x) (hm : X.mg x = none) (hv : bootBuiltins x = some (.builtin id)) (ha : PDa X (e :: es) tr fr) (hn : x ≠ "__name__" := by decide) (hdb : (x == ("__debug__" : Str)) = false := by decide)
    (he : starEach (e :: es) X.env = (false, eval e X.env) :: starEach es X.env := by rfl) (hpl : (backTo pos (starEach es X.env)).any (·.1) = false := by rfl) : PD X (.Call (.Name x p) (e :: es) [] pos) (tCB r tr) (fCB g fr) := ⟨pe_callB hc hg hm hv ha.pe hn hdb he hpl, se_cb ha.ok hs⟩
theorem pd_callTy {r : List V → Hp → VK → Prop} {g : List D → Option D} {T : String} {x : Str} {p : Pos} (hc : CallR X (.type T) r) (hs : CallS X.K r g) (hg : Gl X x) (hm : X.mg x = none) (hv : bootBuiltins x = some (.type T)) (ha : PDa X (e :: es) tr fr) (hn : x ≠ "__name__" := by decide) (hdb : (x == ("__debug__" : Str)) = false := by decide)
    (he : starEach (e :: es) X.env = (false, eval e X.env) :: starEach es X.env := by rfl) (hpl : (backTo pos (starEach es X.env)).any (·.1) = false := by rfl) : PD X (.Call (.Name x p) (e :: es) [] pos) (tCB r tr) (fCB g fr) := ⟨pe_callTy hc hg hm hv ha.pe hn hdb he hpl, se_cb ha.ok hs⟩
theorem pd_callBf {r : List V → Hp → VK → Prop} {g : List D → Option D} {id : String} {x : Str} {p : Pos} (hc : CallR X (.builtin id) r) (hs : CallS X.K r g) (hg : Gl X x) (hm : X.mg x = some (.builtin id)) (ha : PDa X (e :: es) tr fr) (hdb : (x == ("__debug__" : Str)) = false := by decide)
    (he : starEach (e :: es) X.env = (false, eval e X.env) :: starEach es X.env := by rfl) (hpl : (backTo pos (starEach es X.env)).any (·.1) = false := by rfl) : PD X (.Call (.Name x p) (e :: es) [] pos) (tCB r tr) (fCB g fr) := ⟨pe_callBfun hc hg hm ha.pe hdb he hpl, se_cb ha.ok hs⟩
end
end DL
namespace DL
open PySem PySem.Spec PyProof.Rows L2

/-! ### statements -/
inductive Fl where
  | nx
  | rt (d : D)
  /-- returned: a new list, its items -/
  | rn (ds : List D)
  | bk
  | ct
abbrev FS := Sd → Option (Fl × Sd)
def QS (K : PySem.W.Frag) (r : Option (Fl × Sd)) (S H : Hp) (s : Sd) (σ : L2.St) (N : Ends) : Prop := match r with
  | some (.nx, s') => ∀ S' H' σ', Go K S H s σ S' H' s' σ' → N.nx σ' H'
  | some (.rt d, s') => ∀ v S' H' σ', Go K S H s σ S' H' s' σ' → Dt K S' v d → N.rt v H'
  | some (.rn ds, s') => ∀ p vs S' H' σ', Go K S H s σ S' H' s' σ' → H p = none → H' p = some (.lst vs) → S' p = none → ¬ Own s' σ' p → DtA K S' vs ds → N.rt (.ref p) H'
  | some (.bk, s') => ∀ S' H' σ', Go K S H s σ S' H' s' σ' → N.bk σ' H'
  | some (.ct, s') => ∀ S' H' σ', Go K S H s σ S' H' s' σ' → N.ct σ' H'
  | none => False
def SS (K : PySem.W.Frag) (t : TS) (f : FS) : Prop := ∀ S H s σ N, Rep K S H s σ → QS K (f s) S H s σ N → t N σ H
structure PDs (X : Cx) (st : Stmt) (t : TS) (f : FS) : Prop where
  ps : PS X st t
  ok : SS X.K t f
structure PDss (X : Cx) (st : List Stmt) (t : TS) (f : FS) : Prop where
  ps : PSs X st t
  ok : SS X.K t f
def SG (K : PySem.W.Frag) (g : TG) (f : D → Sd → Option Sd) : Prop := ∀ S H s σ v d Q, Rep K S H s σ → Dt K S v d → (match f d s with
  | some s1 => ∀ S' H' σ', Go K S H s σ S' H' s1 σ' → Q σ' H'
  | none => False) → g v σ H Q
def SGs (K : PySem.W.Frag) (g : TGs) (f : List D → Sd → Option Sd) : Prop := ∀ S H s σ vs ds Q, Rep K S H s σ → DtA K S vs ds → (match f ds s with
  | some s1 => ∀ S' H' σ', Go K S H s σ S' H' s1 σ' → Q σ' H'
  | none => False) → g vs σ H Q
section
variable {X : Cx} {K : PySem.W.Frag} {S H S1 H1 : Hp} {s s1 : Sd} {σ σ1 : L2.St} {t u tb : TS} {f g fb : FS} {te : TE} {fe : FE} {tc : TT} {fc : FT} {N : Ends}
theorem qs_go {r : Option (Fl × Sd)} (g : Go K S H s σ S1 H1 s1 σ1) (h : QS K r S H s σ N) : QS K r S1 H1 s1 σ1 N := by
  cases r with
  | none => exact h
  | some x =>
    obtain ⟨fl, s2⟩ := x
    cases fl with
    | nx => exact fun S' H' σ' g' => h S' H' σ' (g.trans g')
    | rt d => exact fun v S' H' σ' g' q => h v S' H' σ' (g.trans g') q
    | rn ds => exact fun p vs S' H' σ' g' e0 e1 e2 e3 q => h p vs S' H' σ' (g.trans g') (g.live p e0) e1 e2 e3 q
    | bk => exact fun S' H' σ' g' => h S' H' σ' (g.trans g')
    | ct => exact fun S' H' σ' g' => h S' H' σ' (g.trans g')
def fNx : FS := fun s => some (.nx, s)
def fSeq (f g : FS) : FS := fun s => match f s with
  | some (.nx, s1) => g s1
  | r => r
theorem ss_next : SS K tNext fNx := fun S H s σ N r h => h S H σ (Go.refl r)
theorem ss_seq (h : SS K t f) (k : SS K u g) : SS K (tSeq t u) (fSeq f g) := by
  intro S H s σ N r q
  refine h S H s σ _ r ?_
  unfold fSeq at q
  cases e : f s with
  | none => rw [e] at q; exact q.elim
  | some x =>
    obtain ⟨fl, s1⟩ := x
    rw [e] at q
    cases fl with
    | nx => exact fun S' H' σ' g' => k S' H' s1 σ' N g'.rep (qs_go g' q)
    | rt d => exact q
    | rn ds => exact q
    | bk => exact q
    | ct => exact q
theorem dss_nil : PDss X [] tNext fNx := ⟨pss_nil, ss_next⟩
theorem dss_cons {st : Stmt} {rest : List Stmt} (h : PDs X st t f) (k : PDss X rest u g) : PDss X (st :: rest) (tSeq t u) (fSeq f g) := ⟨pss_cons h.ps k.ps, ss_seq h.ok k.ok⟩
theorem dss_one {st : Stmt} (h : PDs X st t f) : PDss X [st] t f := ⟨pss_one h.ps, h.ok⟩
theorem ds_pass {pos} : PDs X (.Pass pos) tNext fNx := ⟨ps_pass, ss_next⟩
theorem ds_break {pos} : PDs X (.Break pos) tBreak (fun s => some (.bk, s)) := ⟨ps_break, fun S H s σ N r h => h S H σ (Go.refl r)⟩
theorem ds_cont {pos} : PDs X (.Continue pos) tCont (fun s => some (.ct, s)) := ⟨ps_continue, fun S H s σ N r h => h S H σ (Go.refl r)⟩
/-- a statement that is never reached -/
theorem ds_never {st : Stmt} : PDs X st tNever (fun _ => none) := ⟨ps_never, fun _ _ _ _ _ _ h => h⟩
def fRet (f : FE) : FS := fun s => match f s with
  | some (d, s1) => some (.rt d, s1)
  | none => none
theorem ss_ret (h : SE K te fe) : SS K (tRet te) (fRet fe) := by
  intro S H s σ N r q
  unfold fRet at q
  cases e : fe s with
  | none => rw [e] at q; exact q.elim
  | some x =>
    obtain ⟨d, s1⟩ := x
    rw [e] at q
    exact h.use r e fun v S' H' g dv => q v S' H' σ g dv
theorem ds_ret {e : Expr} {pos} (h : PD X e te fe) : PDs X (.Return (some e) pos) (tRet te) (fRet fe) := ⟨ps_ret h.pe, ss_ret h.ok⟩
/-- return [..] -/
def fRetN (f : FA) : FS := fun s => match f s with
  | some (ds, s1) => if ds.length ≤ 100000 then some (.rn ds, s1) else none
  | none => none
theorem ss_retN {tr : TA} {fr : FA} (h : SA K tr fr) : SS K (tRet (tLst tr)) (fRetN fr) := by
  intro S H s σ N r q
  unfold fRetN at q
  cases e : fr s with
  | none => rw [e] at q; exact q.elim
  | some x =>
    obtain ⟨ds, s1⟩ := x
    rw [e] at q
    simp only at q
    by_cases c : ds.length ≤ 100000
    · rw [if_pos c] at q
      refine h.use r e fun vs S1 H1 g d => ⟨sz_of (by rw [d.length]; exact c), fun p hp => ?_⟩
      have hS : S1 p = none := g.rep.sub.free hp
      have hO : ¬ Own s1 σ p := by
        rintro ⟨i, p', es, h1, h2⟩
        obtain ⟨b, ws, e1, e2, _⟩ := g.rep.ol i p' es h1
        rw [h2] at e1
        injection e1 with e1; injection e1 with e1; injection e1 with e1
        subst e1
        rw [hp] at e2; cases e2
      refine q p vs S1 (upd H1 p (.lst vs)) σ ⟨⟨fun b u e => ?_, g.rep.len, g.rep.tr, fun i p' es e => ?_, g.rep.ne⟩, g.ext, fun b o e n => ?_, g.own, fun b e => ?_, g.grow, g.stay, g.lens⟩ (g.live p hp) upd_same hS hO d
      · have : b ≠ p := fun z => by subst z; rw [hS] at e; cases e
        rw [upd_ne this]; exact g.rep.sub b u e
      · obtain ⟨b, ws, e1, e2, e3, e4⟩ := g.rep.ol i p' es e
        have : b ≠ p := fun z => by subst z; rw [hp] at e2; cases e2
        exact ⟨b, ws, e1, by rw [upd_ne this]; exact e2, e3, e4⟩
      · have : b ≠ p := fun z => by subst z; rw [g.live b hp] at e; cases e
        rw [upd_ne this]; exact g.keep b o e n
      · by_cases z : b = p
        · subst z; exact g.live b hp
        · rw [upd_ne z] at e; exact g.live b e
    · rw [if_neg c] at q; exact q.elim
theorem ds_retN {es : List Expr} {tr : TA} {fr : FA} {pos pos'} (h : PDa X es tr fr) : PDs X (.Return (some (.List es pos')) pos) (tRet (tLst tr)) (fRetN fr) := ⟨ps_ret (pe_lst h.pe), ss_retN h.ok⟩
def fDrop (f : FE) : FS := fun s => match f s with
  | some (_, s1) => some (.nx, s1)
  | none => none
theorem ss_drop (h : SE K te fe) : SS K (tDrop te) (fDrop fe) := by
  intro S H s σ N r q
  unfold fDrop at q
  cases e : fe s with
  | none => rw [e] at q; exact q.elim
  | some x =>
    obtain ⟨d, s1⟩ := x
    rw [e] at q
    exact h.use r e fun v S' H' g dv => q S' H' σ g
theorem ds_expr {e : Expr} {pos} (h : PD X e te fe) (hs : swapsWith e none pos.line X.env = pure false := by rfl) : PDs X (.Expr e pos) (tDrop te) (fDrop fe) := ⟨ps_expr h.pe hs, ss_drop h.ok⟩
def fIfS (c : FT) (f g : FS) : FS := fun s => match c s with
  | some (true, s1) => f s1
  | some (false, s1) => g s1
  | none => none
theorem ss_if (h : ST K tc fc) (k1 : SS K t f) (k2 : SS K u g) : SS K (tIfS tc t u) (fIfS fc f g) := by
  intro S H s σ N r q
  unfold fIfS at q
  split at q
  · rename_i s1 e
    exact h.use r e fun S' H' g' => iteT (k1 S' H' s1 σ N g'.rep (qs_go g' q))
  · rename_i s1 e
    exact h.use r e fun S' H' g' => iteF (k2 S' H' s1 σ N g'.rep (qs_go g' q))
  · exact q.elim
theorem ds_if {c : Expr} {a b : List Stmt} {pos} (hc : PDt X c tc fc) (ha : PDss X a t f) (hb : PDss X b u g) : PDs X (.If c a b pos) (tIfS tc t u) (fIfS fc f g) := ⟨ps_if hc.pe ha.ps hb.ps, ss_if hc.ok ha.ok hb.ok⟩

/-! ### targets -/
def fgN (i : Nat) : D → Sd → Option Sd := fun d s => if i < s.length then (match s[i]? with
  | some (.ol true _) => none
  | _ => some (s.set i (.tr d))) else none
def fgs0 : List D → Sd → Option Sd
  | [], s => some s
  | _, _ => none
def fgsC (f : D → Sd → Option Sd) (g : List D → Sd → Option Sd) : List D → Sd → Option Sd
  | d :: ds, s => match f d s with
    | some s1 => g ds s1
    | none => none
  | _, _ => none
def fgT (n : Nat) (g : List D → Sd → Option Sd) : D → Sd → Option Sd
  | .tup ds, s => if ds.length = n then g ds s else none
  | _, _ => none
theorem sg_name {i : Nat} : SG K (gName i) (fgN i) := by
  intro S H s σ v d Q r q h
  unfold fgN at h
  by_cases hi : i < s.length
  · rw [if_pos hi] at h
    have go : ∀ (hn : ∀ ds, s[i]? ≠ some (.ol true ds)), (∀ S' H' σ', Go K S H s σ S' H' (s.set i (.tr d)) σ' → Q σ' H') → gName i v σ H Q := fun hn h => h _ _ _ (r.set hi hn q)
    cases e : s[i]? with
    | none =>
      rw [e] at h go
      exact go (fun ds z => nomatch z) h
    | some x =>
      rw [e] at h go
      cases x with
      | no => exact go (fun ds z => by cases z) h
      | tr d => exact go (fun ds z => by cases z) h
      | ol p ds =>
        cases p with
        | true => exact h.elim
        | false => exact go (fun ds z => by cases z) h
  · rw [if_neg hi] at h; exact h.elim
theorem sgs_nil : SGs K gNil fgs0 := by
  intro S H s σ vs ds Q r q h
  cases q with
  | nil => exact ⟨rfl, h _ _ _ (Go.refl r)⟩
  | cons _ _ => exact h.elim
theorem sgs_cons {g1 : TG} {g2 : TGs} {f1 : D → Sd → Option Sd} {f2 : List D → Sd → Option Sd} (h1 : SG K g1 f1) (h2 : SGs K g2 f2) : SGs K (gCons g1 g2) (fgsC f1 f2) := by
  intro S H s σ vs ds Q r q h
  cases q with
  | nil => exact h.elim
  | cons qa qb =>
    rename_i v vs d ds
    refine ⟨v, vs, rfl, h1 S H s σ v d _ r qa ?_⟩
    simp only [fgsC] at h
    cases e : f1 d s with
    | none => rw [e] at h; exact h.elim
    | some s1 =>
      rw [e] at h
      intro S' H' σ' g'
      refine h2 S' H' s1 σ' vs ds Q g'.rep (qb.mono g'.ext) ?_
      cases e2 : f2 ds s1 with
      | none => simp only [e2] at h
      | some s2 =>
        simp only [e2] at h
        exact fun S'' H'' σ'' g'' => h _ _ _ (g'.trans g'')
theorem sg_tup {n : Nat} {g : TGs} {f : List D → Sd → Option Sd} (h1 : SGs K g f) : SG K (gTup K n g) (fgT n f) := by
  intro S H s σ v d Q r q h
  unfold fgT at h
  cases q with
  | tup ha da =>
    rename_i a xs ds
    simp only at h
    by_cases hn : ds.length = n
    · rw [if_pos hn] at h
      exact ⟨a, xs, rfl, same_t r.sub ha, by rw [da.length]; exact hn, h1 S H s σ xs ds Q r da h⟩
    · rw [if_neg hn] at h; exact h.elim
  | _ => exact h.elim
structure PDg (X : Cx) (e : Expr) (t : TG) (f : D → Sd → Option Sd) : Prop where
  pg : PG X e t
  ok : SG X.K t f
structure PDgs (X : Cx) (e : List Expr) (t : TGs) (f : List D → Sd → Option Sd) : Prop where
  pg : PGs X e t
  ok : SGs X.K t f
theorem dg_name (i : Nat) {x : Str} {pos} (hN : X.N.Nodup) (hi : X.N[i]? = some x) (hx : Loc X.env.scope x) (hf : X.fn x = true ∨ X.env.scope.names.lookup x = some .local := by first | exact .inl rfl | exact .inr rfl | assumption) : PDg X (.Name x pos) (gName i) (fgN i) := ⟨pg_name hN hi hx hf, sg_name⟩
theorem dgs_nil : PDgs X [] gNil fgs0 := ⟨pgs_nil, sgs_nil⟩
theorem dgs_cons {e : Expr} {es : List Expr} {g1 : TG} {g2 : TGs} {f1 : D → Sd → Option Sd} {f2 : List D → Sd → Option Sd} (h1 : PDg X e g1 f1) (h2 : PDgs X es g2 f2)
    (hs : (assignEach (e :: es) X.env).map (·.2) = assign e X.env :: (assignEach es X.env).map (·.2) := by rfl) : PDgs X (e :: es) (gCons g1 g2) (fgsC f1 f2) := ⟨pgs_cons h1.pg h2.pg hs, sgs_cons h1.ok h2.ok⟩
theorem dg_tup {es : List Expr} {k : Nat} {pos} {g : TGs} {f : List D → Sd → Option Sd} {n : Nat} (hc : X.calm = true) (h : PDgs X es g f)
    (hn : (assignEach es X.env).length = n := by rfl) (hst : (assignEach es X.env).findIdx? (·.1) = none := by rfl) : PDg X (.Tuple es k pos) (gTup X.K n g) (fgT n f) := ⟨pg_tup hc h.pg hn hst, sg_tup h.ok⟩
def fAsg (f : FE) (fg : D → Sd → Option Sd) : FS := fun s => match f s with
  | none => none
  | some (d, s1) => match fg d s1 with
    | none => none
    | some s2 => some (.nx, s2)
theorem ss_asg {g : TG} {fg : D → Sd → Option Sd} (h : SE K te fe) (k : SG K g fg) : SS K (tAsg te g) (fAsg fe fg) := by
  intro S H s σ N r q
  unfold fAsg at q
  cases e : fe s with
  | none => rw [e] at q; exact q.elim
  | some x =>
    obtain ⟨d, s1⟩ := x
    rw [e] at q
    simp only at q
    refine h.use r e fun v S' H' g' dv => k S' H' s1 σ v d _ g'.rep dv ?_
    cases e2 : fg d s1 with
    | none => rw [e2] at q; exact q.elim
    | some s2 =>
      rw [e2] at q
      exact fun S'' H'' σ'' g'' => q _ _ _ (g'.trans g'')
theorem ds_set (i : Nat) {x : Str} {e : Expr} {pos pos' : Pos} (hN : X.N.Nodup) (hi : X.N[i]? = some x) (hx : Loc X.env.scope x) (he : PD X e te fe) (hs : swapsWith e (some (.Name x pos')) pos.line X.env = pure false := by rfl) (hf : X.fn x = true ∨ X.env.scope.names.lookup x = some .local := by first | exact .inl rfl | exact .inr rfl | assumption) :
    PDs X (.Assign [.Name x pos'] e pos) (tAsg te (gName i)) (fAsg fe (fgN i)) := ⟨ps_set hN hi hx he.pe hs hf, ss_asg he.ok sg_name⟩
theorem ds_asg {tg e : Expr} {pos : Pos} {g : TG} {fg : D → Sd → Option Sd} (he : PD X e te fe) (hg : PDg X tg g fg) (hs : swapsWithSole [tg] e pos.line X.env = pure false := by rfl) (hw : swappedStores [tg] e X.env = pure none := by rfl)
    (h1 : (assignEach [tg] X.env).map (·.2) = [assign tg X.env] := by rfl) : PDs X (.Assign [tg] e pos) (tAsg te g) (fAsg fe fg) := ⟨ps_asg he.pe hg.pg hs hw h1, ss_asg he.ok hg.ok⟩
/-- a, b = e1, e2 -/
def fPar (i j : Nat) (f : FA) : FS := fun s => match f s with
  | some ([d1, d2], s1) => match fgN i d1 s1 with
    | none => none
    | some s2 => match fgN j d2 s2 with
      | none => none
      | some s3 => some (.nx, s3)
  | _ => none
theorem ss_par {i j : Nat} {ta : TA} {fa : FA} (h : SA K ta fa) : SS K (tPar i j ta) (fPar i j fa) := by
  intro S H s σ N r q
  unfold fPar at q
  split at q
  · rename_i d1 d2 s1 e
    refine h.use r e fun vs S' H' g' dv => ?_
    cases dv with
    | cons q1 dv =>
      cases dv with
      | cons q2 dv =>
        cases dv
        rename_i v w
        refine ⟨v, w, rfl, ?_⟩
        cases e1 : fgN i d1 s1 with
        | none => rw [e1] at q; exact q.elim
        | some s2 =>
          rw [e1] at q
          simp only at q
          have z := sg_name (K := K) (i := i) S' H' s1 σ v d1 (fun σ2 H2 => N.nx (σ2.set j (some w)) H2) g'.rep q1
          rw [e1] at z
          refine z fun S2 H2 σ2 g2 => ?_
          have y := sg_name (K := K) (i := j) S2 H2 s2 σ2 w d2 (fun σ3 H3 => N.nx σ3 H3) g2.rep (q2.mono g2.ext)
          cases e2 : fgN j d2 s2 with
          | none => rw [e2] at q; exact q.elim
          | some s3 =>
            rw [e2] at q y
            exact y fun S3 H3 σ3 g3 => q _ _ _ ((g'.trans g2).trans g3)
  · exact q.elim
theorem ds_par (i j : Nat) {x y : Str} {a b : Expr} {ta : TA} {fa : FA} {px py pt pos : Pos} {kt k2 pt2} (hc : X.calm = true) (hN : X.N.Nodup) (hi : X.N[i]? = some x) (hj : X.N[j]? = some y) (hij : i ≠ j)
    (hx : X.env.scope.names.lookup x = some .local) (hy : X.env.scope.names.lookup y = some .local) (ha : PDa X [a, b] ta fa)
    (hw : swappedStores [.Tuple [.Name x px, .Name y py] kt pt] (.Tuple [a, b] k2 pt2) X.env = pure (some [x, y]))
    (hs : swapsWithSole [.Tuple [.Name x px, .Name y py] kt pt] (.Tuple [a, b] k2 pt2) pos.line X.env = pure false := by rfl) :
    PDs X (.Assign [.Tuple [.Name x px, .Name y py] kt pt] (.Tuple [a, b] k2 pt2) pos) (tPar i j ta) (fPar i j fa) := ⟨ps_par hc hN hi hj hij hx hy ha.pe hw hs, ss_par ha.ok⟩
/-- own[k] = e -/
def fSetO (i : Nat) (fk f : FE) : FS := fun s => match f s with
  | none => none
  | some (d, s1) => match s1[i]? with
    | some (.ol _ _) => match fk s1 with
      | some (.int k, s2) => match s2[i]? with
        | some (.ol p ds) => match ixN ds.length k with
          | some j => some (.nx, s2.set i (.ol p (ds.set j d)))
          | none => none
        | _ => none
      | _ => none
    | _ => none
theorem ref_inj {σ : L2.St} {i : Nat} {a b : Addr} (h : σ[i]? = some (some (.ref a))) (k : σ[i]? = some (some (.ref b))) : a = b := by
  rw [h] at k
  injection k with k
  injection k with k
  injection k with k
theorem ss_setO {i : Nat} {tk : TE} {fk : FE} (h : SE K te fe) (hk : SE K tk fk) : SS K (tAsg te (L2.gSub (tVar i) tk rSetL)) (fSetO i fk fe) := by
  intro S H s σ N r q
  unfold fSetO at q
  cases e : fe s with
  | none => rw [e] at q; exact q.elim
  | some x =>
    obtain ⟨d, s1⟩ := x
    rw [e] at q
    simp only at q
    refine h.use r e fun v S1 H1 g1 dv => ?_
    split at q
    · rename_i p0 ds0 e0
      obtain ⟨a0, vs0, h1, h2, h3, h4⟩ := g1.rep.ol i _ _ e0
      split at q
      · rename_i k s2 e2
        split at q
        · rename_i p ds e3
          split at q
          · rename_i j e4
            refine ⟨_, h1, hk.use g1.rep e2 fun w S2 H2 g2 dk => ?_⟩
            cases dk
            obtain ⟨a, vs, k1, k2, k3, k4⟩ := g2.rep.ol i p ds e3
            cases ref_inj k1 h1
            refine ⟨_, vs, k, j, rfl, rfl, k2, by rw [k4.length]; exact e4, ?_⟩
            have g3 := g2.rep.put e3 k1 (k4.set j (dv.mono g2.ext))
            exact q _ _ _ ((g1.trans g2).trans g3)
          · exact q.elim
        · exact q.elim
      · exact q.elim
    · exact q.elim
theorem ds_setO (i : Nat) {x : Str} {ek e : Expr} {px pos pos' : Pos} {tk : TE} {fk : FE} (hN : X.N[i]? = some x) (hv : Vis X.env.scope x) (he : PD X e te fe) (hk : PD X ek tk fk)
    (hg : PG X (.Subscript (.Name x px) ek pos') (L2.gSub (tVar i) tk rSetL))
    (hs : swapsWithSole [.Subscript (.Name x px) ek pos'] e pos.line X.env = pure false := by rfl) (hw : swappedStores [.Subscript (.Name x px) ek pos'] e X.env = pure none := by rfl)
    (h1 : (assignEach [.Subscript (.Name x px) ek pos'] X.env).map (·.2) = [assign (.Subscript (.Name x px) ek pos') X.env] := by rfl) :
    PDs X (.Assign [.Subscript (.Name x px) ek pos'] e pos) (tAsg te (L2.gSub (tVar i) tk rSetL)) (fSetO i fk fe) := ⟨ps_asg he.pe hg hs hw h1, ss_setO he.ok hk.ok⟩
/-- own[k], read in place -/
def fIxO (i : Nat) (fk : FE) : FE := fun s => match s[i]? with
  | some (.ol _ _) => match fk s with
    | some (.int k, s2) => match s2[i]? with
      | some (.ol _ ds) => match atI ds k with
        | some d => some (d, s2)
        | none => none
      | _ => none
    | _ => none
  | _ => none
theorem se_ixO {i : Nat} {tk : TE} {fk : FE} (hk : SE K tk fk) : SE K (tOp (rIxL K) (tVar i) tk) (fIxO i fk) := by
  intro S H s σ Q r q
  unfold fIxO at q
  split at q
  · rename_i p0 ds0 e0
    obtain ⟨a0, vs0, h1, h2, h3, h4⟩ := r.ol i _ _ e0
    split at q
    · rename_i k s2 e2
      split at q
      · rename_i p ds e3
        split at q
        · rename_i d e4
          refine ⟨_, h1, hk.use r e2 fun w S2 H2 g2 dk => ?_⟩
          cases dk
          obtain ⟨a, vs, k1, k2, k3, k4⟩ := g2.rep.ol i p ds e3
          cases ref_inj k1 h1
          obtain ⟨v, e5, dv⟩ := k4.atI e4
          exact ⟨_, vs, k, v, rfl, rfl, .inl (.inl k2), e5, q v S2 H2 g2 dv⟩
        · exact q.elim
      · exact q.elim
    · exact q.elim
  · exact q.elim
theorem pd_ixO (i : Nat) {x : Str} {ek : Expr} {px pos : Pos} {tk : TE} {fk : FE} (ha : PE X (.Name x px) (tVar i)) (hk : PD X ek tk fk) (hp : PlainIx ek) : PD X (.Subscript (.Name x px) ek pos) (tOp (rIxL X.K) (tVar i) tk) (fIxO i fk) := ⟨pe_ix ix_list ha hk.pe hp, se_ixO hk.ok⟩
end
end DL
namespace DL
open PySem PySem.Spec PyProof.Rows L2

/-! ### what is walked -/
def ItS (K : PySem.W.Frag) (J : It) (S : Hp) (ds : List D) : Prop := ∀ (i : Nat) (S' H' : Hp), Same S S' → Same S' H' →
  (i < ds.length → J.go i H' ∧ ∀ x H3, J.yld i H' x H3 → ∃ S3 d, Al S' H' S3 H3 ∧ ds[i]? = some d ∧ Dt K S3 x d) ∧ (ds.length ≤ i → J.stop i H')
abbrev FI := Sd → Option (List D × Sd)
def QI (K : PySem.W.Frag) (r : Option (List D × Sd)) (S H : Hp) (s : Sd) (σ : L2.St) (R : It → Hp → Prop) : Prop := match r with
  | some (ds, s1) => ∀ J S' H', Go K S H s σ S' H' s1 σ → ItS K J S' ds → R J H'
  | none => False
def SI (K : PySem.W.Frag) (wi : TI) (f : FI) : Prop := ∀ S H s σ R, Rep K S H s σ → QI K (f s) S H s σ R → wi σ H R
structure PDi (X : Cx) (tg e : Expr) (wi : TI) (f : FI) : Prop where
  pi : PI X tg e wi
  ok : SI X.K wi f
def fiL (f : FE) : FI := fun s => match f s with
  | some (.lst ds, s1) => some (ds, s1)
  | some (.rl ds, s1) => some (ds, s1)
  | _ => none
def fiT (f : FE) : FI := fun s => match f s with
  | some (.tup ds, s1) => some (ds, s1)
  | _ => none
/-- a list or a tuple -/
def rngD (lo : Int) (n : Nat) : List D := (List.range n).map fun (i : Nat) => D.int (lo + (i : Int))
def fiR1 (f : FA) : FI := fun s => match f s with
  | some ([.int j], s1) => if -(2 ^ 62) ≤ j ∧ j < 2 ^ 62 then some (rngD 0 j.toNat, s1) else none
  | _ => none
def fiR2 (f : FA) : FI := fun s => match f s with
  | some ([.int i, .int j], s1) => if -(2 ^ 62) ≤ i ∧ i < 2 ^ 62 ∧ -(2 ^ 62) ≤ j ∧ j < 2 ^ 62 then some (rngD i (j - i).toNat, s1) else none
  | _ => none
def signs (x : Str) : List D := x.cps.toList.map fun c => D.str ⟨#[c]⟩
def fiS (f : FE) : FI := fun s => match f s with
  | some (.str x, s1) => some (signs x, s1)
  | _ => none
section
variable {X : Cx} {K : PySem.W.Frag} {te : TE} {fe : FE} {ta : TA} {fa : FA}
theorem its_lst {S : Hp} {a : Addr} {xs : List V} {ds : List D} (h : SqL K S a xs) (da : DtA K S xs ds) : ItS K (Itl K a) S ds := fun i S' H' e1 e2 => by
  have hq : SqL K H' a xs := e2.seq (e1.seq h)
  refine ⟨fun hi => ?_, fun hi => ⟨xs, hq, by rw [da.length]; exact hi⟩⟩
  obtain ⟨v, e3, q⟩ := da.get (List.getElem?_eq_getElem hi)
  refine ⟨⟨xs, v, hq, e3⟩, fun x H3 y => ?_⟩
  obtain ⟨rfl, y⟩ := y
  cases Option.some.inj ((y xs hq).symm.trans e3)
  exact ⟨S', _, Al.refl e2, List.getElem?_eq_getElem hi, q.mono e1⟩
theorem its_tup {S : Hp} {a : Addr} {xs : List V} {ds : List D} (h : SqT K S a xs) (da : DtA K S xs ds) : ItS K (Itt K a) S ds := fun i S' H' e1 e2 => by
  have hq : SqT K H' a xs := same_t e2 (same_t e1 h)
  refine ⟨fun hi => ?_, fun hi => ⟨xs, hq, by rw [da.length]; exact hi⟩⟩
  obtain ⟨v, e3, q⟩ := da.get (List.getElem?_eq_getElem hi)
  refine ⟨⟨xs, v, hq, e3⟩, fun x H3 y => ?_⟩
  obtain ⟨rfl, y⟩ := y
  cases Option.some.inj ((y xs hq).symm.trans e3)
  exact ⟨S', _, Al.refl e2, List.getElem?_eq_getElem hi, q.mono e1⟩
theorem rngD_length (lo : Int) (n : Nat) : (rngD lo n).length = n := by unfold rngD; rw [List.length_map, List.length_range]
theorem rngD_get {lo : Int} {n i : Nat} (h : i < n) : (rngD lo n)[i]? = some (.int (lo + (i : Int))) := by
  unfold rngD
  rw [List.getElem?_map, List.getElem?_range h]
  rfl
theorem its_rng {S : Hp} {lo : Int} {n : Nat} : ItS K (Itr lo n) S (rngD lo n) := fun i S' H' e1 e2 => by
  rw [rngD_length]
  refine ⟨fun hi => ⟨hi, fun x H3 y => ?_⟩, fun hi => hi⟩
  obtain ⟨rfl, rfl⟩ := y
  exact ⟨S', _, Al.refl e2, rngD_get hi, .int _⟩
theorem its_str {S : Hp} {x : Str} : ItS K (Its x) S (signs x) := fun i S' H' e1 e2 => by
  have hl : (signs x).length = x.cps.size := by unfold signs; rw [List.length_map, Array.length_toList]
  rw [hl]
  refine ⟨fun hi => ⟨hi, fun v H3 y => ?_⟩, fun hi => hi⟩
  obtain ⟨rfl, c, e, rfl⟩ := y
  refine ⟨S', _, Al.refl e2, ?_, .str _⟩
  unfold signs
  rw [List.getElem?_map, Array.getElem?_toList, e]
  rfl
theorem si_list (h : SE K te fe) : SI K (iList K te) (fiL fe) := by
  intro S H s σ R r q
  unfold fiL at q
  split at q
  · rename_i ds s1 e
    refine h.use r e fun v S' H' g d => ?_
    cases d with
    | lst ha da => exact ⟨_, rfl, ⟨_, .inl (.inl (g.rep.sub _ _ ha))⟩, q _ S' H' g (its_lst (.inl (.inl ha)) da)⟩
  · rename_i ds s1 e
    refine h.use r e fun v S' H' g d => ?_
    cases d with
    | rl ha da => exact ⟨_, rfl, ⟨_, g.rep.sub.seq ha⟩, q _ S' H' g (its_lst ha da)⟩
  · exact q.elim
theorem si_tup (h : SE K te fe) : SI K (iTup K te) (fiT fe) := by
  intro S H s σ R r q
  unfold fiT at q
  split at q
  · rename_i ds s1 e
    refine h.use r e fun v S' H' g d => ?_
    cases d with
    | tup ha da => exact ⟨_, rfl, ⟨_, same_t g.rep.sub ha⟩, q _ S' H' g (its_tup ha da)⟩
  · exact q.elim
theorem si_rng1 (h : SA K ta fa) : SI K (iRng1 ta) (fiR1 fa) := by
  intro S H s σ R r q
  unfold fiR1 at q
  split at q
  · rename_i j s1 e
    refine h.use r e fun vs S' H' g d => ?_
    cases d with
    | cons d1 d =>
      cases d
      cases d1
      by_cases c : -(2 ^ 62) ≤ j ∧ j < 2 ^ 62
      · rw [if_pos c] at q
        exact ⟨j, rfl, c.1, c.2, q _ S' H' g its_rng⟩
      · rw [if_neg c] at q; exact q.elim
  · exact q.elim
theorem si_rng2 (h : SA K ta fa) : SI K (iRng2 ta) (fiR2 fa) := by
  intro S H s σ R r q
  unfold fiR2 at q
  split at q
  · rename_i i j s1 e
    refine h.use r e fun vs S' H' g d => ?_
    cases d with
    | cons d1 d =>
      cases d with
      | cons d2 d =>
        cases d
        cases d1
        cases d2
        by_cases c : -(2 ^ 62) ≤ i ∧ i < 2 ^ 62 ∧ -(2 ^ 62) ≤ j ∧ j < 2 ^ 62
        · rw [if_pos c] at q
          exact ⟨i, j, rfl, c, q _ S' H' g its_rng⟩
        · rw [if_neg c] at q; exact q.elim
  · exact q.elim
theorem si_str (h : SE K te fe) : SI K (iStr te) (fiS fe) := by
  intro S H s σ R r q
  unfold fiS at q
  split at q
  · rename_i x s1 e
    refine h.use r e fun v S' H' g d => ?_
    cases d
    exact ⟨x, rfl, q _ S' H' g its_str⟩
  · exact q.elim
theorem di_list {tg l : Expr} (h : PD X l te fe) : PDi X tg l (iList X.K te) (fiL fe) := ⟨pi_list h.pe, si_list h.ok⟩
theorem di_tup {tg l : Expr} (h : PD X l te fe) : PDi X tg l (iTup X.K te) (fiT fe) := ⟨pi_tup h.pe, si_tup h.ok⟩
theorem di_str {tg l : Expr} (h : PD X l te fe) : PDi X tg l (iStr te) (fiS fe) := ⟨pi_str h.pe, si_str h.ok⟩
theorem di_rng1 {tg a : Expr} {p pos : Pos} (hg : Gl X "range") (hm : X.mg "range" = none) (ha : PDa X [a] ta fa) (hs : starEach [a] X.env = [(false, eval a X.env)] := by rfl) : PDi X tg (.Call (.Name "range" p) [a] [] pos) (iRng1 ta) (fiR1 fa) := ⟨pi_range1 hg hm ha.pe hs, si_rng1 ha.ok⟩
theorem di_rng2 {tg a b : Expr} {p pos : Pos} (hg : Gl X "range") (hm : X.mg "range" = none) (ha : PDa X [a, b] ta fa) (hs : starEach [a, b] X.env = [(false, eval a X.env), (false, eval b X.env)] := by rfl) (hs2 : starEach [b] X.env = [(false, eval b X.env)] := by rfl) : PDi X tg (.Call (.Name "range" p) [a, b] [] pos) (iRng2 ta) (fiR2 fa) := ⟨pi_range2 hg hm ha.pe hs hs2, si_rng2 ha.ok⟩

/-! ### for -/
def loopF (fg : D → Sd → Option Sd) (fb : FS) : List D → Sd → Option (Fl × Sd)
  | [], s => some (.nx, s)
  | d :: r, s => match fg d s with
    | none => none
    | some s1 => match fb s1 with
      | some (.nx, s2) => loopF fg fb r s2
      | some (.ct, s2) => loopF fg fb r s2
      | some (.bk, s2) => some (.nx, s2)
      | some (.rt d, s2) => some (.rt d, s2)
      | some (.rn ds, s2) => some (.rn ds, s2)
      | none => none
def fFor (fi : FI) (fg : D → Sd → Option Sd) (fb : FS) : FS := fun s => match fi s with
  | none => none
  | some (ds, s1) => loopF fg fb ds s1
theorem ss_for {wi : TI} {g : TG} {tb : TS} {fi : FI} {fg : D → Sd → Option Sd} {fb : FS} (hi : SI K wi fi) (hg : SG K g fg) (hb : SS K tb fb) : SS K (tFor wi g tb) (fFor fi fg fb) := by
  intro S H s σ N r q
  unfold fFor at q
  refine hi S H s σ _ r ?_
  cases e : fi s with
  | none => rw [e] at q; exact q.elim
  | some x =>
    obtain ⟨ds, s1⟩ := x
    rw [e] at q
    simp only at q
    intro J S0 H0 g0 its
    refine ⟨fun i m σ' H' => m + i = ds.length ∧ ∃ S' s', Go K S H s σ S' H' s' σ' ∧ Same S0 S' ∧ QS K (loopF fg fb (ds.drop i) s') S' H' s' σ' N, ⟨ds.length, rfl, S0, s1, g0, Same.refl _, by rw [List.drop_zero]; exact qs_go g0 q⟩, ?_⟩
    rintro i m σ' H' ⟨hm, S', s', g1, sm, q1⟩
    obtain ⟨go, st⟩ := its i S' H' sm g1.rep.sub
    by_cases hi : i < ds.length
    · obtain ⟨go, yl⟩ := go hi
      refine .inr ⟨go, fun σ2 H2 => ∃ S2 s2, Go K S H s σ S2 H2 s2 σ2 ∧ Same S0 S2 ∧ QS K (loopF fg fb (ds.drop (i + 1)) s2) S2 H2 s2 σ2 N, fun σ2 H2 ⟨S2, s2, z⟩ => ⟨m - 1, by omega, by omega, S2, s2, z⟩, fun x H3 y => ?_⟩
      obtain ⟨S3, d, al, ed, dx⟩ := yl x H3 y
      have g3 := g1.trans (al.go g1.rep)
      rw [List.drop_eq_getElem_cons hi] at q1
      have ed' : ds[i] = d := by rw [List.getElem?_eq_getElem hi] at ed; exact Option.some.inj ed
      rw [ed'] at q1
      have q3 := qs_go (al.go g1.rep) q1
      simp only [loopF] at q3
      refine hg S3 H3 s' σ' x d _ g3.rep dx ?_
      cases e1 : fg d s' with
      | none => rw [e1] at q3; exact q3.elim
      | some s4 =>
        rw [e1] at q3
        simp only at q3
        intro S4 H4 σ4 g4
        have q4 := qs_go g4 q3
        have sm4 : Same S0 S4 := (sm.trans al.ext).trans g4.ext
        refine hb S4 H4 s4 σ4 _ g4.rep ?_
        cases e2 : fb s4 with
        | none => rw [e2] at q4; exact q4.elim
        | some w =>
          obtain ⟨fl, s5⟩ := w
          rw [e2] at q4
          cases fl with
          | nx => exact fun S5 H5 σ5 g5 => ⟨S5, s5, (g3.trans g4).trans g5, sm4.trans g5.ext, qs_go g5 q4⟩
          | ct => exact fun S5 H5 σ5 g5 => ⟨S5, s5, (g3.trans g4).trans g5, sm4.trans g5.ext, qs_go g5 q4⟩
          | bk => exact q4
          | rt d => exact q4
          | rn ds => exact q4
    · refine .inl ⟨st (by omega), ?_⟩
      rw [List.drop_eq_nil_of_le (by omega)] at q1
      exact q1 S' H' σ' (Go.refl g1.rep)
theorem ds_for {tg iter : Expr} {body : List Stmt} {pos : Pos} {wi : TI} {g : TG} {tb : TS} {fi : FI} {fg : D → Sd → Option Sd} {fb : FS} (hp : PassesOwn (model X.prog X.w) X.A X.env X.xe) (hc : X.calm = true) (hi : PDi X tg iter wi fi) (hg : PDg X tg g fg) (hb : PDss X body tb fb)
    (hs : ∀ x, foldedSetIterable iter X.env x = pure x := by intro _; rfl) : PDs X (.For tg iter body [] pos) (tFor wi g tb) (fFor fi fg fb) := ⟨ps_for hp hc hi.pi hg.pg hb.ps hs, ss_for hi.ok hg.ok hb.ok⟩

/-! ### while, with a bound on its turns -/
def whileF (fc : FT) (fb : FS) : Nat → Sd → Option (Fl × Sd)
  | 0, _ => none
  | n + 1, s => match fc s with
    | none => none
    | some (false, s1) => some (.nx, s1)
    | some (true, s1) => match fb s1 with
      | some (.nx, s2) => whileF fc fb n s2
      | some (.ct, s2) => whileF fc fb n s2
      | some (.bk, s2) => some (.nx, s2)
      | some (.rt d, s2) => some (.rt d, s2)
      | some (.rn ds, s2) => some (.rn ds, s2)
      | none => none
theorem ss_while {tc : TT} {tb : TS} {fc : FT} {fb : FS} (n : Nat) (hc : ST K tc fc) (hb : SS K tb fb)
    : SS K (tWhile tc tb) (whileF fc fb n) := by
  intro S H s σ N r q
  refine ⟨fun m σ' H' => ∃ S' s', Go K S H s σ S' H' s' σ' ∧ QS K (whileF fc fb m s') S' H' s' σ' N, ⟨n, S, s, Go.refl r, q⟩, ?_⟩
  rintro m σ' H' ⟨S', s', g1, q1⟩
  cases m with
  | zero => exact q1.elim
  | succ m =>
    simp only [whileF] at q1
    refine hc S' H' s' σ' _ g1.rep ?_
    cases e : fc s' with
    | none => rw [e] at q1; exact q1.elim
    | some x =>
      obtain ⟨b, s2⟩ := x
      rw [e] at q1
      cases b with
      | false =>
        exact fun S2 H2 g2 => q1 S2 H2 σ' g2
      | true =>
        intro S2 H2 g2
        have q2 := qs_go g2 q1
        simp only at q2
        refine ⟨fun σ3 H3 => ∃ S3 s3, Go K S H s σ S3 H3 s3 σ3 ∧ QS K (whileF fc fb m s3) S3 H3 s3 σ3 N, fun σ3 H3 z => ⟨m, Nat.lt_succ_self m, z⟩, hb S2 H2 s2 σ' _ g2.rep ?_⟩
        cases e2 : fb s2 with
        | none => rw [e2] at q2; exact q2.elim
        | some w =>
          obtain ⟨fl, s5⟩ := w
          rw [e2] at q2
          cases fl with
          | nx => exact fun S5 H5 σ5 g5 => ⟨S5, s5, (g1.trans g2).trans g5, qs_go g5 q2⟩
          | ct => exact fun S5 H5 σ5 g5 => ⟨S5, s5, (g1.trans g2).trans g5, qs_go g5 q2⟩
          | bk => exact q2
          | rt d => exact q2
          | rn ds => exact q2
theorem ds_while (n : Nat) {c : Expr} {body : List Stmt} {pos : Pos} {tc : TT} {tb : TS} {fc : FT} {fb : FS} (hp : PassesOwn (model X.prog X.w) X.A X.env X.xe) (hc : PDt X c tc fc) (hb : PDss X body tb fb) : PDs X (.While c body [] pos) (tWhile tc tb) (whileF fc fb n) := ⟨ps_while hp hc.pe hb.ps, ss_while n hc.ok hb.ok⟩

/-! ### list comprehensions -/
def isOl : Option Sl → Bool
  | some (.ol _ _) => true
  | _ => false
def nol (s : Sd) (vs : List Nat) : Bool := vs.all fun v => !isOl s[v]?
def clr (s : Sd) (vs : List Nat) : Sd := s.mapIdx fun i x => if vs.contains i then .no else x
/-- s', at vs as in s -/
def rst (s s' : Sd) (vs : List Nat) : Sd := s'.mapIdx fun i x => if vs.contains i then (s[i]?).getD .no else x
theorem clr_len (s : Sd) (vs : List Nat) : (clr s vs).length = s.length := by unfold clr; rw [List.length_mapIdx]
theorem rst_len (s s' : Sd) (vs : List Nat) : (rst s s' vs).length = s'.length := by unfold rst; rw [List.length_mapIdx]
theorem clr_get {s : Sd} {vs : List Nat} {i : Nat} {x : Sl} (h : (clr s vs)[i]? = some x) : (i ∈ vs ∧ x = .no) ∨ (i ∉ vs ∧ s[i]? = some x) := by
  unfold clr at h
  rw [List.getElem?_mapIdx] at h
  cases e : s[i]? with
  | none => rw [e] at h; cases h
  | some y =>
    rw [e] at h
    have h := Option.some.inj (show some (if vs.contains i then Sl.no else y) = some x from h)
    by_cases c : i ∈ vs
    · rw [if_pos (by simpa using c)] at h
      exact .inl ⟨c, h.symm⟩
    · rw [if_neg (by simpa using c)] at h
      exact .inr ⟨c, by rw [h]⟩
theorem clr_out {s : Sd} {vs : List Nat} {i : Nat} (c : i ∉ vs) : (clr s vs)[i]? = s[i]? := by
  unfold clr
  rw [List.getElem?_mapIdx]
  cases e : s[i]? with
  | none => rfl
  | some y =>
    show some (if vs.contains i then Sl.no else y) = some y
    rw [if_neg (by simpa using c)]
theorem rst_out {s s' : Sd} {vs : List Nat} {i : Nat} (c : i ∉ vs) : (rst s s' vs)[i]? = s'[i]? := by
  unfold rst
  rw [List.getElem?_mapIdx]
  cases e : s'[i]? with
  | none => rfl
  | some y =>
    show some (if vs.contains i then (s[i]?).getD .no else y) = some y
    rw [if_neg (by simpa using c)]
theorem rst_in {s s' : Sd} {vs : List Nat} {i : Nat} (hl : s'.length = s.length) (c : i ∈ vs) : (rst s s' vs)[i]? = s[i]? := by
  unfold rst
  rw [List.getElem?_mapIdx]
  cases e : s'[i]? with
  | none =>
    rw [List.getElem?_eq_none_iff] at e
    exact (List.getElem?_eq_none (by omega)).symm
  | some y =>
    have hi : i < s.length := by have := getElem?_lt e; omega
    show some (if vs.contains i then (s[i]?).getD .no else y) = s[i]?
    rw [if_pos (by simpa using c), List.getElem?_eq_getElem hi]
    rfl
theorem nol_at {s : Sd} {vs : List Nat} (h : nol s vs = true) {i : Nat} (c : i ∈ vs) {p : Bool} {ds : List D} : s[i]? ≠ some (.ol p ds) := fun z => by
  have := List.all_eq_true.mp h i c
  rw [z] at this
  cases this
theorem own_clr {s : Sd} {vs : List Nat} {σ : L2.St} (h : nol s vs = true) {a : Addr} : Own (clr s vs) (wipe σ vs) a ↔ Own s σ a := by
  constructor
  · rintro ⟨i, p, ds, h1, h2⟩
    rcases clr_get h1 with ⟨_, z⟩ | ⟨c, z⟩
    · cases z
    · rw [wipe_out c] at h2
      exact ⟨i, p, ds, z, h2⟩
  · rintro ⟨i, p, ds, h1, h2⟩
    have c : i ∉ vs := fun c => nol_at h c h1
    exact ⟨i, p, ds, by rw [clr_out c]; exact h1, by rw [wipe_out c]; exact h2⟩
theorem Rep.clr {S H : Hp} {s : Sd} {σ : L2.St} {vs : List Nat} (r : Rep K S H s σ) (h : nol s vs = true) : Rep K S H (clr s vs) (wipe σ vs) := by
  refine ⟨r.sub, by rw [wipe_length, clr_len]; exact r.len, fun i d e => ?_, fun i p ds e => ?_, fun i j p q ds es a h1 h2 h3 h4 => ?_⟩
  · rcases clr_get e with ⟨_, z⟩ | ⟨c, z⟩
    · cases z
    · rw [wipe_out c]
      exact r.tr i d z
  · rcases clr_get e with ⟨_, z⟩ | ⟨c, z⟩
    · cases z
    · rw [wipe_out c]
      exact r.ol i p ds z
  · rcases clr_get h1 with ⟨_, z⟩ | ⟨c, z⟩
    · cases z
    · rcases clr_get h2 with ⟨_, y⟩ | ⟨c2, y⟩
      · cases y
      · rw [wipe_out c] at h3
        rw [wipe_out c2] at h4
        exact r.ne i j p q ds es a z y h3 h4
/-- into the block -/
theorem Go.inClr {S H S' H' : Hp} {s s' : Sd} {σ σ2 : L2.St} {vs : List Nat} (g : Go K S H s σ S' H' s' σ2) (h' : nol s' vs = true) (hw : wipe σ2 vs = wipe σ vs) (hs : clr s vs = s) (hσ : wipe σ vs = σ) : Go K S H s σ S' H' (clr s' vs) σ := by
  have e2 : wipe σ2 vs = σ := hw.trans hσ
  have rr := g.rep.clr h'
  rw [e2] at rr
  refine ⟨rr, g.ext, g.keep, fun a o => ?_, g.live, g.grow, fun i ds h => ?_, by rw [clr_len]; exact g.lens⟩
  · have o2 : Own (DL.clr s' vs) (wipe σ2 vs) a := by rw [e2]; exact o
    exact g.own a ((own_clr h').mp o2)
  · obtain ⟨ds', e1, e3⟩ := g.stay i ds h
    have c : i ∉ vs := fun c => nol_at h' c e1
    exact ⟨ds', by rw [clr_out c]; exact e1, rfl⟩
theorem clr_clr (s : Sd) (vs : List Nat) : DL.clr (DL.clr s vs) vs = DL.clr s vs := by
  apply List.ext_getElem?
  intro i
  by_cases c : i ∈ vs
  · unfold DL.clr
    rw [List.getElem?_mapIdx, List.getElem?_mapIdx]
    cases s[i]? with
    | none => rfl
    | some y =>
      show some (if vs.contains i then Sl.no else _) = some (if vs.contains i then Sl.no else _)
      rw [if_pos (by simpa using c), if_pos (by simpa using c)]
  · rw [clr_out c]
theorem wipe_wipe (σ : L2.St) : ∀ vs : List Nat, wipe (wipe σ vs) vs = wipe σ vs := fun vs => by
  apply List.ext_getElem?
  intro i
  by_cases c : i ∈ vs
  · by_cases hi : i < σ.length
    · have h1 : i < (wipe σ vs).length := by rw [wipe_length]; exact hi
      have h2 : i < (wipe (wipe σ vs) vs).length := by rw [wipe_length]; exact h1
      have n : ∀ τ : L2.St, (hh : i < (wipe τ vs).length) → (wipe τ vs)[i]? = some none := fun τ hh => by
        rw [List.getElem?_eq_getElem hh]
        cases e : (wipe τ vs)[i] with
        | none => rfl
        | some x =>
          have z : (wipe τ vs)[i]? = some (some x) := by rw [List.getElem?_eq_getElem hh, e]
          exact absurd c (wipe_some z).2
      rw [n _ h2, n _ h1]
    · rw [List.getElem?_eq_none (by rw [wipe_length, wipe_length]; omega), List.getElem?_eq_none (by rw [wipe_length]; omega)]
  · rw [wipe_out c]
theorem wipe_set (σ : L2.St) {vs : List Nat} {i : Nat} {x : Option V} (c : i ∈ vs) : wipe (σ.set i x) vs = wipe σ vs := by
  apply List.ext_getElem?
  intro j
  by_cases d : j ∈ vs
  · have n : ∀ τ : L2.St, j < τ.length → (wipe τ vs)[j]? = some none := fun τ h => by
      have hh : j < (wipe τ vs).length := by rw [wipe_length]; exact h
      rw [List.getElem?_eq_getElem hh]
      cases e : (wipe τ vs)[j] with
      | none => rfl
      | some y =>
        have z : (wipe τ vs)[j]? = some (some y) := by rw [List.getElem?_eq_getElem hh, e]
        exact absurd d (wipe_some z).2
    by_cases hj : j < σ.length
    · rw [n _ (by rw [List.length_set]; exact hj), n _ hj]
    · rw [List.getElem?_eq_none (by rw [wipe_length, List.length_set]; omega), List.getElem?_eq_none (by rw [wipe_length]; omega)]
  · rw [wipe_out d, wipe_out d, List.getElem?_set_ne (fun z => by subst z; exact d c)]
/-- out of the block -/
theorem Go.outClr {S H S' H' : Hp} {s s' : Sd} {σ : L2.St} {vs : List Nat} (r : Rep K S H s σ) (h : nol s vs = true) (g : Go K S H (DL.clr s vs) (wipe σ vs) S' H' s' (wipe σ vs)) : Go K S H s σ S' H' (rst s s' vs) σ := by
  have hl : s'.length = s.length := by rw [g.lens, clr_len]
  have gt : ∀ (i : Nat) (x : Sl), (rst s s' vs)[i]? = some x → (i ∈ vs ∧ s[i]? = some x) ∨ (i ∉ vs ∧ s'[i]? = some x) := fun i x e => by
    by_cases c : i ∈ vs
    · rw [rst_in hl c] at e; exact .inl ⟨c, e⟩
    · rw [rst_out c] at e; exact .inr ⟨c, e⟩
  refine ⟨⟨g.rep.sub, by rw [rst_len, hl]; exact r.len, fun i d e => ?_, fun i p ds e => ?_, fun i j p q ds es a h1 h2 h3 h4 => ?_⟩, g.ext, fun a o e n => g.keep a o e fun z => n ((own_clr h).mp z), fun a o => ?_, g.live, fun a e => ?_, fun i ds e => ?_, by rw [rst_len, hl]⟩
  · rcases gt i _ e with ⟨c, z⟩ | ⟨c, z⟩
    · obtain ⟨v, e1, q⟩ := r.tr i d z
      exact ⟨v, e1, q.mono g.ext⟩
    · have := g.rep.tr i d z
      rw [wipe_out c] at this
      exact this
  · rcases gt i _ e with ⟨c, z⟩ | ⟨c, z⟩
    · exact absurd z (nol_at h c)
    · have := g.rep.ol i p ds z
      rw [wipe_out c] at this
      exact this
  · rcases gt i _ h1 with ⟨c, z⟩ | ⟨c, z⟩
    · exact absurd z (nol_at h c)
    · rcases gt j _ h2 with ⟨c2, y⟩ | ⟨c2, y⟩
      · exact absurd y (nol_at h c2)
      · exact g.rep.ne i j p q ds es a z y (by rw [wipe_out c]; exact h3) (by rw [wipe_out c2]; exact h4)
  · obtain ⟨i, p, ds, h1, h2⟩ := o
    rcases gt i _ h1 with ⟨c, z⟩ | ⟨c, z⟩
    · exact absurd z (nol_at h c)
    · rcases g.own a ⟨i, p, ds, z, by rw [wipe_out c]; exact h2⟩ with w | w
      · exact .inl ((own_clr h).mp w)
      · exact .inr w
  · rcases g.grow a e with w | w | w
    · exact .inl w
    · exact .inr (.inl w)
    · exact .inr (.inr ((own_clr h).mp w))
  · have c : i ∉ vs := fun c => nol_at h c e
    obtain ⟨ds', e1, _⟩ := g.stay i ds (by rw [clr_out c]; exact e)
    exact ⟨ds', by rw [rst_out c]; exact e1, rfl⟩
end
end DL
namespace DL
open PySem PySem.Spec PyProof.Rows L2

section
variable {K : PySem.W.Frag} {S H S' H' : Hp} {s s' : Sd} {σ σ' : L2.St}
/-- an object that the slots do not own is written -/
theorem Go.other (g : Go K S H s σ S' H' s' σ') {a : Addr} {o : HO} (hS : S' a = none) (hO : ¬ Own s' σ' a) (hH : H a = none) : Go K S H s σ S' (upd H' a o) s' σ' := by
  refine ⟨⟨fun b u e => ?_, g.rep.len, g.rep.tr, fun i p ds e => ?_, g.rep.ne⟩, g.ext, fun b u e n => ?_, g.own, fun b e => ?_, g.grow, g.stay, g.lens⟩
  · have : b ≠ a := fun z => by subst z; rw [hS] at e; cases e
    rw [upd_ne this]; exact g.rep.sub b u e
  · obtain ⟨b, vs, e1, e2, e3, e4⟩ := g.rep.ol i p ds e
    have : b ≠ a := fun z => by subst z; exact hO ⟨i, p, ds, e, e1⟩
    exact ⟨b, vs, e1, by rw [upd_ne this]; exact e2, e3, e4⟩
  · have : b ≠ a := fun z => by subst z; rw [hH] at e; cases e
    rw [upd_ne this]; exact g.keep b u e n
  · by_cases z : b = a
    · subst z; exact hH
    · rw [upd_ne z] at e; exact g.live b e
/-- it becomes data -/
theorem Go.adopt (g : Go K S H s σ S' H' s' σ') {a : Addr} {o : HO} (hS : S' a = none) (hO : ¬ Own s' σ' a) (hH : H a = none) (ha : H' a = some o) : Go K S H s σ (upd S' a o) H' s' σ' := by
  have sm : Same S' (upd S' a o) := same_upd hS
  refine ⟨⟨fun b u e => ?_, g.rep.len, fun i d e => ?_, fun i p ds e => ?_, g.rep.ne⟩, g.ext.trans sm, g.keep, g.own, g.live, fun b e => ?_, g.stay, g.lens⟩
  · by_cases z : b = a
    · subst z; rw [upd_same] at e; rw [ha]; exact e
    · rw [upd_ne z] at e; exact g.rep.sub b u e
  · obtain ⟨v, e1, q⟩ := g.rep.tr i d e
    exact ⟨v, e1, q.mono sm⟩
  · obtain ⟨b, vs, e1, e2, e3, e4⟩ := g.rep.ol i p ds e
    have : b ≠ a := fun z => by subst z; exact hO ⟨i, p, ds, e, e1⟩
    exact ⟨b, vs, e1, e2, by rw [upd_ne this]; exact e3, e4.mono sm⟩
  · by_cases z : b = a
    · subst z; exact .inr (.inl hH)
    · rw [upd_ne z] at e; exact g.grow b e
end

/-! ### list comprehensions -/
def lcF (fg : D → Sd → Option Sd) (ft : FT) (fe : FE) (vs : List Nat) : List D → Sd → Option (List D × Sd)
  | [], s => some ([], s)
  | d :: r, s => match fg d s with
    | none => none
    | some s1 => match ft s1 with
      | none => none
      | some (false, s2) => if nol s2 vs = true then lcF fg ft fe vs r (clr s2 vs) else none
      | some (true, s2) => match fe s2 with
        | none => none
        | some (e, s3) => if nol s3 vs = true then (match lcF fg ft fe vs r (clr s3 vs) with
          | none => none
          | some (es, s4) => some (e :: es, s4)) else none
def fLc (fi : FI) (fg : D → Sd → Option Sd) (ft : FT) (fe : FE) (vs : List Nat) : FE := fun s => match fi s with
  | none => none
  | some (ds, s1) => if nol s1 vs = true ∧ ds.length ≤ 100000 then (match lcF fg ft fe vs ds (clr s1 vs) with
    | none => none
    | some (es, s4) => some (.lst es, rst s1 s4 vs)) else none
def GIn (g : TG) (vs : List Nat) : Prop := ∀ x σ H (Q Q' : L2.St → Hp → Prop), g x σ H Q → (∀ σ2 H2, wipe σ2 vs = wipe σ vs → Q σ2 H2 → Q' σ2 H2) → g x σ H Q'
def GsIn (g : TGs) (vs : List Nat) : Prop := ∀ xs σ H (Q Q' : L2.St → Hp → Prop), g xs σ H Q → (∀ σ2 H2, wipe σ2 vs = wipe σ vs → Q σ2 H2 → Q' σ2 H2) → g xs σ H Q'
section
variable {X : Cx} {K : PySem.W.Frag}
theorem gin_name {i : Nat} {vs : List Nat} (h : i ∈ vs) : GIn (gName i) vs := fun x σ H Q Q' q k => k _ _ (wipe_set σ h) q
theorem gsin_nil {vs : List Nat} : GsIn gNil vs := fun xs σ H Q Q' q k => ⟨q.1, k _ _ rfl q.2⟩
theorem gsin_cons {t : TG} {u : TGs} {vs : List Nat} (h1 : GIn t vs) (h2 : GsIn u vs) : GsIn (gCons t u) vs := fun xs σ H Q Q' q k => by
  obtain ⟨v, r, e, q⟩ := q
  exact ⟨v, r, e, h1 _ _ _ _ _ q fun σ2 H2 w q2 => h2 _ _ _ _ _ q2 fun σ3 H3 w2 q3 => k _ _ (w2.trans w) q3⟩
theorem gin_tup {n : Nat} {u : TGs} {vs : List Nat} (h : GsIn u vs) : GIn (gTup K n u) vs := fun x σ H Q Q' q k => by
  obtain ⟨a, xs, e1, e2, e3, q⟩ := q
  exact ⟨a, xs, e1, e2, e3, h _ _ _ _ _ q k⟩
theorem se_lc {wi : TI} {g : TG} {tt : TT} {te : TE} {fi : FI} {fg : D → Sd → Option Sd} {ft : FT} {fe : FE} {vs : List Nat} (hi : SI K wi fi) (hg : SG K g fg) (hin : GIn g vs) (ht : ST K tt ft) (he : SE K te fe) : SE K (tLc wi g tt te vs) (fLc fi fg ft fe vs) := by
  intro S H s σ Q r q
  unfold fLc at q
  refine hi S H s σ _ r ?_
  cases e : fi s with
  | none => rw [e] at q; exact q.elim
  | some x =>
    obtain ⟨ds, s1⟩ := x
    rw [e] at q
    simp only at q
    intro J S0 H0 g0 its Dd hD
    by_cases c : nol s1 vs = true ∧ ds.length ≤ 100000
    · rw [if_pos c] at q
      obtain ⟨c1, c2⟩ := c
      cases e2 : lcF fg ft fe vs ds (clr s1 vs) with
      | none => rw [e2] at q; exact q.elim
      | some y =>
        obtain ⟨es, s4⟩ := y
        rw [e2] at q
        have r0 := g0.rep.clr c1
        have hS0 : S0 Dd = none := g0.rep.sub.free hD
        have no0 : ¬ Own (clr s1 vs) (wipe σ vs) Dd := by
          rintro ⟨i, p, es, h1, h2⟩
          obtain ⟨b, ws, e1, e2, _⟩ := r0.ol i p es h1
          cases ref_inj h2 e1
          rw [hD] at e2; cases e2
        refine ⟨fun i m H' => m + i = ds.length ∧ ∃ S' s' acc done rest, Go K S0 H0 (clr s1 vs) (wipe σ vs) S' H' s' (wipe σ vs) ∧ H' Dd = some (.lst acc) ∧ S' Dd = none ∧ ¬ Own s' (wipe σ vs) Dd ∧ DtA K S' acc done ∧ done.length ≤ i ∧
          lcF fg ft fe vs (ds.drop i) s' = some (rest, s4) ∧ done ++ rest = es ∧ clr s' vs = s', ⟨ds.length, rfl, S0, clr s1 vs, [], [], es, (Go.refl r0).other hS0 no0 hD, upd_same, hS0, no0, .nil, Nat.le_refl _, by rw [List.drop_zero]; exact e2, rfl, clr_clr s1 vs⟩, ?_⟩
        rintro i m H' ⟨hm, S', s', acc, done, rest, g1, hacc, hSd, nO, dacc, hlen, hl, hes, hcl⟩
        obtain ⟨go, st⟩ := its i S' H' g1.ext g1.rep.sub
        by_cases hi : i < ds.length
        · obtain ⟨go, yl⟩ := go hi
          refine .inr ⟨go, fun H2 => ∃ S2 s2 acc done rest, Go K S0 H0 (clr s1 vs) (wipe σ vs) S2 H2 s2 (wipe σ vs) ∧ H2 Dd = some (.lst acc) ∧ S2 Dd = none ∧ ¬ Own s2 (wipe σ vs) Dd ∧ DtA K S2 acc done ∧ done.length ≤ i + 1 ∧
            lcF fg ft fe vs (ds.drop (i + 1)) s2 = some (rest, s4) ∧ done ++ rest = es ∧ clr s2 vs = s2, fun H2 z => ⟨m - 1, by omega, by omega, z⟩, fun x H3 y => ?_⟩
          obtain ⟨S3, d, al, ed, dx⟩ := yl x H3 y
          have g3 := al.go g1.rep
          rw [List.drop_eq_getElem_cons hi] at hl
          have ed' : ds[i] = d := by rw [List.getElem?_eq_getElem hi] at ed; exact Option.some.inj ed
          rw [ed'] at hl
          simp only [lcF] at hl
          cases e3 : fg d s' with
          | none => rw [e3] at hl; cases hl
          | some s5 =>
            rw [e3] at hl
            simp only at hl
            refine hin x (wipe σ vs) H3 (fun σ5 H5 => ∃ S5, Go K S3 H3 s' (wipe σ vs) S5 H5 s5 σ5) _ (hg S3 H3 s' (wipe σ vs) x d _ g3.rep dx (by rw [e3]; exact fun S5 H5 σ5 g5 => ⟨S5, g5⟩)) ?_
            rintro σ5 H5 hw ⟨S5, g5⟩
            rw [wipe_wipe] at hw
            refine ⟨hw, ?_⟩
            have g35 := g3.trans g5
            cases e4 : ft s5 with
            | none => rw [e4] at hl; cases hl
            | some z =>
              obtain ⟨b, s6⟩ := z
              rw [e4] at hl
              refine ht.use g5.rep e4 fun S6 H6 g6 => ?_
              have g36 := g35.trans g6
              cases b with
              | false =>
                refine iteF ?_
                simp only at hl
                by_cases c6 : nol s6 vs = true
                · rw [if_pos c6] at hl
                  have gi := g36.inClr c6 (hw.trans (wipe_wipe σ vs).symm) hcl (wipe_wipe σ vs)
                  refine ⟨S6, clr s6 vs, acc, done, rest, g1.trans gi, gi.keep Dd _ hacc nO, none_of fun z => ?_, fun z => ?_, dacc.mono gi.ext, by omega, hl, hes, clr_clr s6 vs⟩
                  · rcases gi.grow Dd z with w | w | w
                    · exact w hSd
                    · rw [hacc] at w; cases w
                    · exact nO w
                  · rcases gi.own Dd z with w | w
                    · exact nO w
                    · rw [hacc] at w; cases w
                · rw [if_neg c6] at hl; cases hl
              | true =>
                refine iteT ?_
                simp only at hl
                cases e5 : fe s6 with
                | none => rw [e5] at hl; cases hl
                | some w =>
                  obtain ⟨ev, s7⟩ := w
                  rw [e5] at hl
                  simp only at hl
                  refine he.use g6.rep e5 fun v S7 H7 g7 dv => ?_
                  by_cases c7 : nol s7 vs = true
                  · rw [if_pos c7] at hl
                    cases e6 : lcF fg ft fe vs (ds.drop (i + 1)) (clr s7 vs) with
                    | none => rw [e6] at hl; cases hl
                    | some u =>
                      obtain ⟨rs, s8⟩ := u
                      rw [e6] at hl
                      simp only at hl
                      cases hl
                      have gi := (g36.trans g7).inClr c7 (hw.trans (wipe_wipe σ vs).symm) hcl (wipe_wipe σ vs)
                      have hS7 : S7 Dd = none := none_of fun z => by
                        rcases gi.grow Dd z with w | w | w
                        · exact w hSd
                        · rw [hacc] at w; cases w
                        · exact nO w
                      have nO7 : ¬ Own (clr s7 vs) (wipe σ vs) Dd := fun z => by
                        rcases gi.own Dd z with w | w
                        · exact nO w
                        · rw [hacc] at w; cases w
                      refine ⟨acc, gi.keep Dd _ hacc nO, sz_lt (by rw [dacc.length]; omega), S7, clr s7 vs, acc ++ [v], done ++ [ev], rs, (g1.trans gi).other hS7 nO7 hD, upd_same, hS7, nO7, (dacc.mono gi.ext).app (.cons dv .nil), ?_, e6, ?_, clr_clr s7 vs⟩
                      · rw [List.length_append, List.length_singleton]; omega
                      · rw [← hes, List.append_assoc]; rfl
                  · rw [if_neg c7] at hl; cases hl
        · refine .inl ⟨st (by omega), ?_⟩
          rw [List.drop_eq_nil_of_le (by omega)] at hl
          simp only [lcF] at hl
          cases hl
          rw [List.append_nil] at hes
          subst hes
          have ga := g1.adopt hSd nO hD hacc
          have go := ga.outClr g0.rep c1
          exact q _ _ _ (g0.trans go) (.lst upd_same (dacc.mono (same_upd hSd)))
    · rw [if_neg c] at q; exact q.elim
structure PDts (X : Cx) (es : List Expr) (t : TT) (f : FT) : Prop where
  pt : PTs X es t
  ok : ST X.K t f
def fYes : FT := fun s => some (true, s)
theorem dts_nil : PDts X [] tYes fYes := ⟨pts_nil, fun S H s σ Q r q => q S H (Go.refl r)⟩
theorem dts_one {c : Expr} {t : TT} {f : FT} (h : PDt X c t f) : PDts X [c] t f := ⟨pts_one h.pe, h.ok⟩
theorem pd_lc {elt tg iter : Expr} {ifs : List Expr} {scope : Scope} {own : List (Str × Nat)} {pos : Pos} {wi : TI} {g : TG} {tt : TT} {te : TE} {fi : FI} {fg : D → Sd → Option Sd} {ft : FT} {fe : FE} (hc : X.calm = true) (hN : X.N.Nodup) (hi : PDi X tg iter wi fi) (ok : BlkOk X.N X.env.scope scope own)
    (hin : GIn g (own.map (·.2)))
    (hg : ∀ (s : Shared) (H : Hp) (C : Addr) (cl : List (Str × Addr)) (fp : List Addr), PDg (X.blk s H scope (compEnvC scope cl C X.env) fp) tg g fg) (ht : ∀ (s : Shared) (H : Hp) (C : Addr) (cl : List (Str × Addr)) (fp : List Addr), PDts (X.blk s H scope (compEnvC scope cl C X.env) fp) ifs tt ft)
    (he : ∀ (s : Shared) (H : Hp) (C : Addr) (cl : List (Str × Addr)) (fp : List Addr), PD (X.blk s H scope (compEnvC scope cl C X.env) fp) elt te fe) (s0 : Shared) (hs : ∀ x, foldedSetIterable iter X.env x = pure x := by intro _; rfl) :
    PD X (.ListComp elt [⟨tg, iter, ifs, 0⟩] scope pos) (tLc wi g tt te (own.map (·.2))) (fLc fi fg ft fe (own.map (·.2))) :=
  ⟨pe_lc hc hN hi.pi ok (fun s H C cl fp => (hg s H C cl fp).pg) (fun s H C cl fp => (ht s H C cl fp).pt) (fun s H C cl fp => (he s H C cl fp).pe) hs,
    se_lc hi.ok (hg s0 (fun _ => none) 0 [] []).ok hin (ht s0 (fun _ => none) 0 [] []).ok (he s0 (fun _ => none) 0 [] []).ok⟩

/-! ### defs -/
def back (as s' : Sd) : Sd := as.mapIdx fun i x => match x with
  | .ol true _ => (s'[i]?).getD .no
  | x => x
def defF (np N : Nat) (fb : FS) : List Sl → Option (D × Sd) := fun as => match fb (as ++ List.replicate (N - np) .no) with
  | some (.rt d, s') => some (d, back as s')
  | some (.rn ds, s') => some (.lst ds, back as s')
  | some (.nx, s') => some (.non, back as s')
  | _ => none
def spF (K : PySem.W.Frag) (n : Nat) (f : List Sl → Option (D × Sd)) : Sp := fun vs H Q _ => vs.length = n ∧ ∃ S as, Rep K S H as (vs.map some) ∧ (∀ (i : Nat) (ds : List D), as[i]? ≠ some (.ol false ds)) ∧ match f as with
  | none => False
  | some (d, as') => ∀ v S' H', Go K S H as (vs.map some) S' H' as' (vs.map some) → Dt K S' v d → Q v H'
theorem back_len (as s' : Sd) : (back as s').length = as.length := by unfold back; rw [List.length_mapIdx]
theorem back_get {as s' : Sd} {i : Nat} {x : Sl} (h : (back as s')[i]? = some x) : (∃ ds, as[i]? = some (.ol true ds) ∧ x = (s'[i]?).getD .no) ∨ ((∀ ds, as[i]? ≠ some (.ol true ds)) ∧ as[i]? = some x) := by
  unfold back at h
  rw [List.getElem?_mapIdx] at h
  cases e : as[i]? with
  | none => rw [e] at h; cases h
  | some y =>
    rw [e] at h
    cases y with
    | no => exact .inr ⟨fun ds z => (by cases z), h⟩
    | tr d => exact .inr ⟨fun ds z => (by cases z), h⟩
    | ol p ds =>
      cases p with
      | true => exact .inl ⟨ds, rfl, (Option.some.inj h).symm⟩
      | false => exact .inr ⟨fun ds z => (by cases z), h⟩
theorem go_back {S H S' H' : Hp} {as s' : Sd} {τ σ' : L2.St} {n : Nat} (r : Rep K S H as τ) (no : ∀ (i : Nat) (ds : List D), as[i]? ≠ some (.ol false ds))
    (g : Go K S H (as ++ List.replicate n .no) (τ ++ List.replicate n none) S' H' s' σ') : Go K S H as τ S' H' (back as s') τ := by
  have hl : as.length = τ.length := r.len.symm
  have low : ∀ (i : Nat) (x : Sl), as[i]? = some x → (as ++ List.replicate n .no)[i]? = some x := fun i x e => by rw [List.getElem?_append_left (getElem?_lt e)]; exact e
  have lowτ : ∀ (i : Nat) (x : Sl), as[i]? = some x → (τ ++ List.replicate n none)[i]? = τ[i]? := fun i x e => List.getElem?_append_left (by rw [← hl]; exact getElem?_lt e)
  have o1 : ∀ a, Own (as ++ List.replicate n .no) (τ ++ List.replicate n none) a → Own as τ a := by
    rintro a ⟨i, p, ds, h1, h2⟩
    by_cases hi : i < as.length
    · rw [List.getElem?_append_left hi] at h1
      rw [List.getElem?_append_left (by rw [← hl]; exact hi)] at h2
      exact ⟨i, p, ds, h1, h2⟩
    · rw [List.getElem?_append_right (by omega)] at h1
      have := List.mem_of_getElem? h1
      rw [List.mem_replicate] at this
      cases this.2
  have st : ∀ (i : Nat) (ds : List D), as[i]? = some (.ol true ds) → ∃ ds', s'[i]? = some (.ol true ds') ∧ σ'[i]? = τ[i]? := fun i ds e => by
    obtain ⟨ds', e1, e2⟩ := g.stay i ds (low i _ e)
    exact ⟨ds', e1, e2.trans (lowτ i _ e)⟩
  refine ⟨⟨g.rep.sub, by rw [back_len]; exact r.len, fun i d e => ?_, fun i p ds e => ?_, fun i j p q ds es a h1 h2 h3 h4 => ?_⟩, g.ext, fun a o e n' => g.keep a o e fun z => n' (o1 a z), fun a o => ?_, g.live, fun a e => ?_, fun i ds e => ?_, back_len _ _⟩
  · rcases back_get e with ⟨ds, e1, e2⟩ | ⟨_, e1⟩
    · obtain ⟨ds', e3, _⟩ := st i ds e1
      rw [e3] at e2; cases e2
    · obtain ⟨v, e3, q⟩ := r.tr i d e1
      exact ⟨v, e3, q.mono g.ext⟩
  · rcases back_get e with ⟨ds0, e1, e2⟩ | ⟨n1, e1⟩
    · obtain ⟨ds', e3, e4⟩ := st i ds0 e1
      rw [e3] at e2; cases e2
      have := g.rep.ol i _ _ e3
      rw [e4] at this
      exact this
    · cases p with
      | true => exact absurd e1 (n1 ds)
      | false => exact absurd e1 (no i ds)
  · have w : ∀ (i : Nat) (p : Bool) (ds : List D), (back as s')[i]? = some (.ol p ds) → ∃ ds', as[i]? = some (.ol true ds') := fun i p ds e => by
      rcases back_get e with ⟨ds0, e1, e2⟩ | ⟨n1, e1⟩
      · exact ⟨ds0, e1⟩
      · cases p with
        | true => exact absurd e1 (n1 ds)
        | false => exact absurd e1 (no i ds)
    obtain ⟨_, w1⟩ := w i p ds h1
    obtain ⟨_, w2⟩ := w j q es h2
    exact r.ne i j _ _ _ _ a w1 w2 h3 h4
  · obtain ⟨i, p, ds, h1, h2⟩ := o
    rcases back_get h1 with ⟨ds0, e1, e2⟩ | ⟨n1, e1⟩
    · exact .inl ⟨i, true, ds0, e1, h2⟩
    · exact .inl ⟨i, p, ds, e1, h2⟩
  · rcases g.grow a e with z | z | z
    · exact .inl z
    · exact .inr (.inl z)
    · exact .inr (.inr (o1 a z))
  · obtain ⟨ds', e1, _⟩ := st i ds e
    refine ⟨ds', ?_, rfl⟩
    unfold back
    rw [List.getElem?_mapIdx, e]
    show some ((s'[i]?).getD .no) = _
    rw [e1]
    rfl
theorem rep_start {S H : Hp} {as : Sd} {τ : L2.St} (n : Nat) (r : Rep K S H as τ) : Rep K S H (as ++ List.replicate n .no) (τ ++ List.replicate n none) := by
  have hl : as.length = τ.length := r.len.symm
  have low : ∀ (i : Nat) (x : Sl), (as ++ List.replicate n .no)[i]? = some x → x = .no ∨ (i < as.length ∧ as[i]? = some x) := fun i x e => by
    by_cases hi : i < as.length
    · rw [List.getElem?_append_left hi] at e; exact .inr ⟨hi, e⟩
    · rw [List.getElem?_append_right (by omega)] at e
      have := List.mem_of_getElem? e
      rw [List.mem_replicate] at this
      exact .inl this.2
  refine ⟨r.sub, by rw [List.length_append, List.length_append, List.length_replicate, List.length_replicate, r.len], fun i d e => ?_, fun i p ds e => ?_, fun i j p q ds es a h1 h2 h3 h4 => ?_⟩
  · rcases low i _ e with z | ⟨hi, z⟩
    · cases z
    · rw [List.getElem?_append_left (by rw [← hl]; exact hi)]
      exact r.tr i d z
  · rcases low i _ e with z | ⟨hi, z⟩
    · cases z
    · rw [List.getElem?_append_left (by rw [← hl]; exact hi)]
      exact r.ol i p ds z
  · rcases low i _ h1 with z | ⟨hi, z⟩
    · cases z
    · rcases low j _ h2 with y | ⟨hj, y⟩
      · cases y
      · rw [List.getElem?_append_left (by rw [← hl]; exact hi)] at h3
        rw [List.getElem?_append_left (by rw [← hl]; exact hj)] at h4
        exact r.ne i j p q ds es a z y h3 h4
theorem body_ok {vs : List V} {H : Hp} {Q : VK} {E : XK} {n : Nat} {N : List Str} {t : TS} {fb : FS} (hn : N.length - vs.length = N.length - n) (ok : SS K t fb) (h : spF K n (defF n N.length fb) vs H Q E) : t { nx := fun _ H' => Q .non H', rt := Q } (L2.start N vs) H := by
  obtain ⟨hl, S, as, r, no, h⟩ := h
  unfold L2.start
  rw [hn]
  refine ok S H _ _ _ (rep_start _ r) ?_
  unfold defF at h
  cases e : fb (as ++ List.replicate (N.length - n) .no) with
  | none => rw [e] at h; exact h.elim
  | some x =>
    obtain ⟨fl, s'⟩ := x
    rw [e] at h
    cases fl with
    | nx => exact fun S' H' σ' g => h _ S' H' (go_back r no g) .non
    | rt d => exact fun v S' H' σ' g q => h v S' H' (go_back r no g) q
    | rn ds => exact fun p ws S' H' σ' g e0 e1 e2 e3 q => h _ _ H' (go_back r no (g.adopt e2 e3 e0 e1)) (.lst upd_same (q.mono (same_upd e2)))
    | bk => exact h.elim
    | ct => exact h.elim
/-- a def that hands back a new list -/
def defN (np N : Nat) (fb : FS) : List Sl → Option (List D × Sd) := fun as => match fb (as ++ List.replicate (N - np) .no) with
  | some (.rn ds, s') => some (ds, back as s')
  | _ => none
def spN (K : PySem.W.Frag) (n : Nat) (f : List Sl → Option (List D × Sd)) : Sp := fun vs H Q _ => vs.length = n ∧ ∃ S as, Rep K S H as (vs.map some) ∧ (∀ (i : Nat) (ds : List D), as[i]? ≠ some (.ol false ds)) ∧ match f as with
  | none => False
  | some (ds, as') => ∀ p ws S' H', Go K S H as (vs.map some) S' H' as' (vs.map some) → H p = none → H' p = some (.lst ws) → S' p = none → DtA K S' ws ds → Q (.ref p) H'
theorem bodyN_ok {vs : List V} {H : Hp} {Q : VK} {E : XK} {n : Nat} {N : List Str} {t : TS} {fb : FS} (hn : N.length - vs.length = N.length - n) (ok : SS K t fb) (h : spN K n (defN n N.length fb) vs H Q E) : t { nx := fun _ H' => Q .non H', rt := Q } (L2.start N vs) H := by
  obtain ⟨hl, S, as, r, no, h⟩ := h
  unfold L2.start
  rw [hn]
  refine ok S H _ _ _ (rep_start _ r) ?_
  unfold defN at h
  cases e : fb (as ++ List.replicate (N.length - n) .no) with
  | none => rw [e] at h; exact h.elim
  | some x =>
    obtain ⟨fl, s'⟩ := x
    rw [e] at h
    cases fl with
    | nx => exact h.elim
    | rt d => exact h.elim
    | rn ds => exact fun p ws S' H' σ' g e0 e1 e2 e3 q => h p ws S' H' (go_back r no g) e0 e1 e2 q
    | bk => exact h.elim
    | ct => exact h.elim
variable {P : Program} {w : World} {mg : Str → Option Value} {base : Heap}
theorem defN_ok {x qual : Str} {st : Stmt} {f : Addr} {fd : FuncData} {N ps : List Str} {k : Nat} {fb : FS} (F : Fun K x qual st f fd) (Sc : FnScope N ps (defScope st))
    (hb : ∀ (cdv : Value) (A : Around) (outer : List Env) (s : Shared) (H : Hp) (E : XK), Room k (A.deeper (envOfC qual (defScope st) s.heap.objs.size f cdv)) →
      ∃ t, PDss (cxOf CX0 P w K mg base N qual (defScope st) f cdv A outer s H E).nox (defBody st) t fb) : FnOk P w K mg base CX0 (k + 1) f fd ps (spN K ps.length (defN ps.length N.length fb)) := by
  refine F.ok Sc (fun vs H Q E h => h.1) (fun cdv A outer s H vs Q E hr h => ?_)
  obtain ⟨t, ht⟩ := hb cdv A outer s H E hr
  exact ⟨t, ht.ps, bodyN_ok (by rw [h.1]) ht.ok h⟩
theorem def_ok {x qual : Str} {st : Stmt} {f : Addr} {fd : FuncData} {N ps : List Str} {k : Nat} {fb : FS} (F : Fun K x qual st f fd) (Sc : FnScope N ps (defScope st))
    (hb : ∀ (cdv : Value) (A : Around) (outer : List Env) (s : Shared) (H : Hp) (E : XK), Room k (A.deeper (envOfC qual (defScope st) s.heap.objs.size f cdv)) →
      ∃ t, PDss (cxOf CX0 P w K mg base N qual (defScope st) f cdv A outer s H E).nox (defBody st) t fb) : FnOk P w K mg base CX0 (k + 1) f fd ps (spF K ps.length (defF ps.length N.length fb)) := by
  refine F.ok Sc (fun vs H Q E h => h.1) (fun cdv A outer s H vs Q E hr h => ?_)
  obtain ⟨t, ht⟩ := hb cdv A outer s H E hr
  exact ⟨t, ht.ps, body_ok (by rw [h.1]) ht.ok h⟩

/-! ### calls of defs -/
theorem rep_args {S H : Hp} : ∀ {vs : List V} {ds : List D}, Same S H → DtA K S vs ds → Rep K S H (ds.map Sl.tr) (vs.map some) := fun {vs ds} sm q => by
  refine ⟨sm, by rw [List.length_map, List.length_map, q.length], fun i d e => ?_, fun i p es e => ?_, fun i j p _ es fs a h1 h2 _ _ => ?_⟩
  · rw [List.getElem?_map] at e
    cases e1 : ds[i]? with
    | none => rw [e1] at e; cases e
    | some d' =>
      rw [e1] at e
      cases e
      obtain ⟨v, e2, dv⟩ := q.get e1
      exact ⟨v, by rw [List.getElem?_map, e2]; rfl, dv⟩
  · rw [List.getElem?_map] at e
    cases e1 : ds[i]? with
    | none => rw [e1] at e; cases e
    | some d' => rw [e1] at e; cases e
  · rw [List.getElem?_map] at h1
    cases e1 : ds[i]? with
    | none => rw [e1] at h1; cases h1
    | some d' => rw [e1] at h1; cases h1
theorem no_own {ds : List D} {τ : L2.St} {a : Addr} : ¬ Own (ds.map Sl.tr) τ a := by
  rintro ⟨i, p, es, h1, _⟩
  rw [List.getElem?_map] at h1
  cases e1 : ds[i]? with
  | none => rw [e1] at h1; cases h1
  | some d' => rw [e1] at h1; cases h1
theorem no_ol {ds : List D} {p : Bool} (i : Nat) (es : List D) : (ds.map Sl.tr)[i]? ≠ some (.ol p es) := fun h1 => by
  rw [List.getElem?_map] at h1
  cases e1 : ds[i]? with
  | none => rw [e1] at h1; cases h1
  | some d' => rw [e1] at h1; cases h1
theorem go_al {S H S' H' : Hp} {ds : List D} {as' : Sd} {τ : L2.St} (g : Go K S H (ds.map Sl.tr) τ S' H' as' τ) : Al S H S' H' := ⟨g.ext, fun a o e => g.keep a o e no_own, g.rep.sub, fun a e => by
  rcases g.grow a e with z | z | z
  · exact .inl z
  · exact .inr z
  · exact absurd z no_own⟩
def fCall (n : Nat) (g : List Sl → Option (D × Sd)) (fr : FA) : FE := fun s => match fr s with
  | none => none
  | some (ds, s1) => if ds.length = n then (match g (ds.map Sl.tr) with
    | none => none
    | some (d, _) => some (d, s1)) else none
theorem se_call {n : Nat} {g : List Sl → Option (D × Sd)} {tr : TA} {fr : FA} {E : XK} (h : SA K tr fr) : SE K (tCall (spF K n g) [] E tr) (fCall n g fr) := by
  intro S H s σ Q r q
  unfold fCall at q
  cases e : fr s with
  | none => rw [e] at q; exact q.elim
  | some x =>
    obtain ⟨ds, s1⟩ := x
    rw [e] at q
    simp only at q
    refine h.use r e fun vs S1 H1 g1 d => ?_
    rw [List.append_nil]
    by_cases c : ds.length = n
    · rw [if_pos c] at q
      refine ⟨by rw [d.length]; exact c, S1, ds.map Sl.tr, rep_args g1.rep.sub d, fun i es => no_ol i es, ?_⟩
      cases e2 : g (ds.map Sl.tr) with
      | none => rw [e2] at q; exact q.elim
      | some y =>
        obtain ⟨z, as'⟩ := y
        rw [e2] at q
        exact fun v S' H' g2 dv => q v S' H' (g1.trans ((go_al g2).go g1.rep)) dv
    · rw [if_neg c] at q; exact q.elim
theorem pd_call {CX : CXT} {k : Nat} {f : Addr} {fd : FuncData} {ps : List Str} {n : Nat} {g : List Sl → Option (D × Sd)} {E : XK} {x : Str} {p pos : Pos} {e : Expr} {es : List Expr} {tr : TA} {fr : FA} (F : FnOk X.prog X.w X.K X.mg X.base CX k f fd ps (spF X.K n g)) (hr : Room k X.A) (hg : Gl X x) (hm : X.mg x = some (.ref f)) (hk : PySem.W.keepIn X.K (.ref f) = true) (hb : Binds X.K fd ps []) (hx : Passes CX X E)
    (ha : PDa X (e :: es) tr fr) (hdb : (x == ("__debug__" : Str)) = false := by decide) (he : starEach (e :: es) X.env = (false, eval e X.env) :: starEach es X.env := by rfl) (hpl : (backTo pos (starEach es X.env)).any (·.1) = false := by rfl) :
    PD X (.Call (.Name x p) (e :: es) [] pos) (tCall (spF X.K n g) [] E tr) (fCall n g fr) := ⟨pe_call F hr hg hm hk hb .nil hx ha.pe hdb he hpl, se_call ha.ok⟩
/-- the first argument is an own list -/
def fCallO (n : Nat) (g : List Sl → Option (D × Sd)) (i : Nat) (fr : FA) : FE := fun s => match s[i]? with
  | some (.ol _ _) => match fr s with
    | none => none
    | some (ds, s1) => match s1[i]? with
      | some (.ol p xs) => if ds.length + 1 = n then (match g (.ol true xs :: ds.map Sl.tr) with
        | some (d, .ol true xs' :: _) => some (d, s1.set i (.ol p xs'))
        | _ => none) else none
      | _ => none
  | _ => none
theorem se_callO {n : Nat} {g : List Sl → Option (D × Sd)} {i : Nat} {tr : TA} {fr : FA} {E : XK} (h : SA K tr fr) : SE K (tCall (spF K n g) [] E (tCons (tVar i) tr)) (fCallO n g i fr) := by
  intro S H s σ Q r q
  unfold fCallO at q
  split at q
  · rename_i p0 ds0 e0
    obtain ⟨a0, vs0, h1, h2, h3, h4⟩ := r.ol i _ _ e0
    refine ⟨_, h1, ?_⟩
    cases e : fr s with
    | none => rw [e] at q; exact q.elim
    | some x =>
      obtain ⟨ds, s1⟩ := x
      rw [e] at q
      simp only at q
      refine h.use r e fun vs S1 H1 g1 d => ?_
      show spF K n g ((V.ref a0 :: vs) ++ []) H1 Q E
      rw [List.append_nil]
      split at q
      · rename_i p xs e1
        obtain ⟨a, ws, k1, k2, k3, k4⟩ := g1.rep.ol i p xs e1
        have ea : a = a0 := ref_inj k1 h1
        subst ea
        by_cases c : ds.length + 1 = n
        · rw [if_pos c] at q
          have rr := rep_args g1.rep.sub d
          have rep : Rep K S1 H1 (.ol true xs :: ds.map Sl.tr) ((V.ref a :: vs).map some) := by
            refine ⟨g1.rep.sub, by rw [List.length_map, List.length_cons, List.length_cons, List.length_map, d.length], fun j e' hj => ?_, fun j p' es hj => ?_, fun j j' p1 p2 es fs b hj hj' q1 q2 => ?_⟩
            · cases j with
              | zero => cases hj
              | succ j => exact rr.tr j e' hj
            · cases j with
              | zero =>
                cases hj
                exact ⟨a, ws, rfl, k2, k3, k4⟩
              | succ j => exact absurd hj (no_ol j es)
            · cases j with
              | zero =>
                cases j' with
                | zero => rfl
                | succ j' => exact absurd hj' (no_ol j' fs)
              | succ j => exact absurd hj (no_ol j es)
          have own1 : ∀ b, Own (.ol true xs :: ds.map Sl.tr) ((V.ref a :: vs).map some) b ↔ b = a := fun b => by
            constructor
            · rintro ⟨j, p', es, hj, hb⟩
              cases j with
              | zero =>
                have hb : some (some (V.ref a)) = some (some (V.ref b)) := hb
                cases hb
                rfl
              | succ j => exact absurd hj (no_ol j es)
            · rintro rfl
              exact ⟨0, true, xs, rfl, rfl⟩
          have ownA : Own s1 σ a := ⟨i, p, xs, e1, k1⟩
          refine ⟨by rw [List.length_cons, d.length]; exact c, S1, _, rep, fun j es hj => ?_, ?_⟩
          · cases j with
            | zero => cases hj
            | succ j => exact absurd hj (no_ol j es)
          · split at q
            · rename_i z xs' as' e2
              rw [e2]
              intro v S2 H2 g2 dv
              obtain ⟨b, ws', m1, m2, m3, m4⟩ := g2.rep.ol 0 true xs' rfl
              have hb : a = b := by
                have m1 : some (some (V.ref a)) = some (some (V.ref b)) := m1
                cases m1
                rfl
              subst hb
              -- the callee's run, seen from the caller
              have hx : ∀ (j : Nat) (x : Sl), (s1.set i (.ol p xs'))[j]? = some x → (j = i ∧ x = .ol p xs') ∨ (j ≠ i ∧ s1[j]? = some x) := fun j x hj => by
                by_cases hji : i = j
                · subst hji
                  rw [List.getElem?_set_self (getElem?_lt e1)] at hj
                  exact .inl ⟨rfl, (Option.some.inj hj).symm⟩
                · rw [List.getElem?_set_ne hji] at hj
                  exact .inr ⟨fun z => hji z.symm, hj⟩
              have go : Go K S1 H1 s1 σ S2 H2 (s1.set i (.ol p xs')) σ := by
                refine ⟨⟨g2.rep.sub, by rw [List.length_set]; exact g1.rep.len, fun j e' hj => ?_, fun j p' es hj => ?_, fun j j' p1 p2 es fs b hj hj' q1 q2 => ?_⟩, g2.ext, fun b o hb hn => g2.keep b o hb fun z => ?_, fun b hb => ?_, g2.live, fun b hb => ?_, fun j es hj => ?_, List.length_set⟩
                · rcases hx j _ hj with ⟨_, z⟩ | ⟨_, z⟩
                  · cases z
                  · obtain ⟨v', f1, f2⟩ := g1.rep.tr j e' z
                    exact ⟨v', f1, f2.mono g2.ext⟩
                · rcases hx j _ hj with ⟨z1, z⟩ | ⟨z1, z⟩
                  · cases z
                    subst z1
                    exact ⟨a, ws', k1, m2, m3, m4⟩
                  · obtain ⟨b, us, f1, f2, f3, f4⟩ := g1.rep.ol j p' es z
                    have hba : b ≠ a := fun y => by subst y; exact z1 (g1.rep.ne j i p' p es xs b z e1 f1 k1)
                    have nb : ¬ Own (.ol true xs :: ds.map Sl.tr) ((V.ref a :: vs).map some) b := fun y => hba ((own1 b).mp y)
                    refine ⟨b, us, f1, g2.keep b _ f2 nb, none_of fun y => ?_, f4.mono g2.ext⟩
                    rcases g2.grow b y with w | w | w
                    · exact w f3
                    · rw [f2] at w; cases w
                    · exact nb w
                · have gg : ∀ (m : Nat) (p3 : Bool) (gs : List D), (s1.set i (.ol p xs'))[m]? = some (.ol p3 gs) → ∃ p4 gs', s1[m]? = some (.ol p4 gs') := fun m p3 gs hm => by
                    rcases hx m _ hm with ⟨z1, z⟩ | ⟨_, z⟩
                    · subst z1; exact ⟨_, _, e1⟩
                    · exact ⟨_, _, z⟩
                  obtain ⟨_, _, w1⟩ := gg j p1 es hj
                  obtain ⟨_, _, w2⟩ := gg j' p2 fs hj'
                  exact g1.rep.ne j j' _ _ _ _ b w1 w2 q1 q2
                · cases (own1 b).mp z
                  exact hn ownA
                · obtain ⟨j, p3, gs, w1, w2⟩ := hb
                  rcases hx j _ w1 with ⟨z1, z⟩ | ⟨_, z⟩
                  · subst z1; exact .inl ⟨j, p, xs, e1, w2⟩
                  · exact .inl ⟨j, p3, gs, z, w2⟩
                · rcases g2.grow b hb with w | w | w
                  · exact .inl w
                  · exact .inr (.inl w)
                  · cases (own1 b).mp w
                    exact .inr (.inr ownA)
                · by_cases hji : i = j
                  · subst hji
                    rw [e1] at hj; cases hj
                    exact ⟨xs', List.getElem?_set_self (getElem?_lt e1), rfl⟩
                  · exact ⟨es, by rw [List.getElem?_set_ne hji]; exact hj, rfl⟩
              exact q v S2 H2 (g1.trans go) dv
            · exact q.elim
        · rw [if_neg c] at q; exact q.elim
      · exact q.elim
  · exact q.elim
theorem pd_callO (i : Nat) {CX : CXT} {k : Nat} {f : Addr} {fd : FuncData} {ps : List Str} {n : Nat} {g : List Sl → Option (D × Sd)} {E : XK} {x : Str} {p pos : Pos} {e : Expr} {es : List Expr} {tr : TA} {fr : FA} (F : FnOk X.prog X.w X.K X.mg X.base CX k f fd ps (spF X.K n g)) (hr : Room k X.A) (hg : Gl X x) (hm : X.mg x = some (.ref f)) (hk : PySem.W.keepIn X.K (.ref f) = true) (hb : Binds X.K fd ps []) (hx : Passes CX X E)
    (h1 : PE X e (tVar i)) (ha : PDa X es tr fr) (hs : starEach (e :: es) X.env = (false, eval e X.env) :: starEach es X.env := by rfl) (hdb : (x == ("__debug__" : Str)) = false := by decide) (hpl : (backTo pos (starEach es X.env)).any (·.1) = false := by rfl) :
    PD X (.Call (.Name x p) (e :: es) [] pos) (tCall (spF X.K n g) [] E (tCons (tVar i) tr)) (fCallO n g i fr) := ⟨pe_call F hr hg hm hk hb .nil hx (pa_cons h1 ha.pe hs) hdb hs hpl, se_callO ha.ok⟩
/-- x = f(..), the answer a new list -/
theorem Go.setO {S H S' H' : Hp} {s s' : Sd} {σ σ' : L2.St} (g : Go K S H s σ S' H' s' σ') {i : Nat} {a : Addr} {vs : List V} {ds : List D} (hi : i < s'.length) (hn : ∀ ds, s'[i]? ≠ some (.ol true ds)) (h0 : H a = none) (ha : H' a = some (.lst vs)) (hS : S' a = none) (hO : ¬ Own s' σ' a) (q : DtA K S' vs ds) :
    Go K S H s σ S' H' (s'.set i (.ol false ds)) (σ'.set i (some (.ref a))) := by
  have r := g.rep
  have hi' : i < σ'.length := by rw [r.len]; exact hi
  have hx : ∀ (j : Nat) (x : Sl), (s'.set i (.ol false ds))[j]? = some x → (j = i ∧ x = .ol false ds) ∨ (i ≠ j ∧ s'[j]? = some x) := fun j x h => by
    by_cases hj : i = j
    · subst hj
      rw [List.getElem?_set_self hi] at h
      exact .inl ⟨rfl, (Option.some.inj h).symm⟩
    · rw [List.getElem?_set_ne hj] at h
      exact .inr ⟨hj, h⟩
  refine ⟨⟨r.sub, by rw [List.length_set, List.length_set]; exact r.len, fun j e h => ?_, fun j p' es h => ?_, fun j k p1 p2 es fs b h1 h2 h3 h4 => ?_⟩, g.ext, g.keep, fun b h => ?_, g.live, g.grow, fun j es h => ?_, by rw [List.length_set]; exact g.lens⟩
  · rcases hx j _ h with ⟨z1, z⟩ | ⟨z1, z⟩
    · cases z
    · obtain ⟨w, q1, q2⟩ := r.tr j e z
      exact ⟨w, by rw [List.getElem?_set_ne z1]; exact q1, q2⟩
  · rcases hx j _ h with ⟨z1, z⟩ | ⟨z1, z⟩
    · cases z
      subst z1
      exact ⟨a, vs, List.getElem?_set_self hi', ha, hS, q⟩
    · obtain ⟨b, ws, f3, f4, f5⟩ := r.ol j p' es z
      exact ⟨b, ws, by rw [List.getElem?_set_ne z1]; exact f3, f4, f5⟩
  · have no : ∀ (j : Nat) (p : Bool) (es : List D), s'[j]? = some (.ol p es) → σ'[j]? ≠ some (some (.ref a)) := fun j p es h z => hO ⟨j, p, es, h, z⟩
    rcases hx j _ h1 with ⟨z1, z⟩ | ⟨z1, z⟩
    · rcases hx k _ h2 with ⟨y1, y⟩ | ⟨y1, y⟩
      · rw [z1, y1]
      · subst z1
        rw [List.getElem?_set_self hi'] at h3
        rw [List.getElem?_set_ne y1] at h4
        injection h3 with h3; injection h3 with h3; injection h3 with h3
        subst h3
        exact absurd h4 (no k _ _ y)
    · rcases hx k _ h2 with ⟨y1, y⟩ | ⟨y1, y⟩
      · subst y1
        rw [List.getElem?_set_self hi'] at h4
        rw [List.getElem?_set_ne z1] at h3
        injection h4 with h4; injection h4 with h4; injection h4 with h4
        subst h4
        exact absurd h3 (no j _ _ z)
      · rw [List.getElem?_set_ne z1] at h3
        rw [List.getElem?_set_ne y1] at h4
        exact r.ne j k _ _ _ _ b z y h3 h4
  · obtain ⟨j, p3, gs, h1, h2⟩ := h
    rcases hx j _ h1 with ⟨z1, z⟩ | ⟨z1, z⟩
    · subst z1
      rw [List.getElem?_set_self hi'] at h2
      injection h2 with h2; injection h2 with h2; injection h2 with h2
      subst h2
      exact .inr h0
    · rw [List.getElem?_set_ne z1] at h2
      exact g.own b ⟨j, p3, gs, z, h2⟩
  · obtain ⟨ds', e1, e2⟩ := g.stay j es h
    have hj : i ≠ j := fun z => by subst z; exact hn ds' e1
    exact ⟨ds', by rw [List.getElem?_set_ne hj]; exact e1, by rw [List.getElem?_set_ne hj]; exact e2⟩
def fSetN (n : Nat) (g : List Sl → Option (List D × Sd)) (fr : FA) (i : Nat) : FS := fun s => match fr s with
  | none => none
  | some (ds, s1) => if ds.length = n ∧ i < s1.length then (match s1[i]? with
    | some (.ol true _) => none
    | _ => match g (ds.map Sl.tr) with
      | none => none
      | some (es, _) => some (.nx, s1.set i (.ol false es))) else none
theorem ss_setN {n : Nat} {g : List Sl → Option (List D × Sd)} {tr : TA} {fr : FA} {E : XK} {i : Nat} (h : SA K tr fr) : SS K (tAsg (tCall (spN K n g) [] E tr) (gName i)) (fSetN n g fr i) := by
  intro S H s σ N r q
  unfold fSetN at q
  cases e : fr s with
  | none => rw [e] at q; exact q.elim
  | some x =>
    obtain ⟨ds, s1⟩ := x
    rw [e] at q
    simp only at q
    refine h.use r e fun vs S1 H1 g1 d => ?_
    rw [List.append_nil]
    by_cases c : ds.length = n ∧ i < s1.length
    · rw [if_pos c] at q
      have hn : ∀ es, s1[i]? ≠ some (.ol true es) := fun es z => by rw [z] at q; exact q.elim
      have q2 : QS K (match g (ds.map Sl.tr) with
        | none => none
        | some (es, _) => some (Fl.nx, s1.set i (.ol false es))) S H s σ N := by
        cases e3 : s1[i]? with
        | none => rw [e3] at q; exact q
        | some y =>
          rw [e3] at q
          cases y with
          | no => exact q
          | tr _ => exact q
          | ol p es =>
            cases p with
            | true => exact absurd e3 (hn es)
            | false => exact q
      refine ⟨by rw [d.length]; exact c.1, S1, ds.map Sl.tr, rep_args g1.rep.sub d, fun i es => no_ol i es, ?_⟩
      cases e2 : g (ds.map Sl.tr) with
      | none => rw [e2] at q2; exact q2.elim
      | some y =>
        obtain ⟨es, as'⟩ := y
        rw [e2] at q2
        intro p ws S' H' g2 p0 p1 p2 dv
        have g3 := g1.trans ((go_al g2).go g1.rep)
        have nO : ¬ Own s1 σ p := by
          rintro ⟨j, p', fs, h1, h2⟩
          obtain ⟨b, us, e1, e2, _⟩ := g1.rep.ol j p' fs h1
          cases ref_inj h2 e1
          rw [p0] at e2; cases e2
        exact q2 _ _ _ (g3.setO c.2 hn (g1.live p p0) p1 p2 nO dv)
    · rw [if_neg c] at q; exact q.elim
theorem ds_setN (i : Nat) {CX : CXT} {k : Nat} {f : Addr} {fd : FuncData} {ps : List Str} {n : Nat} {g : List Sl → Option (List D × Sd)} {E : XK} {x y : Str} {p pos pos' spos : Pos} {e : Expr} {es : List Expr} {tr : TA} {fr : FA} (hN : X.N.Nodup) (hi : X.N[i]? = some y) (hy : Loc X.env.scope y) (F : FnOk X.prog X.w X.K X.mg X.base CX k f fd ps (spN X.K n g)) (hr : Room k X.A) (hg : Gl X x) (hm : X.mg x = some (.ref f)) (hk : PySem.W.keepIn X.K (.ref f) = true) (hb : Binds X.K fd ps []) (hx : Passes CX X E)
    (ha : PDa X (e :: es) tr fr) (hs : swapsWith (.Call (.Name x p) (e :: es) [] pos) (some (.Name y pos')) spos.line X.env = pure false := by rfl) (hf : X.fn y = true ∨ X.env.scope.names.lookup y = some .local := by first | exact .inl rfl | exact .inr rfl | assumption) (hdb : (x == ("__debug__" : Str)) = false := by decide) (he : starEach (e :: es) X.env = (false, eval e X.env) :: starEach es X.env := by rfl) (hpl : (backTo pos (starEach es X.env)).any (·.1) = false := by rfl) :
    PDs X (.Assign [.Name y pos'] (.Call (.Name x p) (e :: es) [] pos) spos) (tAsg (tCall (spN X.K n g) [] E tr) (gName i)) (fSetN n g fr i) := ⟨ps_set hN hi hy (pe_call F hr hg hm hk hb .nil hx ha.pe hdb he hpl) hs hf, ss_setN ha.ok⟩
/-- f(e, ..) of def f(*xs) -/
def fCallS (g : List Sl → Option (D × Sd)) (fr : FA) : FE := fun s => match fr s with
  | none => none
  | some (ds, s1) => if ds.length ≤ 100000 then (match g [.tr (.tup ds)] with
    | none => none
    | some (d, _) => some (d, s1)) else none
def spStar (sp : Sp) : Sp := fun vs H Q E => ∃ ws rest, vs = ws ++ rest ∧ ws.length = ([] : List Str).length ∧ rest.length ≤ sizeLine ∧ ∀ p, H p = Option.none → sp (ws ++ [V.ref p]) (upd H p (.tup rest)) Q E
theorem se_callS {g : List Sl → Option (D × Sd)} {tr : TA} {fr : FA} {E : XK} (h : SA K tr fr) : SE K (fun σ H Q => tr σ H fun vs H1 => spStar (spF K 1 g) vs H1 Q E) (fCallS g fr) := by
  intro S H s σ Q r q
  unfold fCallS at q
  cases e : fr s with
  | none => rw [e] at q; exact q.elim
  | some x =>
    obtain ⟨ds, s1⟩ := x
    rw [e] at q
    simp only at q
    refine h.use r e fun vs S1 H1 g1 d => ?_
    by_cases c : ds.length ≤ 100000
    · rw [if_pos c] at q
      refine ⟨[], vs, rfl, rfl, sz_of (by rw [d.length]; exact c), fun p hp => ?_⟩
      have al := Al.new (o := HO.tup vs) g1.rep.sub hp
      have d1 : DtA K (upd S1 p (.tup vs)) [V.ref p] [.tup ds] := .cons (.tup (.inl (.inl upd_same)) (d.mono al.ext)) .nil
      refine ⟨rfl, _, [.tr (.tup ds)], rep_args al.sub d1, fun i es => no_ol (ds := [.tup ds]) i es, ?_⟩
      cases e2 : g [.tr (.tup ds)] with
      | none => rw [e2] at q; exact q.elim
      | some y =>
        obtain ⟨z, as'⟩ := y
        rw [e2] at q
        exact fun v S' H' g2 dv => q v S' H' (g1.trans ((al.trans (go_al (ds := [.tup ds]) g2)).go g1.rep)) dv
    · rw [if_neg c] at q; exact q.elim
end
end DL
namespace DL
open PySem PySem.Spec PyProof.Rows L2

section
variable {X : Cx} {K : PySem.W.Frag} {e : Expr} {es : List Expr} {te ta tb : TE} {fe fa fb : FE} {tr : TA} {fr : FA}
/-! ### isinstance -/
def D.tyN : D → String
  | .non => "NoneType"
  | .bl _ => "bool"
  | .int _ => "int"
  | .str _ => "str"
  | .tup _ => "tuple"
  | .lst _ => "list"
  | .rl _ => "list"
  | .dK _ => "dict"
  | .dT _ => "dict"
theorem Dt.tyx {S H : Hp} {v : V} {d : D} (sm : Same S H) (h : Dt K S v d) : TyX K H v (.type d.tyN) := by
  cases h with
  | non => exact .base .non
  | bl b => exact .base (.bl b)
  | int i => exact .base (.int i)
  | str x => exact .base (.str x)
  | dK ha _ => exact .base (.dK (sm _ _ ha))
  | dT ha _ => exact .base (.dT (sm _ _ ha))
  | lst ha _ => exact .base (.lst (sm _ _ ha))
  | rl ha _ =>
    rcases ha with (ha | ⟨o, ha⟩) | ⟨o, its, n, e1, e2, _⟩
    · exact .base (.lst (sm _ _ ha))
    · exact .base (.frz (sm _ _ ha))
    · exact .kList e1 e2
  | tup ha _ =>
    rcases ha with (ha | ⟨o, ha⟩) | ⟨o, its, n, e1, e2, _⟩
    · exact .base (.tup (sm _ _ ha))
    · exact .fTuple (sm _ _ ha)
    · exact .kTuple e1 e2
/-- the answer of isinstance(x, T), T built in -/
def fIsi (T : String) (f : FE) : FE := fun s => match f s with
  | some (d, s1) => match kitB d.tyN T with
    | some b => some (.bl b, s1)
    | none => none
  | none => none
theorem se_isi {T : String} (h : SE K ta fa) : SE K (tCB (rIsi K) (tCons ta (tCons (tC (.ty T)) tNil))) (fIsi T fa) := by
  intro S H s σ Q r q
  unfold fIsi at q
  cases e : fa s with
  | none => rw [e] at q; exact q.elim
  | some x =>
    obtain ⟨d, s1⟩ := x
    rw [e] at q
    simp only at q
    refine h.use r e fun v S1 H1 g dv => ?_
    cases e2 : kitB d.tyN T with
    | none => rw [e2] at q; exact q.elim
    | some b =>
      rw [e2] at q
      exact ⟨v, .ty T, _, _, b, rfl, .ty T, dv.tyx g.rep.sub, kit_ty e2, q _ S1 H1 g (.bl b)⟩
theorem pd_isi (T : String) {x : Str} {p p2 pos : Pos} {a : Expr} (hg : Gl X "isinstance") (hm : X.mg "isinstance" = none) (hgT : Gl X x) (hmT : X.mg x = none) (hvT : bootBuiltins x = some (.type T)) (h : PD X a ta fa)
    (hs : starEach [a, .Name x p2] X.env = (false, eval a X.env) :: starEach [.Name x p2] X.env := by rfl) (hs2 : starEach [.Name x p2] X.env = (false, eval (.Name x p2) X.env) :: starEach [] X.env := by rfl)
    (hpl : (backTo pos (starEach [.Name x p2] X.env)).any (·.1) = false := by rfl) (hn : x ≠ "__name__" := by decide) (hdb : (x == ("__debug__" : Str)) = false := by decide) :
    PD X (.Call (.Name "isinstance" p) [a, .Name x p2] [] pos) (tCB (rIsi X.K) (tCons ta (tCons (tC (.ty T)) tNil))) (fIsi T fa) :=
  ⟨pe_callB call_isi hg hm (by decide +kernel) (pa_cons h.pe (pa_cons (pe_bltn hgT hmT hvT rfl hn hdb) pa_nil hs2) hs) (by decide) (by decide) hs hpl, se_isi h.ok⟩

/-- {} -/
theorem pd_dnew {pos : Pos} : PD X (.Dict [] [] pos) tDNewK (fun s => some (.dK [], s)) := ⟨pe_dnewK, fun S H s σ Q r q p hp => by
  have al := Al.new (o := HO.dK []) r.sub hp
  exact q _ _ _ (al.go r) (.dK upd_same .nil)⟩
/-! ### built-ins on data -/
def gLen : List D → Option D
  | [.lst ds] => some (.int ds.length)
  | [.rl ds] => some (.int ds.length)
  | [.tup ds] => some (.int ds.length)
  | [.str x] => if x.length ≤ sizeLine then some (.int x.length) else none
  | _ => none
theorem cs_len : CallS K (fun xs H Q => ∃ x n, xs = [x] ∧ LenV K x H n ∧ Q (.int n) H) gLen := by
  intro S H vs ds z Q sm d e q
  cases d with
  | nil => cases e
  | cons d1 d =>
    cases d with
    | cons _ _ => unfold gLen at e; split at e <;> simp_all
    | nil =>
      cases d1 with
      | lst ha da =>
        cases e
        exact ⟨_, _, rfl, .inl ⟨_, .inl (.inl (sm _ _ ha)), rfl⟩, by rw [da.length]; exact q _ S H (Al.refl sm) (.int _)⟩
      | rl ha da =>
        cases e
        exact ⟨_, _, rfl, .inl ⟨_, sm.seq ha, rfl⟩, by rw [da.length]; exact q _ S H (Al.refl sm) (.int _)⟩
      | tup ha da =>
        cases e
        exact ⟨_, _, rfl, .inr ⟨_, same_t sm ha, rfl⟩, by rw [da.length]; exact q _ S H (Al.refl sm) (.int _)⟩
      | str x =>
        unfold gLen at e
        simp only at e
        split at e
        · rename_i c
          cases e
          exact ⟨_, _, rfl, ⟨c, rfl⟩, q _ S H (Al.refl sm) (.int _)⟩
        · cases e
      | _ => cases e
theorem da1 {S : Hp} {vs : List V} {d : D} (h : DtA K S vs [d]) : ∃ v, vs = [v] ∧ Dt K S v d := by
  cases h with
  | cons h1 h2 => cases h2; exact ⟨_, rfl, h1⟩
theorem da2 {S : Hp} {vs : List V} {d e : D} (h : DtA K S vs [d, e]) : ∃ v w, vs = [v, w] ∧ Dt K S v d ∧ Dt K S w e := by
  cases h with
  | cons h1 h2 =>
    cases h2 with
    | cons h2 h3 => cases h3; exact ⟨_, _, rfl, h1, h2⟩
def gAbs : List D → Option D
  | [.int i] => some (.int (if i < 0 then -i else i))
  | _ => none
theorem cs_abs : CallS K (fun xs H Q => ∃ i, xs = [.int i] ∧ Q (.int (if i < 0 then -i else i)) H) gAbs := by
  intro S H vs ds z Q sm d e q
  unfold gAbs at e
  split at e
  · obtain ⟨v, rfl, h⟩ := da1 d
    cases h
    cases e
    exact ⟨_, rfl, q _ S H (Al.refl sm) (.int _)⟩
  · cases e
def gInt : List D → Option D
  | [.int i] => some (.int i)
  | [.bl k] => some (.int (if k then 1 else 0))
  | _ => none
theorem cs_int : CallS K (fun xs H Q => (∃ i, xs = [.int i] ∧ Q (.int i) H) ∨ ∃ k, xs = [.bl k] ∧ Q (.int (if k then 1 else 0)) H) gInt := by
  intro S H vs ds z Q sm d e q
  unfold gInt at e
  split at e
  · obtain ⟨v, rfl, h⟩ := da1 d
    cases h
    cases e
    exact .inl ⟨_, rfl, q _ S H (Al.refl sm) (.int _)⟩
  · obtain ⟨v, rfl, h⟩ := da1 d
    cases h
    cases e
    exact .inr ⟨_, rfl, q _ S H (Al.refl sm) (.int _)⟩
  · cases e
def gGcd : List D → Option D
  | [.int a, .int b] => some (.int ((Nat.gcd a.natAbs b.natAbs : Nat) : Int))
  | _ => none
theorem cs_gcd : CallS K rGcd gGcd := by
  intro S H vs ds z Q sm d e q
  unfold gGcd at e
  split at e
  · obtain ⟨v, w, rfl, h1, h2⟩ := da2 d
    cases h1
    cases h2
    cases e
    exact ⟨_, _, rfl, q _ S H (Al.refl sm) (.int _)⟩
  · cases e
def gMax2 : List D → Option D
  | [.int i, .int j] => some (.int (if j > i then j else i))
  | _ => none
def gMin2 : List D → Option D
  | [.int i, .int j] => some (.int (if j < i then j else i))
  | _ => none
theorem cs_max2 : CallS K (fun xs H Q => ∃ i j, xs = [.int i, .int j] ∧ Q (.int (if j > i then j else i)) H) gMax2 := by
  intro S H vs ds z Q sm d e q
  unfold gMax2 at e
  split at e
  · obtain ⟨v, w, rfl, h1, h2⟩ := da2 d
    cases h1
    cases h2
    cases e
    exact ⟨_, _, rfl, q _ S H (Al.refl sm) (.int _)⟩
  · cases e
theorem cs_min2 : CallS K (fun xs H Q => ∃ i j, xs = [.int i, .int j] ∧ Q (.int (if j < i then j else i)) H) gMin2 := by
  intro S H vs ds z Q sm d e q
  unfold gMin2 at e
  split at e
  · obtain ⟨v, w, rfl, h1, h2⟩ := da2 d
    cases h1
    cases h2
    cases e
    exact ⟨_, _, rfl, q _ S H (Al.refl sm) (.int _)⟩
  · cases e
def bools : List D → Option (List Bool)
  | [] => some []
  | .bl b :: r => match bools r with
    | some bs => some (b :: bs)
    | none => none
  | _ => none
theorem bools_of {S : Hp} : ∀ {vs : List V} {ds : List D} {bs : List Bool}, DtA K S vs ds → bools ds = some bs → vs = bs.map V.bl
  | _, _, _, .nil, e => by cases e; rfl
  | _, _, bs, .cons h a, e => by
    cases h with
    | bl b =>
      simp only [bools] at e
      split at e
      · rename_i b' r' c
        cases e
        rw [bools_of a c]
        rfl
      · cases e
    | _ => cases e
def gAll : List D → Option D
  | [.lst ds] => match bools ds with
    | some bs => some (.bl (bs.all id))
    | none => none
  | _ => none
def gAny : List D → Option D
  | [.lst ds] => match bools ds with
    | some bs => some (.bl (bs.any id))
    | none => none
  | _ => none
theorem cs_all : CallS K (rAll K) gAll := by
  intro S H vs ds z Q sm d e q
  unfold gAll at e
  split at e
  · obtain ⟨v, rfl, h⟩ := da1 d
    split at e
    · rename_i bs c
      cases e
      cases h with
      | lst ha da =>
        rw [bools_of da c] at ha
        exact ⟨_, bs, rfl, .inl (.inl (sm _ _ ha)), q _ S H (Al.refl sm) (.bl _)⟩
    · cases e
  · cases e
theorem cs_any : CallS K (rAny K) gAny := by
  intro S H vs ds z Q sm d e q
  unfold gAny at e
  split at e
  · obtain ⟨v, rfl, h⟩ := da1 d
    split at e
    · rename_i bs c
      cases e
      cases h with
      | lst ha da =>
        rw [bools_of da c] at ha
        exact ⟨_, bs, rfl, .inl (.inl (sm _ _ ha)), q _ S H (Al.refl sm) (.bl _)⟩
    · cases e
  · cases e
def gList : List D → Option D
  | [.lst ds] => some (.lst ds)
  | [.rl ds] => some (.lst ds)
  | [.tup ds] => some (.lst ds)
  | _ => none
theorem cs_list : CallS K (fun xs H Q => ∃ p ys, xs = [.ref p] ∧ (SqL K H p ys ∨ SqT K H p ys) ∧ ∀ l, H l = none → Q (.ref l) (upd H l (.lst ys))) gList := by
  intro S H vs ds z Q sm d e q
  unfold gList at e
  split at e
  · obtain ⟨v, rfl, h⟩ := da1 d
    cases e
    cases h with
    | lst ha da => exact ⟨_, _, rfl, .inl (.inl (.inl (sm _ _ ha))), fun l hl => q _ _ _ (Al.new sm hl) (.lst upd_same (da.mono (Al.new sm hl).ext))⟩
  · obtain ⟨v, rfl, h⟩ := da1 d
    cases e
    cases h with
    | rl ha da => exact ⟨_, _, rfl, .inl (sm.seq ha), fun l hl => q _ _ _ (Al.new sm hl) (.lst upd_same (da.mono (Al.new sm hl).ext))⟩
  · obtain ⟨v, rfl, h⟩ := da1 d
    cases e
    cases h with
    | tup ha da => exact ⟨_, _, rfl, .inr (same_t sm ha), fun l hl => q _ _ _ (Al.new sm hl) (.lst upd_same (da.mono (Al.new sm hl).ext))⟩
  · cases e
/-- list(range(a, b)) -/
def fLstRg (fa fb : FE) : FE := fun s => match fa s with
  | some (.int i, s1) => match fb s1 with
    | some (.int j, s2) => if -(2 ^ 62) ≤ i ∧ i < 2 ^ 62 ∧ -(2 ^ 62) ≤ j ∧ j < 2 ^ 62 ∧ (j - i).toNat ≤ 2 ^ 24 then some (.lst (rngD i (j - i).toNat), s2) else none
    | _ => none
  | _ => none
theorem dta_range {S : Hp} (f : Nat → V) (g : Nat → D) (h : ∀ i, Dt K S (f i) (g i)) : ∀ l : List Nat, DtA K S (l.map f) (l.map g)
  | [] => .nil
  | i :: l => .cons (h i) (dta_range f g h l)
theorem se_lstRg (ha : SE K ta fa) (hb : SE K tb fb) : SE K (tLstRg (tRg2 ta tb)) (fLstRg fa fb) := by
  intro S H s σ Q r q
  unfold fLstRg at q
  split at q
  · rename_i i s1 e
    refine ha.use r e fun v S1 H1 g1 d1 => ?_
    cases d1
    split at q
    · rename_i j s2 e2
      refine hb.use g1.rep e2 fun w S2 H2 g2 d2 => ?_
      cases d2
      by_cases c : -(2 ^ 62) ≤ i ∧ i < 2 ^ 62 ∧ -(2 ^ 62) ≤ j ∧ j < 2 ^ 62 ∧ (j - i).toNat ≤ 2 ^ 24
      · rw [if_pos c] at q
        refine ⟨i, j, rfl, rfl, c, fun l hl => ?_⟩
        have al := Al.new (o := HO.lst (rgV i j)) g2.rep.sub hl
        exact q _ _ _ ((g1.trans g2).trans (al.go g2.rep)) (.lst upd_same (dta_range _ _ (fun n => .int _) _))
      · rw [if_neg c] at q; exact q.elim
    · exact q.elim
  · exact q.elim
theorem pd_listRg {a b : Expr} {p p2 pos pos2 : Pos} (hc : X.calm = true) (hg : Gl X "list") (hm : X.mg "list" = none) (hg2 : Gl X "range") (hm2 : X.mg "range" = none) (ha : PD X a ta fa) (hb : PD X b tb fb)
    (na : starEach [.Call (.Name "range" p2) [a, b] [] pos2] X.env = (false, eval (.Call (.Name "range" p2) [a, b] [] pos2) X.env) :: starEach [] X.env := by rfl) (na2 : starEach [a, b] X.env = (false, eval a X.env) :: starEach [b] X.env := by rfl)
    (nb : starEach [b] X.env = (false, eval b X.env) :: starEach [] X.env := by rfl) (hp : (backTo pos2 (starEach [b] X.env)).any (·.1) = false := by rfl) :
    PD X (.Call (.Name "list" p) [.Call (.Name "range" p2) [a, b] [] pos2] [] pos) (tLstRg (tRg2 ta tb)) (fLstRg fa fb) := ⟨pe_listRg hc hg hm (prg_2 hg2 hm2 ha.pe hb.pe na2 nb hp) na, se_lstRg ha.ok hb.ok⟩
/-- sep.join(a list of texts) -/
def txts : List D → Option (List Str)
  | [] => some []
  | .str b :: r => match txts r with
    | some bs => some (b :: bs)
    | none => none
  | _ => none
theorem txts_of {S : Hp} : ∀ {vs : List V} {ds : List D} {bs : List Str}, DtA K S vs ds → txts ds = some bs → vs = bs.map V.str
  | _, _, _, .nil, e => by cases e; rfl
  | _, _, bs, .cons h a, e => by
    cases h with
    | str b =>
      simp only [txts] at e
      split at e
      · rename_i b' r' c
        cases e
        rw [txts_of a c]
        rfl
      · cases e
    | _ => cases e
def fJoin (fa : FE) (fr : FA) : FE := fun s => match fa s with
  | some (.str a, s1) => match fr s1 with
    | some ([.lst ds], s2) => match txts ds with
      | some ys => if (ys.map (·.length)).sum + ys.length * a.length ≤ 16777216 then some (.str (Txt.join a ys), s2) else none
      | none => none
    | _ => none
  | _ => none
def rJoin (K : PySem.W.Frag) : V → List V → Hp → VK → Prop := fun x xs H Q => ∃ a p, ∃ ys : List Str, x = .str a ∧ xs = [.ref p] ∧ (SqL K H p (ys.map V.str) ∨ SqT K H p (ys.map V.str)) ∧
    (ys.map (·.length)).sum + ys.length * a.length ≤ 16777216 ∧ Q (.str (Txt.join a ys)) H
theorem se_join (ha : SE K ta fa) (hr : SA K tr fr) : SE K (tBM K "str" (rJoin K) ta tr) (fJoin fa fr) := by
  intro S H s σ Q r q
  unfold fJoin at q
  split at q
  · rename_i a s1 e
    refine ha.use r e fun v S1 H1 g1 d1 => ?_
    cases d1
    split at q
    · rename_i ds s2 e2
      refine ⟨rfl, hr.use g1.rep e2 fun vs S2 H2 g2 d2 => ?_⟩
      obtain ⟨w, rfl, h⟩ := da1 d2
      split at q
      · rename_i ys c
        by_cases c2 : (ys.map (·.length)).sum + ys.length * a.length ≤ 16777216
        · rw [if_pos c2] at q
          cases h with
          | lst hl da =>
            rw [txts_of da c] at hl
            exact ⟨a, _, ys, rfl, rfl, .inl (.inl (.inl (g2.rep.sub _ _ hl))), c2, q _ S2 H2 (g1.trans g2) (.str _)⟩
        · rw [if_neg c2] at q; exact q.elim
      · exact q.elim
    · exact q.elim
  · exact q.elim
theorem pd_join {o : Expr} {apos cpos : Pos} (ho : PD X o ta fa) (hr : PDa X (e :: es) tr fr) (hp : PE X (.Call (.Attribute o "join" apos) (e :: es) [] cpos) (tBM X.K "str" (rJoin X.K) ta tr)) : PD X (.Call (.Attribute o "join" apos) (e :: es) [] cpos) (tBM X.K "str" (rJoin X.K) ta tr) (fJoin fa fr) := ⟨hp, se_join ho.ok hr.ok⟩
/-- a module's constant int -/
theorem pd_globInt {x : Str} {pos : Pos} {i : Int} {t : Tok} (hg : Gl X x) (hm : X.mg x = some (.int i t)) (hdb : (x == ("__debug__" : Str)) = false := by decide) : PD X (.Name x pos) (tC (.int i)) (fC (.int i)) := ⟨pe_glob hg hm ⟨t, rfl⟩ hdb, se_c fun _ => .int i⟩
/-- truth of a list, a tuple -/
def fTru (f : FE) : FT := fun s => match f s with
  | some (.lst ds, s1) => some (!ds.isEmpty, s1)
  | some (.rl ds, s1) => some (!ds.isEmpty, s1)
  | some (.tup ds, s1) => some (!ds.isEmpty, s1)
  | some (.bl b, s1) => some (b, s1)
  | some (.int i, s1) => some (i != 0, s1)
  | some (.non, s1) => some (false, s1)
  | _ => none
theorem DtA.emp {S : Hp} {vs : List V} {ds : List D} (h : DtA K S vs ds) : vs.isEmpty = ds.isEmpty := by
  cases h <;> rfl
theorem st_tru (h : SE K ta fa) : ST K (fun σ H Q => ta σ H fun x H' => ∃ k, TruV K x H' k ∧ Q k H') (fTru fa) := by
  intro S H s σ Q r q
  unfold fTru at q
  split at q
  · rename_i ds s1 e
    refine h.use r e fun v S1 H1 g d => ?_
    cases d with
    | lst ha da => exact ⟨_, .inl ⟨_, .inl (.inl (g.rep.sub _ _ ha)), rfl⟩, by rw [da.emp]; exact q S1 H1 g⟩
  · rename_i ds s1 e
    refine h.use r e fun v S1 H1 g d => ?_
    cases d with
    | rl ha da => exact ⟨_, .inl ⟨_, g.rep.sub.seq ha, rfl⟩, by rw [da.emp]; exact q S1 H1 g⟩
  · rename_i ds s1 e
    refine h.use r e fun v S1 H1 g d => ?_
    cases d with
    | tup ha da => exact ⟨_, .inr (.inl ⟨_, same_t g.rep.sub ha, rfl⟩), by rw [da.emp]; exact q S1 H1 g⟩
  · rename_i b s1 e
    refine h.use r e fun v S1 H1 g d => ?_
    cases d
    exact ⟨_, rfl, q S1 H1 g⟩
  · rename_i i s1 e
    refine h.use r e fun v S1 H1 g d => ?_
    cases d
    exact ⟨_, rfl, q S1 H1 g⟩
  · rename_i s1 e
    refine h.use r e fun v S1 H1 g d => ?_
    cases d
    exact ⟨_, rfl, q S1 H1 g⟩
  · exact q.elim
theorem pdt_tru {a : Expr} (h : PD X a ta fa) (he : ∀ whole, isTrue a X.env whole = (do let v ← whole; standAt a.pos; holding [v] (truthy v)) := by intro _; rfl) : PDt X a (fun σ H Q => ta σ H fun x H' => ∃ k, TruV X.K x H' k ∧ Q k H') (fTru fa) := ⟨pt_truth h.pe he, st_tru h.ok⟩
/-- the call of a def(*xs) -/
theorem pe_callR {CX : CXT} {k : Nat} {f : Addr} {sp : Sp} {E : XK} {x : Str} {p pos : Pos} {t : TA} (F : FnR X.prog X.w X.K X.mg X.base CX k f sp) (hr : Room k X.A) (hk : PySem.W.keepIn X.K (.ref f) = true) (hg : Gl X x) (hm : X.mg x = some (.ref f)) (hx : Passes CX X E) (ha : PA X (e :: es) t) (hd : (x == ("__debug__" : Str)) = false := by decide)
    (he : starEach (e :: es) X.env = (false, eval e X.env) :: starEach es X.env := by rfl) (hpl : (backTo pos (starEach es X.env)).any (·.1) = false := by rfl) :
    PE X (.Call (.Name x p) (e :: es) [] pos) (fun σ H Q => t σ H fun vs H1 => sp vs H1 Q E) := by
  refine ⟨fun pins s σ H Q I h => ?_⟩
  refine wpAny_Call_Name_kw (ld_glob I hg hm ?_ hd)
  refine PySem.W.callWith_K (h₀ := X.base) I.ok.mod.kin hk (thn (ha.run pos pins s σ H _ I h) fun us s1 ⟨vs, H1, I1, r, q⟩ => ⟨I1.kIn, ?_⟩) he hpl
  exact wpAny_call (run_fnR F hr hx I1 r q)
theorem pd_callS {CX : CXT} {k : Nat} {f : Addr} {g : List Sl → Option (D × Sd)} {E : XK} {x : Str} {p pos : Pos} (F : FnR X.prog X.w X.K X.mg X.base CX k f (spStar (spF X.K 1 g))) (hr : Room k X.A) (hk : PySem.W.keepIn X.K (.ref f) = true) (hg : Gl X x) (hm : X.mg x = some (.ref f)) (hx : Passes CX X E) (ha : PDa X (e :: es) tr fr) (hd : (x == ("__debug__" : Str)) = false := by decide)
    (he : starEach (e :: es) X.env = (false, eval e X.env) :: starEach es X.env := by rfl) (hpl : (backTo pos (starEach es X.env)).any (·.1) = false := by rfl) :
    PD X (.Call (.Name x p) (e :: es) [] pos) (fun σ H Q => tr σ H fun vs H1 => spStar (spF X.K 1 g) vs H1 Q E) (fCallS g fr) := ⟨pe_callR F hr hk hg hm hx ha.pe hd he hpl, se_callS ha.ok⟩
end
section
variable {P : Program} {w : World} {K : PySem.W.Frag} {mg : Str → Option Value} {base : Heap}
theorem defS_ok {x qual : Str} {st : Stmt} {f : Addr} {fd : FuncData} {N : List Str} {pv : Str} {k : Nat} {fb : FS} (F : Fun K x qual st f fd) (Sc : FnScope N ([] ++ [pv]) (defScope st))
    (hbi : ∀ (kV doc pm : Value) (an : Option Addr) (cdv ct : Value) (us rest : List Value), us.length = ([] : List Str).length → bindArgs (PySem.W.fnOf x qual (defArgs st) (defBody st) (defScope st) .none kV doc pm an cdv ct) ⟨us ++ rest, []⟩ = (newTuple rest >>= fun t => pure (([] : List Str).zip us ++ [(pv, t)])))
    (hb : ∀ (cdv : Value) (A : Around) (outer : List Env) (s : Shared) (H : Hp) (E : XK), Room k (A.deeper (envOfC qual (defScope st) s.heap.objs.size f cdv)) →
      ∃ t, PDss (cxOf CX0 P w K mg base N qual (defScope st) f cdv A outer s H E).nox (defBody st) t fb) : FnR P w K mg base CX0 (k + 1) f (spStar (spF K 1 (defF 1 N.length fb))) := by
  obtain ⟨oc, od, kV, doc, pm, an, cdv, ct, osl, rfl, lk, hcd⟩ := F.ex
  refine StX.fn_star (ps := []) lk hcd Sc StX.cxUp_none (fun us rest h => hbi kV doc pm an cdv ct us rest h) fun A outer s H vs Q E hr h => ?_
  obtain ⟨t, ht⟩ := hb cdv A outer s H E hr
  exact ⟨t, ht.ps.nox, body_ok (by rw [h.1]) ht.ok h⟩
end
end DL
namespace DL
open PySem PySem.Spec PyProof.Rows L2

/-! ### one of several rules, by what the data are -/
def rOr (r1 r2 : R2) : R2 := fun x y H Q => r1 x y H Q ∨ r2 x y H Q
def gOr (g1 g2 : D → D → Option D) : D → D → Option D := fun a b => match g1 a b with
  | some z => some z
  | none => g2 a b
section
variable {X : Cx} {K : PySem.W.Frag}
theorem opOr {f : Value → Value → Sem Value} {r1 r2 : R2} (h1 : OpR X f r1) (h2 : OpR X f r2) : OpR X f (rOr r1 r2) := by
  intro pins s σ H x y v u Q I rx ry h
  rcases h with h | h
  · exact h1 pins s σ H x y v u Q I rx ry h
  · exact h2 pins s σ H x y v u Q I rx ry h
theorem osOr {r1 r2 : R2} {g1 g2 : D → D → Option D} (h1 : OpS K r1 g1) (h2 : OpS K r2 g2) : OpS K (rOr r1 r2) (gOr g1 g2) := by
  intro S H x y a b z Q sm dx dy e q
  unfold gOr at e
  cases e1 : g1 a b with
  | some z' =>
    rw [e1] at e
    cases e
    exact .inl (h1 S H x y a b z Q sm dx dy e1 q)
  | none =>
    rw [e1] at e
    exact .inr (h2 S H x y a b z Q sm dx dy e q)
theorem ixOr {r1 r2 : R2} (h1 : IxR X r1) (h2 : IxR X r2) : IxR X (rOr r1 r2) := by
  intro a b pins s σ H x y v u Q I rx ry h hs
  rcases h with h | h
  · exact h1 a b pins s σ H x y v u Q I rx ry h hs
  · exact h2 a b pins s σ H x y v u Q I rx ry h hs
/-- + -/
abbrev rAddA (K : PySem.W.Frag) : R2 := rOr (rI0 fun i j => .int (i + j)) (rOr rCat (rOr (rCatT K) fun x y H Q => ∃ i j, x = .str i ∧ y = .str j ∧ i.length + j.length ≤ sizeLine ∧ Q (.str (i ++ j)) H))
def gAdd : D → D → Option D := gOr gAddI (gOr gCat (gOr gCatT gAddS))
theorem op_addA : OpR X (binaryOp .Add) (rAddA X.K) := opOr op_add (opOr op_cat (opOr op_catT op_add_str))
theorem os_addA : OpS K (rAddA K) gAdd := osOr os_add (osOr os_cat (osOr os_catT os_addS))
/-- * -/
abbrev rMulA : R2 := rOr (rI CMul fun i j => .int (i * j)) rRep
def gMulA : D → D → Option D := gOr gMul gRep
theorem op_mulA : OpR X (binaryOp .Mult) rMulA := opOr op_mul op_rep
theorem os_mulA : OpS K rMulA gMulA := osOr os_mul os_rep
/-- // -/
abbrev rDivA : R2 := rOr (rI CDivN fun i j => .int (i.fdiv j)) (rI CDivW fun i j => .int (i / j))
def gDivA : D → D → Option D := gOr gDiv gDivW
theorem op_divA : OpR X (binaryOp .FloorDiv) rDivA := opOr op_fdivN op_fdivW
theorem os_divA : OpS K rDivA gDivA := osOr os_div os_divW
/-- <= -/
abbrev rLeA : R2 := rOr (rI0 fun i j => .bl (decide (i ≤ j))) fun x y H Q => ∃ i j, x = .str i ∧ y = .str j ∧ Q (.bl (!decide (j.cps.toList < i.cps.toList))) H
def gLeA : D → D → Option D := gOr gLe gLeS
theorem op_leA : OpR X (compareOp .LtE) rLeA := opOr op_le op_le_str
theorem os_leA : OpS K rLeA gLeA := osOr os_le os_leS
/-- x[i] -/
abbrev rIxA (K : PySem.W.Frag) : R2 := rOr (rIxT K) (rIxL K)
def gIx : D → D → Option D := gOr gIxT gIxL
theorem ix_A : IxR X (rIxA X.K) := ixOr ix_tup ix_list
theorem os_ixA : OpS K (rIxA K) gIx := osOr os_ixT os_ixL
/-- is, is not: bools -/
def gIsNotB : D → D → Option D
  | .bl a, .bl b => some (.bl (!decide (a = b)))
  | _, _ => none
theorem os_isNotB : OpS K (fun x y H Q => ∃ a b, x = .bl a ∧ y = .bl b ∧ Q (.bl (!decide (a = b))) H) gIsNotB := by
  intro S H x y a b z Q sm dx dy e q
  unfold gIsNotB at e
  split at e
  · cases dx
    cases dy
    cases e
    exact ⟨_, _, rfl, rfl, q _ S H (Al.refl sm) (.bl _)⟩
  · cases e
theorem us_neg : UnS K (rU fun i => .int (-i)) gNeg := by
  intro S H x a z Q sm dx e q
  unfold gNeg at e
  split at e
  · cases dx
    cases e
    exact ⟨_, rfl, q _ S H (Al.refl sm) (.int _)⟩
  · cases e
theorem pd_joinX {o e : Expr} {es : List Expr} {to : TE} {fo : FE} {tr : TA} {fr : FA} {apos cpos : Pos} (ho : PD X o to fo) (hr : PDa X (e :: es) tr fr)
    (hbase : attributeBase o "join" X.env (eval o X.env) = eval o X.env := by rfl)
    (hfew : ((backTo cpos (starEach (e :: es) X.env)).all (fun x => !x.1) && (backToKw cpos (keywordEach [] X.env)).all (fun x => x.1.isSome)
      && decide ((e :: es).length + ([] : List Keyword).length + (if ([] : List Keyword).isEmpty then 0 else 1) < 30)) = true := by rfl)
    (hline : (apos.endLine == cpos.line) = true := by rfl) (hs : starEach (e :: es) X.env = (false, eval e X.env) :: starEach es X.env := by rfl) (hplain : (backTo cpos (starEach es X.env)).any (·.1) = false := by rfl) :
    PD X (.Call (.Attribute o "join" apos) (e :: es) [] cpos) (tBM X.K "str" (rJoin X.K) to tr) (fJoin fo fr) := ⟨pe_bm PySem.F.plainAttrs_str PySem.F.slot_str_join PySem.F.type_str_join mt_join ho.pe hr.pe hbase hfew hline hs hplain, se_join ho.ok hr.ok⟩
/-- for x in a list or a tuple -/
def iOr (w1 w2 : TI) : TI := fun σ H R => w1 σ H R ∨ w2 σ H R
def fiA (f : FE) : FI := fun s => match f s with
  | some (.tup ds, s1) => some (ds, s1)
  | some (.lst ds, s1) => some (ds, s1)
  | some (.rl ds, s1) => some (ds, s1)
  | some (.str x, s1) => some (signs x, s1)
  | _ => none
theorem di_A {tg l : Expr} {te : TE} {fe : FE} (h : PD X l te fe) : PDi X tg l (iOr (iTup X.K te) (iOr (iList X.K te) (iStr te))) (fiA fe) := by
  refine ⟨⟨fun pins s σ H R I q => ?_⟩, fun S H s σ R r q => ?_⟩
  · rcases q with q | q | q
    · exact (pi_tup h.pe).run pins s σ H R I q
    · exact (pi_list h.pe).run pins s σ H R I q
    · exact (pi_str h.pe).run pins s σ H R I q
  · unfold fiA at q
    split at q
    · rename_i ds s1 e
      exact .inl (si_tup h.ok S H s σ R r (by unfold fiT; rw [e]; exact q))
    · rename_i ds s1 e
      exact .inr (.inl (si_list h.ok S H s σ R r (by unfold fiL; rw [e]; exact q)))
    · rename_i ds s1 e
      exact .inr (.inl (si_list h.ok S H s σ R r (by unfold fiL; rw [e]; exact q)))
    · rename_i ds s1 e
      exact .inr (.inr (si_str h.ok S H s σ R r (by unfold fiS; rw [e]; exact q)))
    · exact q.elim
/-- name = [..] on one line -/
theorem ds_setLc (i : Nat) {y : Str} {py : Pos} {elt tg iter : Expr} {ifs : List Expr} {scope : Scope} {own : List (Str × Nat)} {pos spos : Pos} {wi : TI} {g : TG} {tt : TT} {te : TE} {fi : FI} {fg : D → Sd → Option Sd} {ft : FT} {fe : FE} (hc : X.calm = true) (hN : X.N.Nodup) (hy : X.N[i]? = some y) (hyl : X.env.scope.names.lookup y = some .local)
    (hsw : swapsWith (.ListComp elt [⟨tg, iter, ifs, 0⟩] scope pos) (some (.Name y py)) spos.line X.env = pure true) (hi : PDi X tg iter wi fi) (ok : BlkOk X.N X.env.scope scope own) (hin : GIn g (own.map (·.2)))
    (hg : ∀ (s : Shared) (H : Hp) (C : Addr) (cl : List (Str × Addr)) (fp : List Addr), PDg (X.blk s H scope (compEnvC scope cl C X.env) fp) tg g fg) (ht : ∀ (s : Shared) (H : Hp) (C : Addr) (cl : List (Str × Addr)) (fp : List Addr), PDts (X.blk s H scope (compEnvC scope cl C X.env) fp) ifs tt ft)
    (he : ∀ (s : Shared) (H : Hp) (C : Addr) (cl : List (Str × Addr)) (fp : List Addr), PD (X.blk s H scope (compEnvC scope cl C X.env) fp) elt te fe) (s0 : Shared) (hs : ∀ x, foldedSetIterable iter X.env x = pure x := by intro _; rfl) :
    PDs X (.Assign [.Name y py] (.ListComp elt [⟨tg, iter, ifs, 0⟩] scope pos) spos) (tAsg (tLc wi g tt te (own.map (·.2))) (gName i)) (fAsg (fLc fi fg ft fe (own.map (·.2))) (fgN i)) :=
  ⟨ps_setLc hc hN hy hyl hsw hi.pi ok (fun s H C cl fp => (hg s H C cl fp).pg) (fun s H C cl fp => (ht s H C cl fp).pt) (fun s H C cl fp => (he s H C cl fp).pe) hs,
    ss_asg (se_lc hi.ok (hg s0 (fun _ => none) 0 [] []).ok hin (ht s0 (fun _ => none) 0 [] []).ok (he s0 (fun _ => none) 0 [] []).ok) sg_name⟩
end
end DL
namespace DL
open PySem PySem.Spec PyProof.Rows L2
/-! ### the rules with the written part named (a block's own stands for the def's) -/
section
variable {X : Cx} (K : PySem.W.Frag) (h : X.K = K)
include h
theorem op_addK : OpR X (binaryOp .Add) (rAddA K) := by subst h; exact op_addA
theorem ix_K : IxR X (rIxA K) := by subst h; exact ix_A
theorem op_eqK (hu : X.A.units + 64 < cLine) : OpR X (compareOp .Eq) (rEqD K) := by subst h; exact op_eqD hu
theorem op_neK (hu : X.A.units + 64 < cLine) : OpR X (compareOp .NotEq) (rNeD K) := by subst h; exact op_neD hu
theorem op_inK (hu : X.A.units + 65 < cLine) : OpR X (compareOp .In) (rInD K) := by subst h; exact op_inD hu
theorem op_notInK (hu : X.A.units + 65 < cLine) : OpR X (compareOp .NotIn) (rNotInD K) := by subst h; exact op_notInD hu
theorem call_lenK : CallR X (.builtin "len") (fun xs H Q => ∃ x n, xs = [x] ∧ LenV K x H n ∧ Q (.int n) H) := by subst h; exact call_len
theorem call_listK : CallR X (.type "list") (fun xs H Q => ∃ p ys, xs = [.ref p] ∧ (SqL K H p ys ∨ SqT K H p ys) ∧ ∀ l, H l = none → Q (.ref l) (upd H l (.lst ys))) := by subst h; exact call_list_of
theorem cr_allK (hc : X.calm = true) : CallR X (.builtin "all") (rAll K) := by subst h; exact cr_all hc
theorem cr_anyK (hc : X.calm = true) : CallR X (.builtin "any") (rAny K) := by subst h; exact cr_any hc
variable {e : Expr} {es : List Expr} {te ta tb : TE} {fe fa fb : FE} {tr : TA} {fr : FA}
theorem pd_isiK (T : String) {x : Str} {p p2 pos : Pos} {a : Expr} (hg : Gl X "isinstance") (hm : X.mg "isinstance" = none) (hgT : Gl X x) (hmT : X.mg x = none) (hvT : bootBuiltins x = some (.type T)) (k : PD X a ta fa)
    (hs : starEach [a, .Name x p2] X.env = (false, eval a X.env) :: starEach [.Name x p2] X.env := by rfl) (hs2 : starEach [.Name x p2] X.env = (false, eval (.Name x p2) X.env) :: starEach [] X.env := by rfl)
    (hpl : (backTo pos (starEach [.Name x p2] X.env)).any (·.1) = false := by rfl) (hn : x ≠ "__name__" := by decide) (hdb : (x == ("__debug__" : Str)) = false := by decide) :
    PD X (.Call (.Name "isinstance" p) [a, .Name x p2] [] pos) (tCB (rIsi K) (tCons ta (tCons (tC (.ty T)) tNil))) (fIsi T fa) := by subst h; exact pd_isi T hg hm hgT hmT hvT k hs hs2 hpl hn hdb
theorem pd_ixOK (i : Nat) {x : Str} {ek : Expr} {px pos : Pos} {tk : TE} {fk : FE} (ha : PE X (.Name x px) (tVar i)) (hk : PD X ek tk fk) (hp : PlainIx ek) : PD X (.Subscript (.Name x px) ek pos) (tOp (rIxL K) (tVar i) tk) (fIxO i fk) := by subst h; exact pd_ixO i ha hk hp
theorem pd_joinK {o e : Expr} {es : List Expr} {to : TE} {fo : FE} {tr : TA} {fr : FA} {apos cpos : Pos} (ho : PD X o to fo) (hr : PDa X (e :: es) tr fr)
    (hbase : attributeBase o "join" X.env (eval o X.env) = eval o X.env := by rfl)
    (hfew : ((backTo cpos (starEach (e :: es) X.env)).all (fun x => !x.1) && (backToKw cpos (keywordEach [] X.env)).all (fun x => x.1.isSome)
      && decide ((e :: es).length + ([] : List Keyword).length + (if ([] : List Keyword).isEmpty then 0 else 1) < 30)) = true := by rfl)
    (hline : (apos.endLine == cpos.line) = true := by rfl) (hs : starEach (e :: es) X.env = (false, eval e X.env) :: starEach es X.env := by rfl) (hplain : (backTo cpos (starEach es X.env)).any (·.1) = false := by rfl) :
    PD X (.Call (.Attribute o "join" apos) (e :: es) [] cpos) (tBM K "str" (rJoin K) to tr) (fJoin fo fr) := by subst h; exact pd_joinX ho hr hbase hfew hline hs hplain
theorem di_K {tg l : Expr} (k : PD X l te fe) : PDi X tg l (iOr (iTup K te) (iOr (iList K te) (iStr te))) (fiA fe) := by subst h; exact di_A k
theorem dg_tupK {es : List Expr} {k : Nat} {pos} {g : TGs} {f : List D → Sd → Option Sd} {n : Nat} (hc : X.calm = true) (k' : PDgs X es g f)
    (hn : (assignEach es X.env).length = n := by rfl) (hst : (assignEach es X.env).findIdx? (·.1) = none := by rfl) : PDg X (.Tuple es k pos) (gTup K n g) (fgT n f) := by subst h; exact dg_tup hc k' hn hst
theorem pdt_truK {a : Expr} (k : PD X a ta fa) (he : ∀ whole, isTrue a X.env whole = (do let v ← whole; standAt a.pos; holding [v] (truthy v)) := by intro _; rfl) : PDt X a (fun σ H Q => ta σ H fun x H' => ∃ k, TruV K x H' k ∧ Q k H') (fTru fa) := by subst h; exact pdt_tru k he
theorem pd_callK {CX : CXT} {k : Nat} {f : Addr} {fd : FuncData} {ps : List Str} {n : Nat} {g : List Sl → Option (D × Sd)} {E : XK} {x : Str} {p pos : Pos} {e : Expr} {es : List Expr} {tr : TA} {fr : FA} (F : FnOk X.prog X.w K X.mg X.base CX k f fd ps (spF K n g)) (hr : Room k X.A) (hg : Gl X x) (hm : X.mg x = some (.ref f)) (hk : PySem.W.keepIn K (.ref f) = true) (hb : Binds K fd ps []) (hx : Passes CX X E)
    (ha : PDa X (e :: es) tr fr) (hdb : (x == ("__debug__" : Str)) = false := by decide) (he : starEach (e :: es) X.env = (false, eval e X.env) :: starEach es X.env := by rfl) (hpl : (backTo pos (starEach es X.env)).any (·.1) = false := by rfl) :
    PD X (.Call (.Name x p) (e :: es) [] pos) (tCall (spF K n g) [] E tr) (fCall n g fr) := by subst h; exact pd_call F hr hg hm hk hb hx ha hdb he hpl
theorem pd_callOK (i : Nat) {CX : CXT} {k : Nat} {f : Addr} {fd : FuncData} {ps : List Str} {n : Nat} {g : List Sl → Option (D × Sd)} {E : XK} {x : Str} {p pos : Pos} {e : Expr} {es : List Expr} {tr : TA} {fr : FA} (F : FnOk X.prog X.w K X.mg X.base CX k f fd ps (spF K n g)) (hr : Room k X.A) (hg : Gl X x) (hm : X.mg x = some (.ref f)) (hk : PySem.W.keepIn K (.ref f) = true) (hb : Binds K fd ps []) (hx : Passes CX X E)
    (h1 : PE X e (tVar i)) (ha : PDa X es tr fr) (hs : starEach (e :: es) X.env = (false, eval e X.env) :: starEach es X.env := by rfl) (hdb : (x == ("__debug__" : Str)) = false := by decide) (hpl : (backTo pos (starEach es X.env)).any (·.1) = false := by rfl) :
    PD X (.Call (.Name x p) (e :: es) [] pos) (tCall (spF K n g) [] E (tCons (tVar i) tr)) (fCallO n g i fr) := by subst h; exact pd_callO i F hr hg hm hk hb hx h1 ha hs hdb hpl
theorem pd_callSK {CX : CXT} {k : Nat} {f : Addr} {g : List Sl → Option (D × Sd)} {E : XK} {x : Str} {p pos : Pos} (F : FnR X.prog X.w K X.mg X.base CX k f (spStar (spF K 1 g))) (hr : Room k X.A) (hk : PySem.W.keepIn K (.ref f) = true) (hg : Gl X x) (hm : X.mg x = some (.ref f)) (hx : Passes CX X E) (ha : PDa X (e :: es) tr fr) (hd : (x == ("__debug__" : Str)) = false := by decide)
    (he : starEach (e :: es) X.env = (false, eval e X.env) :: starEach es X.env := by rfl) (hpl : (backTo pos (starEach es X.env)).any (·.1) = false := by rfl) :
    PD X (.Call (.Name x p) (e :: es) [] pos) (fun σ H Q => tr σ H fun vs H1 => spStar (spF K 1 g) vs H1 Q E) (fCallS g fr) := by subst h; exact pd_callS F hr hk hg hm hx ha hd he hpl
end
theorem hu65 {A : Around} {k : Nat} (hr : Room k A) : A.units + 65 < cLine := by have := hr.un; omega
/-- the law's call -/
theorem law_sp {K : PySem.W.Frag} {m : List Sl → Option (D × Sd)} {a : Addr} {ns : List Int} {H : Hp} {Q : VK} {E : XK} (hm : ∃ as', m [.tr (.rl (ns.map D.int))] = some (.bl true, as')) (hS : SqL K H a (ns.map V.int)) (q : ∀ H', Q (.bl true) H') : spF K 1 m [.ref a] H Q E := by
  obtain ⟨as', e⟩ := hm
  have d : DtA K H (ns.map V.int) (ns.map D.int) := by
    induction ns with
    | nil => exact .nil
    | cons n r ih => exact .cons (.int n) (by
        clear e hS
        exact (show ∀ l : List Int, DtA K H (l.map V.int) (l.map D.int) from fun l => by
          induction l with
          | nil => exact .nil
          | cons n r ih => exact .cons (.int n) ih) r)
  refine ⟨rfl, H, [.tr (.rl (ns.map D.int))], rep_args (ds := [.rl (ns.map D.int)]) (Same.refl H) (.cons (.rl hS d) .nil), fun i es => no_ol (ds := [.rl (ns.map D.int)]) i es, ?_⟩
  rw [e]
  intro v S' H' g dv
  cases dv
  exact q H'
end DL
namespace K01
open PySem PySem.Spec PyProof.Rows L2 DL
/-! ### what the defs compute -/
def b_law_dice : FS :=
  (fSeq (fAsg (fOp gAdd (fOp gMulA (fC (.int 97)) (fV 1)) (fC (.int 53))) (fgN 2))
    (fSeq (fIfS (fB (fOp gLt (fV 1) (fCB gLen (fCons (fV 0) fNil)))) (fAsg (fOp gIx (fV 0) (fV 1)) (fgN 2)) fNx)
    (fSeq (fAsg (fOp gMod (fCB gInt (fCons (fCB gAbs (fCons (fV 2) fNil)) fNil)) (fOp gPow (fOp gPow (fC (.int 10)) (fC (.int 60))) (fC (.int 10)))) (fgN 3))
    (fSeq (fAsg (fOp gDivA (fV 3) (fOp gPow (fC (.int 10)) (fC (.int 18)))) (fgN 4))
    (fSeq (fAsg (fOp gAdd (fOp gAdd (fOp gAdd (fOp gMulA (fOp gMod (fV 3) (fC (.int 2147482951))) (fC (.int 61291))) (fOp gMulA (fC (.int 3517)) (fV 1))) (fOp gMulA (fC (.int 71)) (fCB gInt (fCons (fOp gLt (fV 2) (fC (.int 0))) fNil)))) (fC (.int 83))) (fgN 5))
    (fRetN (fCons (fV 4) (fCons (fOp gMod (fV 5) (fC (.int 2147482949))) (fCons (fC (.int 0)) fNil)))))))))
def m_law_dice : List Sl → Option (List D × Sd) := defN 2 6 b_law_dice
def b_law_roll : FS :=
  (fSeq (fAsg (fCB gInt (fCons (fV 1) fNil)) (fgN 2))
    (fSeq (fIfS (fB (fOp gGt (fIxO 0 (fC (.int 0))) (fC (.int 0)))) (fSeq (fAsg (fOp gMod (fIxO 0 (fC (.int 0))) (fV 2)) (fgN 3))
    (fSeq (fSetO 0 (fC (.int 0)) (fOp gDivA (fIxO 0 (fC (.int 0))) (fV 2)))
    (fRet (fCB gInt (fCons (fV 3) fNil))))) fNx)
    (fSeq (fSetO 0 (fC (.int 2)) (fOp gAdd (fIxO 0 (fC (.int 2))) (fC (.int 1))))
    (fSeq (fAsg (fOp gMod (fOp gAdd (fIxO 0 (fC (.int 1))) (fOp gMulA (fC (.int 1000249)) (fIxO 0 (fC (.int 2))))) (fC (.int 2305843009213693951))) (fgN 4))
    (fSeq (fAsg (fOp gAdd (fOp gMulA (fOp gMod (fOp gMulA (fV 4) (fV 4)) (fC (.int 2305843009213693921))) (fV 4)) (fOp gMulA (fC (.int 9437)) (fIxO 0 (fC (.int 2))))) (fgN 5))
    (fSeq (fAsg (fOp gMod (fV 5) (fC (.int 2305843009213693907))) (fgN 5))
    (fRet (fCB gInt (fCons (fOp gMod (fOp gDivA (fV 5) (fC (.int 4096))) (fV 2)) fNil)))))))))
def m_law_roll : List Sl → Option (D × Sd) := defF 2 6 b_law_roll
def b_law_one_of : FS :=
  (fRet (fOp gIx (fV 1) (fCallO 2 m_law_roll 0 (fCons (fCB gLen (fCons (fV 1) fNil)) fNil))))
def m_law_one_of : List Sl → Option (D × Sd) := defF 2 2 b_law_one_of
def b_is_place : FS :=
  (fSeq (fIfS (fOr (fNot (fTru (fIsi "str" (fV 0)))) (fNot (fB (fChain gLeA gLeA (fC (.int 1)) (fCB gLen (fCons (fV 0) fNil)) (fC (.int 8)))))) (fRet (fC (.bl false))) fNx)
    (fRet (fCB gAll (fCons (fLc (fiA (fV 0)) (fgN 1) (fYes) (fChain gLeA gLeA (fC (.str ("a" : Str))) (fV 1) (fC (.str ("z" : Str)))) [1]) fNil))))
def m_is_place : List Sl → Option (D × Sd) := defF 1 2 b_is_place
def b_law_places_right : FS :=
  (fSeq (fAsg (fJoin (fC (.str ("" : Str))) (fCons (fLc (fiR1 (fCons (fOp gAdd (fC (.int 1)) (fCallO 2 m_law_roll 0 (fCons (fC (.int 8)) fNil))) fNil)) (fgN 3) (fYes) (fCallO 2 m_law_one_of 0 (fCons (fLst (fCons (fC (.str ("a" : Str))) (fCons (fC (.str ("b" : Str))) (fCons (fC (.str ("z" : Str))) fNil)))) fNil)) [3]) fNil)) (fgN 1))
    (fSeq (fAsg (fLst (fCons (fV 1) (fCons (fOp gAdd (fV 1) (fC (.str ("qqqqqqqq" : Str)))) (fCons (fOp gAdd (fV 1) (fC (.str ("A" : Str)))) (fCons (fC (.str ("" : Str))) (fCons (fOp gAdd (fV 1) (fC (.str (" " : Str)))) (fCons (fTup (fCons (fV 1) fNil)) (fCons (fC .non) (fCons (fC (.int 0)) (fCons (fC (.bl true)) (fCons (fLst (fCons (fV 1) fNil)) (fCons (fun s => some (.dK [], s)) (fCons (fOp gAdd (fV 1) (fC (.str ("1" : Str)))) fNil))))))))))))) (fgN 2))
    (fRet (fOp gEqD (fLc (fiA (fV 2)) (fgN 4) (fYes) (fCall 1 m_is_place (fCons (fV 4) fNil)) [4]) (fOp gAdd (fLst (fCons (fC (.bl true)) fNil)) (fOp gMulA (fLst (fCons (fC (.bl false)) fNil)) (fC (.int 11))))))))
def m_law_places_right : List Sl → Option (D × Sd) := defF 1 5 b_law_places_right
def b_law_drawn : FS :=
  (fSeq (fAsg (fCallO 2 m_law_one_of 0 (fCons (fLst (fCons (fC (.int 5)) (fCons (fC (.int 13)) (fCons (fC (.int 40)) fNil)))) fNil)) (fgN 1))
    (fRet (fTup (fCons (fOp gSubI (fCallO 2 m_law_roll 0 (fCons (fOp gMulA (fC (.int 2)) (fV 1)) fNil)) (fV 1)) (fCons (fOp gAdd (fC (.int 1)) (fCallO 2 m_law_roll 0 (fCons (fV 1) fNil))) fNil)))))
def m_law_drawn : List Sl → Option (D × Sd) := defF 1 2 b_law_drawn
def b_law_is_lowest : FS :=
  (fSeq (fAsg (fTup (fCons (fCB gInt (fCons (fOp gIx (fV 0) (fC (.int 0))) fNil)) (fCons (fCB gInt (fCons (fOp gIx (fV 0) (fC (.int 1))) fNil)) fNil))) (fgT 2 (fgsC (fgN 1) (fgsC (fgN 2) fgs0))))
    (fSeq (fAsg (fLstRg (fC (.int 2)) (fOp gAdd (fOp gAdd (fCB gAbs (fCons (fV 1) fNil)) (fV 2)) (fC (.int 1)))) (fgN 3))
    (fRet (fAndV (fOp gGt (fV 2) (fC (.int 0))) (fOp gEqD (fLc (fiA (fV 3)) (fgN 4) (fAnd (fB (fOp gEqD (fOp gMod (fV 1) (fV 4)) (fC (.int 0)))) (fB (fOp gEqD (fOp gMod (fV 2) (fV 4)) (fC (.int 0))))) (fV 4) [4]) (fLst fNil))))))
def m_law_is_lowest : List Sl → Option (D × Sd) := defF 1 5 b_law_is_lowest
def b_law_less : FS :=
  (fRet (fOp gLt (fOp gMulA (fOp gIx (fV 0) (fC (.int 0))) (fOp gIx (fV 1) (fC (.int 1)))) (fOp gMulA (fOp gIx (fV 1) (fC (.int 0))) (fOp gIx (fV 0) (fC (.int 1))))))
def m_law_less : List Sl → Option (D × Sd) := defF 2 2 b_law_less
def b_law_lowest : FS :=
  (fSeq (fPar 2 3 (fCons (fCB gAbs (fCons (fV 0) fNil)) (fCons (fV 1) fNil)))
    (fSeq (whileF (fB (fOp gGt (fV 3) (fC (.int 0)))) (fPar 2 3 (fCons (fV 3) (fCons (fOp gMod (fCB gInt (fCons (fV 2) fNil)) (fV 3)) fNil))) 60)
    (fRet (fTup (fCons (fOp gDivA (fV 0) (fV 2)) (fCons (fOp gDivA (fV 1) (fV 2)) fNil))))))
def m_law_lowest : List Sl → Option (D × Sd) := defF 2 4 b_law_lowest
def b_is_integer : FS :=
  (fRet (fAndV (fIsi "int" (fV 0)) (fNotV (fIsi "bool" (fV 0)))))
def m_is_integer : List Sl → Option (D × Sd) := defF 1 1 b_is_integer
def b_fraction : FS :=
  (fSeq (fFor (fiA (fTup (fCons (fV 0) (fCons (fV 1) fNil)))) (fgN 2) (fIfS (fNot (fTru (fCall 1 m_is_integer (fCons (fV 2) fNil)))) ((fun _ => none)) fNx))
    (fSeq (fIfS (fB (fOp gLt (fV 1) (fC (.int 1)))) ((fun _ => none)) fNx)
    (fSeq (fAsg (fCB gGcd (fCons (fV 0) (fCons (fV 1) fNil))) (fgN 3))
    (fRet (fTup (fCons (fOp gDivA (fV 0) (fV 3)) (fCons (fOp gDivA (fV 1) (fV 3)) fNil)))))))
def m_fraction : List Sl → Option (D × Sd) := defF 2 4 b_fraction
def b_is_fraction : FS :=
  (fSeq (fIfS (fOr (fNot (fTru (fIsi "tuple" (fV 0)))) (fB (fOp gNeD (fCB gLen (fCons (fV 0) fNil)) (fC (.int 2))))) (fRet (fC (.bl false))) fNx)
    (fSeq (fIfS (fOr (fNot (fTru (fCall 1 m_is_integer (fCons (fOp gIx (fV 0) (fC (.int 0))) fNil)))) (fNot (fTru (fCall 1 m_is_integer (fCons (fOp gIx (fV 0) (fC (.int 1))) fNil))))) (fRet (fC (.bl false))) fNx)
    (fRet (fAndV (fOp gGe (fOp gIx (fV 0) (fC (.int 1))) (fC (.int 1))) (fOp gEqD (fCB gGcd (fCons (fOp gIx (fV 0) (fC (.int 0))) (fCons (fOp gIx (fV 0) (fC (.int 1))) fNil))) (fC (.int 1)))))))
def m_is_fraction : List Sl → Option (D × Sd) := defF 1 1 b_is_fraction
def b_check_fraction : FS :=
  (fIfS (fNot (fTru (fCall 1 m_is_fraction (fCons (fV 0) fNil)))) ((fun _ => none)) fNx)
def m_check_fraction : List Sl → Option (D × Sd) := defF 1 1 b_check_fraction
def b_is_lower : FS :=
  (fSeq (fDrop (fCall 1 m_check_fraction (fCons (fV 0) fNil)))
    (fSeq (fDrop (fCall 1 m_check_fraction (fCons (fV 1) fNil)))
    (fRet (fOp gLt (fOp gMulA (fOp gIx (fV 0) (fC (.int 0))) (fOp gIx (fV 1) (fC (.int 1)))) (fOp gMulA (fOp gIx (fV 1) (fC (.int 0))) (fOp gIx (fV 0) (fC (.int 1))))))))
def m_is_lower : List Sl → Option (D × Sd) := defF 2 2 b_is_lower
def b_greatest : FS :=
  (fSeq (fIfS (fNot (fTru (fV 0))) ((fun _ => none)) fNx)
    (fSeq (fAsg (fOp gIx (fV 0) (fC (.int 0))) (fgN 1))
    (fSeq (fFor (fiA (fV 0)) (fgN 2) (fIfS (fTru (fCall 2 m_is_lower (fCons (fV 1) (fCons (fV 2) fNil)))) (fAsg (fV 2) (fgN 1)) fNx))
    (fRet (fV 1)))))
def m_greatest : List Sl → Option (D × Sd) := defF 1 3 b_greatest
def b_law_right : FS :=
  (fSeq (fAsg (fLc (fiR1 (fCons (fC (.int 3)) fNil)) (fgN 10) (fYes) (fCallO 1 m_law_drawn 0 fNil) [10]) (fgN 1))
    (fSeq (fAsg (fLc (fiA (fV 1)) (fgT 2 (fgsC (fgN 3) (fgsC (fgN 4) fgs0))) (fYes) (fCall 2 m_fraction (fCons (fV 3) (fCons (fV 4) fNil))) [3, 4]) (fgN 2))
    (fSeq (fIfS (fB (fOp gNeD (fV 2) (fLc (fiA (fV 1)) (fgT 2 (fgsC (fgN 3) (fgsC (fgN 4) fgs0))) (fYes) (fCall 2 m_law_lowest (fCons (fV 3) (fCons (fV 4) fNil))) [3, 4]))) (fRet (fC (.bl false))) fNx)
    (fSeq (fIfS (fB (fOp gNeD (fLc (fiA (fV 2)) (fgN 3) (fNot (fTru (fCall 1 m_law_is_lowest (fCons (fV 3) fNil)))) (fV 3) [3]) (fLst fNil))) (fRet (fC (.bl false))) fNx)
    (fSeq (fFor (fiA (fLst (fCons (fTup (fCons (fOp gIx (fV 2) (fC (.int 0))) (fCons (fOp gIx (fV 2) (fC (.int 1))) fNil))) (fCons (fTup (fCons (fOp gIx (fV 2) (fC (.int 1))) (fCons (fOp gIx (fV 2) (fC (.int 2))) fNil))) (fCons (fTup (fCons (fOp gIx (fV 2) (fC (.int 2))) (fCons (fOp gIx (fV 2) (fC (.int 2))) fNil))) fNil))))) (fgT 2 (fgsC (fgN 3) (fgsC (fgN 4) fgs0))) (fIfS (fOr (fB (fOp gNeD (fCall 2 m_is_lower (fCons (fV 3) (fCons (fV 4) fNil))) (fCall 2 m_law_less (fCons (fV 3) (fCons (fV 4) fNil))))) (fAnd (fTru (fCall 2 m_is_lower (fCons (fV 3) (fCons (fV 4) fNil)))) (fTru (fCall 2 m_is_lower (fCons (fV 4) (fCons (fV 3) fNil)))))) (fRet (fC (.bl false))) fNx))
    (fSeq (fAsg (fCallS m_greatest (fCons (fOp gIx (fV 2) (fC (.int 0))) (fCons (fOp gIx (fV 2) (fC (.int 1))) (fCons (fOp gIx (fV 2) (fC (.int 2))) fNil)))) (fgN 5))
    (fSeq (fIfS (fOr (fB (fOp gNotInD (fV 5) (fV 2))) (fOr (fB (fOp gNeD (fLc (fiA (fV 2)) (fgN 3) (fTru (fCall 2 m_law_less (fCons (fV 5) (fCons (fV 3) fNil)))) (fV 3) [3]) (fLst fNil))) (fB (fOp gNeD (fCallS m_greatest (fCons (fOp gIx (fV 2) (fC (.int 1))) fNil)) (fOp gIx (fV 2) (fC (.int 1))))))) (fRet (fC (.bl false))) fNx)
    (fSeq (fPar 6 7 (fCons (fOp gAdd (fC (.int 2)) (fCallO 2 m_law_roll 0 (fCons (fC (.int 5)) fNil))) (fCons (fOp gAdd (fOp gPow (fC (.int 10)) (fC (.int 11))) (fCallO 2 m_law_roll 0 (fCons (fC (.int 1000)) fNil))) fNil)))
    (fSeq (fIfS (fOr (fB (fOp gNeD (fCall 2 m_fraction (fCons (fOp gMulA (fOp gIx (fOp gIx (fV 1) (fC (.int 0))) (fC (.int 0))) (fV 6)) (fCons (fOp gMulA (fOp gIx (fOp gIx (fV 1) (fC (.int 0))) (fC (.int 1))) (fV 6)) fNil))) (fOp gIx (fV 2) (fC (.int 0))))) (fB (fOp gNeD (fCall 2 m_fraction (fCons (fV 7) (fCons (fV 7) fNil))) (fTup (fCons (fC (.int 1)) (fCons (fC (.int 1)) fNil)))))) (fRet (fC (.bl false))) fNx)
    (fSeq (fAsg (fLst (fCons (fOp gIx (fV 2) (fC (.int 0))) (fCons (fOp gIx (fV 1) (fC (.int 0))) (fCons (fTup (fCons (fOp gIx (fOp gIx (fV 2) (fC (.int 0))) (fC (.int 0))) (fCons (fC (.int 0)) fNil))) (fCons (fTup (fCons (fOp gIx (fOp gIx (fV 2) (fC (.int 0))) (fC (.int 0))) (fCons (fUn gNeg (fC (.int 1))) fNil))) (fCons (fOp gAdd (fOp gIx (fV 2) (fC (.int 0))) (fTup (fCons (fC (.int 1)) fNil))) (fCons (fCB gList (fCons (fOp gIx (fV 2) (fC (.int 0))) fNil)) (fCons (fTup (fCons (fC (.bl true)) (fCons (fC (.int 2)) fNil))) fNil)))))))) (fgN 8))
    (fSeq (fAsg (fOp gAdd (fV 8) (fLst (fCons (fTup (fCons (fC (.int 1)) (fCons (fC (.bl true)) fNil))) (fCons (fC .non) (fCons (fC (.int 3)) fNil))))) (fgN 8))
    (fSeq (fAsg (fOp gAdd (fLst (fCons (fC (.bl true)) (fCons (fCall 1 m_law_is_lowest (fCons (fOp gIx (fV 1) (fC (.int 0))) fNil)) fNil))) (fOp gMulA (fLst (fCons (fC (.bl false)) fNil)) (fC (.int 8)))) (fgN 9))
    (fRet (fAndV (fOp gEqD (fLc (fiA (fV 8)) (fgN 3) (fYes) (fCall 1 m_is_fraction (fCons (fV 3) fNil)) [3]) (fV 9)) (fOp gIsB (fCall 1 m_is_fraction (fCons (fTup (fCons (fC (.int 0)) (fCons (fC (.int 2)) fNil))) fNil)) (fC (.bl false)))))))))))))))))
def m_law_right : List Sl → Option (D × Sd) := defF 1 11 b_law_right
def b_law : FS :=
  (fSeq (fFor (fiR1 (fCons (fCB gMax2 (fCons (fC (.int 1)) (fCons (fCB gMin2 (fCons (fC (.int 8)) (fCons (fCB gLen (fCons (fV 0) fNil)) fNil))) fNil))) fNil)) (fgN 1) (fSeq (fSetN 2 m_law_dice (fCons (fV 0) (fCons (fV 1) fNil)) 2)
    (fIfS (fOr (fNot (fTru (fCallO 1 m_law_right 2 fNil))) (fNot (fTru (fCallO 1 m_law_places_right 2 fNil)))) (fRet (fC (.bl false))) fNx)))
    (fSeq (fAsg (fLst (fCons (fCall 2 m_fraction (fCons (fC (.int 6)) (fCons (fC (.int 4)) fNil))) (fCons (fCall 2 m_fraction (fCons (fUn gNeg (fC (.int 2))) (fCons (fC (.int 6)) fNil))) (fCons (fCall 2 m_fraction (fCons (fC (.int 0)) (fCons (fC (.int 7)) fNil))) (fCons (fCallS m_greatest (fCons (fTup (fCons (fC (.int 1)) (fCons (fC (.int 2)) fNil))) (fCons (fTup (fCons (fC (.int 2)) (fCons (fC (.int 3)) fNil))) (fCons (fTup (fCons (fC (.int 3)) (fCons (fC (.int 5)) fNil))) fNil)))) (fCons (fC (.int 8)) fNil)))))) (fgN 3))
    (fRet (fOp gEqD (fV 3) (fLst (fCons (fTup (fCons (fC (.int 3)) (fCons (fC (.int 2)) fNil))) (fCons (fTup (fCons (fUn gNeg (fC (.int 1))) (fCons (fC (.int 3)) fNil))) (fCons (fTup (fCons (fC (.int 0)) (fCons (fC (.int 1)) fNil))) (fCons (fTup (fCons (fC (.int 2)) (fCons (fC (.int 3)) fNil))) (fCons (fC (.int 8)) fNil))))))))))
def m_law : List Sl → Option (D × Sd) := defF 1 4 b_law
/-! ### the text -/
def topS (i : Nat) : Stmt := PySem.Challenge.pw_holdsfast_k01_whole_fractions_in_lowest.main.body.getD i (.Pass ⟨0, 0, 0, 0⟩)
abbrev s_law_dice : Stmt := topS 15
abbrev s_law_roll : Stmt := topS 16
abbrev s_law_one_of : Stmt := topS 17
abbrev s_is_place : Stmt := topS 8
abbrev s_law_places_right : Stmt := topS 23
abbrev s_law_drawn : Stmt := topS 21
abbrev s_law_is_lowest : Stmt := topS 20
abbrev s_law_less : Stmt := topS 19
abbrev s_law_lowest : Stmt := topS 18
abbrev s_is_integer : Stmt := topS 7
abbrev s_fraction : Stmt := topS 10
abbrev s_is_fraction : Stmt := topS 9
abbrev s_check_fraction : Stmt := topS 13
abbrev s_is_lower : Stmt := topS 11
abbrev s_greatest : Stmt := topS 12
abbrev s_law_right : Stmt := topS 22
abbrev s_law : Stmt := topS 24
theorem sc_law_dice : FnScope ["_law_script", "_law_at", "_law_cell", "_law_great", "_law_left", "_law_mixed"] ["_law_script", "_law_at"] (defScope s_law_dice) := ⟨rfl, rfl, rfl, by decide +kernel, rfl, by decide +kernel, by decide +kernel⟩
theorem sc_law_roll : FnScope ["_law_dice_here", "_law_total", "_law_size", "_law_drawn_here", "_law_one", "_law_two"] ["_law_dice_here", "_law_total"] (defScope s_law_roll) := ⟨rfl, rfl, rfl, by decide +kernel, rfl, by decide +kernel, by decide +kernel⟩
theorem sc_law_one_of : FnScope ["_law_dice_here", "_law_items"] ["_law_dice_here", "_law_items"] (defScope s_law_one_of) := ⟨rfl, rfl, rfl, by decide +kernel, rfl, by decide +kernel, by decide +kernel⟩
theorem sc_is_place : FnScope ["value", "letter"] ["value"] (defScope s_is_place) := ⟨rfl, rfl, rfl, by decide +kernel, rfl, by decide +kernel, by decide +kernel⟩
theorem sc_law_places_right : FnScope ["_law_dice_here", "_law_word", "_law_near", "_law_turn", "_law_one"] ["_law_dice_here"] (defScope s_law_places_right) := ⟨rfl, rfl, rfl, by decide +kernel, rfl, by decide +kernel, by decide +kernel⟩
theorem sc_law_drawn : FnScope ["_law_dice_here", "_law_great"] ["_law_dice_here"] (defScope s_law_drawn) := ⟨rfl, rfl, rfl, by decide +kernel, rfl, by decide +kernel, by decide +kernel⟩
theorem sc_law_is_lowest : FnScope ["_law_one", "_law_top", "_law_low", "_law_some", "_law_by"] ["_law_one"] (defScope s_law_is_lowest) := ⟨rfl, rfl, rfl, by decide +kernel, rfl, by decide +kernel, by decide +kernel⟩
theorem sc_law_less : FnScope ["_law_one", "_law_other"] ["_law_one", "_law_other"] (defScope s_law_less) := ⟨rfl, rfl, rfl, by decide +kernel, rfl, by decide +kernel, by decide +kernel⟩
theorem sc_law_lowest : FnScope ["_law_numerator", "_law_denominator", "_law_one", "_law_other"] ["_law_numerator", "_law_denominator"] (defScope s_law_lowest) := ⟨rfl, rfl, rfl, by decide +kernel, rfl, by decide +kernel, by decide +kernel⟩
theorem sc_is_integer : FnScope ["value"] ["value"] (defScope s_is_integer) := ⟨rfl, rfl, rfl, by decide +kernel, rfl, by decide +kernel, by decide +kernel⟩
theorem sc_fraction : FnScope ["numerator", "denominator", "value", "shared"] ["numerator", "denominator"] (defScope s_fraction) := ⟨rfl, rfl, rfl, by decide +kernel, rfl, by decide +kernel, by decide +kernel⟩
theorem sc_is_fraction : FnScope ["value"] ["value"] (defScope s_is_fraction) := ⟨rfl, rfl, rfl, by decide +kernel, rfl, by decide +kernel, by decide +kernel⟩
theorem sc_check_fraction : FnScope ["value"] ["value"] (defScope s_check_fraction) := ⟨rfl, rfl, rfl, by decide +kernel, rfl, by decide +kernel, by decide +kernel⟩
theorem sc_is_lower : FnScope ["one", "other"] ["one", "other"] (defScope s_is_lower) := ⟨rfl, rfl, rfl, by decide +kernel, rfl, by decide +kernel, by decide +kernel⟩
theorem sc_greatest : FnScope ["fractions", "best", "value"] (([] : List Str) ++ (["fractions"] : List Str)) (defScope s_greatest) := ⟨rfl, rfl, rfl, by decide +kernel, rfl, by decide +kernel, by decide +kernel⟩
theorem sc_law_right : FnScope ["_law_dice_here", "_law_pairs", "_law_rows", "_law_one", "_law_other", "_law_most", "_law_by", "_law_far", "_law_near", "_law_due", "_law_turn"] ["_law_dice_here"] (defScope s_law_right) := ⟨rfl, rfl, rfl, by decide +kernel, rfl, by decide +kernel, by decide +kernel⟩
theorem sc_law : FnScope ["_law_script", "_law_spot", "_law_dice_here", "_law_told"] ["_law_script"] (defScope s_law) := ⟨rfl, rfl, rfl, by decide +kernel, rfl, by decide +kernel, by decide +kernel⟩
/-! ### what the top has left -/
structure Tx (K : PySem.W.Frag) (mg : Str → Option Value) (ad : Nat → Addr) (fds : Nat → FuncData) (tk : Nat → Tok) : Prop where
  F_law_dice : Fun K "_law_dice" "_law_dice" s_law_dice (ad 0) (fds 0)
  B_law_dice : Binds K (fds 0) ["_law_script", "_law_at"] []
  G_law_dice : mg "_law_dice" = some (.ref (ad 0))
  F_law_roll : Fun K "_law_roll" "_law_roll" s_law_roll (ad 1) (fds 1)
  B_law_roll : Binds K (fds 1) ["_law_dice_here", "_law_total"] []
  G_law_roll : mg "_law_roll" = some (.ref (ad 1))
  F_law_one_of : Fun K "_law_one_of" "_law_one_of" s_law_one_of (ad 2) (fds 2)
  B_law_one_of : Binds K (fds 2) ["_law_dice_here", "_law_items"] []
  G_law_one_of : mg "_law_one_of" = some (.ref (ad 2))
  F_is_place : Fun K "is_place" "is_place" s_is_place (ad 3) (fds 3)
  B_is_place : Binds K (fds 3) ["value"] []
  G_is_place : mg "is_place" = some (.ref (ad 3))
  F_law_places_right : Fun K "_law_places_right" "_law_places_right" s_law_places_right (ad 4) (fds 4)
  B_law_places_right : Binds K (fds 4) ["_law_dice_here"] []
  G_law_places_right : mg "_law_places_right" = some (.ref (ad 4))
  F_law_drawn : Fun K "_law_drawn" "_law_drawn" s_law_drawn (ad 5) (fds 5)
  B_law_drawn : Binds K (fds 5) ["_law_dice_here"] []
  G_law_drawn : mg "_law_drawn" = some (.ref (ad 5))
  F_law_is_lowest : Fun K "_law_is_lowest" "_law_is_lowest" s_law_is_lowest (ad 6) (fds 6)
  B_law_is_lowest : Binds K (fds 6) ["_law_one"] []
  G_law_is_lowest : mg "_law_is_lowest" = some (.ref (ad 6))
  F_law_less : Fun K "_law_less" "_law_less" s_law_less (ad 7) (fds 7)
  B_law_less : Binds K (fds 7) ["_law_one", "_law_other"] []
  G_law_less : mg "_law_less" = some (.ref (ad 7))
  F_law_lowest : Fun K "_law_lowest" "_law_lowest" s_law_lowest (ad 8) (fds 8)
  B_law_lowest : Binds K (fds 8) ["_law_numerator", "_law_denominator"] []
  G_law_lowest : mg "_law_lowest" = some (.ref (ad 8))
  F_is_integer : Fun K "is_integer" "is_integer" s_is_integer (ad 9) (fds 9)
  B_is_integer : Binds K (fds 9) ["value"] []
  G_is_integer : mg "is_integer" = some (.ref (ad 9))
  F_fraction : Fun K "fraction" "fraction" s_fraction (ad 10) (fds 10)
  B_fraction : Binds K (fds 10) ["numerator", "denominator"] []
  G_fraction : mg "fraction" = some (.ref (ad 10))
  F_is_fraction : Fun K "is_fraction" "is_fraction" s_is_fraction (ad 11) (fds 11)
  B_is_fraction : Binds K (fds 11) ["value"] []
  G_is_fraction : mg "is_fraction" = some (.ref (ad 11))
  F_check_fraction : Fun K "_check_fraction" "_check_fraction" s_check_fraction (ad 12) (fds 12)
  B_check_fraction : Binds K (fds 12) ["value"] []
  G_check_fraction : mg "_check_fraction" = some (.ref (ad 12))
  F_is_lower : Fun K "is_lower" "is_lower" s_is_lower (ad 13) (fds 13)
  B_is_lower : Binds K (fds 13) ["one", "other"] []
  G_is_lower : mg "is_lower" = some (.ref (ad 13))
  F_greatest : Fun K "greatest" "greatest" s_greatest (ad 14) (fds 14)
  G_greatest : mg "greatest" = some (.ref (ad 14))
  F_law_right : Fun K "_law_right" "_law_right" s_law_right (ad 15) (fds 15)
  B_law_right : Binds K (fds 15) ["_law_dice_here"] []
  G_law_right : mg "_law_right" = some (.ref (ad 15))
  F_law : Fun K "law" "law" s_law (ad 16) (fds 16)
  B_law : Binds K (fds 16) ["_law_script"] []
  G_law : mg "law" = some (.ref (ad 16))
  n_range : mg "range" = none
  n_max : mg "max" = none
  n_min : mg "min" = none
  n_len : mg "len" = none
  n_int : mg "int" = none
  n_abs : mg "abs" = none
  n_all : mg "all" = none
  n_isinstance : mg "isinstance" = none
  n_str : mg "str" = none
  n_list : mg "list" = none
  n_bool : mg "bool" = none
  n_tuple : mg "tuple" = none
  b_gcd : mg "gcd" = some (.builtin "math.gcd")
  c_MAX_LETTERS : mg "MAX_LETTERS" = some (.int 8 (tk 0))
section
variable {P : Program} {w : World} {K : PySem.W.Frag} {mg : Str → Option Value} {base : Heap} {ad : Nat → Addr} {fds : Nat → FuncData} {tk : Nat → Tok}
theorem ok_law_dice (T : Tx K mg ad fds tk) : FnOk P w K mg base CX0 1 (ad 0) (fds 0) ["_law_script", "_law_at"] (spN K 2 m_law_dice) := defN_ok T.F_law_dice sc_law_dice fun cdv A outer s H E hr => ⟨_, by exact (dss_cons (ds_set 2 sc_law_dice.nd rfl (.inl rfl) (pd_op (op_addK K rfl) os_addA (pd_op op_mulA os_mulA (pd_int) (pd_v 1)) (pd_int)))
    (dss_cons (ds_if (pdt_cmp op_lt os_lt (pd_v 1) (pd_callB (call_lenK K rfl) cs_len (by rfl) T.n_len (by decide +kernel) (pda_cons (pd_v 0) pda_nil)) (nomark _)) (dss_one (ds_set 2 sc_law_dice.nd rfl (.inl rfl) (pd_ix (ix_K K rfl) os_ixA (pd_v 0) (pd_v 1) (fun _ _ => rfl)))) dss_nil)
    (dss_cons (ds_set 3 sc_law_dice.nd rfl (.inl rfl) (pd_op op_modN os_mod (pd_callTy call_int1 cs_int (by rfl) T.n_int (by decide +kernel) (pda_cons (pd_callB call_abs cs_abs (by rfl) T.n_abs (by decide +kernel) (pda_cons (pd_v 2) pda_nil)) pda_nil)) (pd_op op_powB os_pow (pd_op op_powB os_pow (pd_int) (pd_int)) (pd_int))))
    (dss_cons (ds_set 4 sc_law_dice.nd rfl (.inl rfl) (pd_op op_divA os_divA (pd_v 3) (pd_op op_powB os_pow (pd_int) (pd_int))))
    (dss_cons (ds_set 5 sc_law_dice.nd rfl (.inl rfl) (pd_op (op_addK K rfl) os_addA (pd_op (op_addK K rfl) os_addA (pd_op (op_addK K rfl) os_addA (pd_op op_mulA os_mulA (pd_op op_modN os_mod (pd_v 3) (pd_int)) (pd_int)) (pd_op op_mulA os_mulA (pd_int) (pd_v 1))) (pd_op op_mulA os_mulA (pd_int) (pd_callTy call_int1 cs_int (by rfl) T.n_int (by decide +kernel) (pda_cons (pd_cmp op_lt os_lt (pd_v 2) (pd_int) (nomark _)) pda_nil)))) (pd_int)))
    (dss_one (ds_retN (pda_cons (pd_v 4) (pda_cons (pd_op op_modN os_mod (pd_v 5) (pd_int)) (pda_cons (pd_int) pda_nil))))))))))⟩
theorem ok_law_roll (T : Tx K mg ad fds tk) : FnOk P w K mg base CX0 1 (ad 1) (fds 1) ["_law_dice_here", "_law_total"] (spF K 2 m_law_roll) := def_ok T.F_law_roll sc_law_roll fun cdv A outer s H E hr => ⟨_, by exact (dss_cons (ds_set 2 sc_law_roll.nd rfl (.inl rfl) (pd_callTy call_int1 cs_int (by rfl) T.n_int (by decide +kernel) (pda_cons (pd_v 1) pda_nil)))
    (dss_cons (ds_if (pdt_cmp op_gt os_gt (pd_ixOK K rfl 0 (pv 0) (pd_int) (fun _ _ => rfl)) (pd_int) (nomark _)) (dss_cons (ds_set 3 sc_law_roll.nd rfl (.inl rfl) (pd_op op_modN os_mod (pd_ixOK K rfl 0 (pv 0) (pd_int) (fun _ _ => rfl)) (pd_v 2)))
    (dss_cons (ds_setO 0 rfl (.inl rfl) (pd_op op_divA os_divA (pd_ixOK K rfl 0 (pv 0) (pd_int) (fun _ _ => rfl)) (pd_v 2)) (pd_int) (pg_sub (pv 0) pe_int set_list))
    (dss_one (ds_ret (pd_callTy call_int1 cs_int (by rfl) T.n_int (by decide +kernel) (pda_cons (pd_v 3) pda_nil)))))) dss_nil)
    (dss_cons (ds_setO 0 rfl (.inl rfl) (pd_op (op_addK K rfl) os_addA (pd_ixOK K rfl 0 (pv 0) (pd_int) (fun _ _ => rfl)) (pd_int)) (pd_int) (pg_sub (pv 0) pe_int set_list))
    (dss_cons (ds_set 4 sc_law_roll.nd rfl (.inl rfl) (pd_op op_modN os_mod (pd_op (op_addK K rfl) os_addA (pd_ixOK K rfl 0 (pv 0) (pd_int) (fun _ _ => rfl)) (pd_op op_mulA os_mulA (pd_int) (pd_ixOK K rfl 0 (pv 0) (pd_int) (fun _ _ => rfl)))) (pd_int)))
    (dss_cons (ds_set 5 sc_law_roll.nd rfl (.inl rfl) (pd_op (op_addK K rfl) os_addA (pd_op op_mulA os_mulA (pd_op op_modN os_mod (pd_op op_mulA os_mulA (pd_v 4) (pd_v 4)) (pd_int)) (pd_v 4)) (pd_op op_mulA os_mulA (pd_int) (pd_ixOK K rfl 0 (pv 0) (pd_int) (fun _ _ => rfl)))))
    (dss_cons (ds_set 5 sc_law_roll.nd rfl (.inl rfl) (pd_op op_modN os_mod (pd_v 5) (pd_int)))
    (dss_one (ds_ret (pd_callTy call_int1 cs_int (by rfl) T.n_int (by decide +kernel) (pda_cons (pd_op op_modN os_mod (pd_op op_divA os_divA (pd_v 5) (pd_int)) (pd_v 2)) pda_nil))))))))))⟩
theorem ok_law_one_of (T : Tx K mg ad fds tk) : FnOk P w K mg base CX0 2 (ad 2) (fds 2) ["_law_dice_here", "_law_items"] (spF K 2 m_law_one_of) := def_ok T.F_law_one_of sc_law_one_of fun cdv A outer s H E hr => ⟨_, by exact (dss_one (ds_ret (pd_ix (ix_K K rfl) os_ixA (pd_v 1) (pd_callOK K rfl 0 (ok_law_roll T) (hr.mono (by decide)) (by rfl) T.G_law_roll T.F_law_roll.kp T.B_law_roll pass0 (pv 0) (pda_cons (pd_callB (call_lenK K rfl) cs_len (by rfl) T.n_len (by decide +kernel) (pda_cons (pd_v 1) pda_nil)) pda_nil)) (fun _ _ => rfl))))⟩
theorem ok_is_place (T : Tx K mg ad fds tk) : FnOk P w K mg base CX0 1 (ad 3) (fds 3) ["value"] (spF K 1 m_is_place) := def_ok T.F_is_place sc_is_place fun cdv A outer s H E hr => ⟨_, by exact (dss_cons (ds_if (pdt_w (pdw_or (pdt_not (pdt_truK K rfl (pd_isiK K rfl "str" (by rfl) T.n_isinstance (by rfl) T.n_str (by decide +kernel) (pd_v 0)))) (pdw_or1 (pdt_not (pdt_chain op_leA os_leA op_leA os_leA (pd_int) (pd_callB (call_lenK K rfl) cs_len (by rfl) T.n_len (by decide +kernel) (pda_cons (pd_v 0) pda_nil)) (pd_globInt (by rfl) T.c_MAX_LETTERS)))))) (dss_one (ds_ret (pd_bl))) dss_nil)
    (dss_one (ds_ret (pd_callB (cr_allK K rfl rfl) cs_all (by rfl) T.n_all (by decide +kernel) (pda_cons (pd_lc (own := [(("letter" : Str), 1)]) rfl sc_is_place.nd (di_K K rfl (pd_v 0)) (blkOk_by (N := ["value", "letter"]) (sc := defScope s_is_place) (by decide +kernel)) (gin_name (by decide)) (fun _ _ _ _ _ => dg_name 1 sc_is_place.nd rfl (.inl rfl)) (fun _ _ _ _ _ => dts_nil) (fun _ _ _ _ _ => pd_chain op_leA os_leA op_leA os_leA (pd_str) (pd_v 1) (pd_str)) s) pda_nil)))))⟩
theorem ok_law_places_right (T : Tx K mg ad fds tk) : FnOk P w K mg base CX0 3 (ad 4) (fds 4) ["_law_dice_here"] (spF K 1 m_law_places_right) := def_ok T.F_law_places_right sc_law_places_right fun cdv A outer s H E hr => ⟨_, by exact (dss_cons (ds_set 1 sc_law_places_right.nd rfl (.inl rfl) (pd_joinK K rfl (pd_str) (pda_cons (pd_lc (own := [(("_law_turn" : Str), 3)]) rfl sc_law_places_right.nd (di_rng1 (by rfl) T.n_range (pda_cons (pd_op (op_addK K rfl) os_addA (pd_int) (pd_callOK K rfl 0 (ok_law_roll T) (hr.mono (by decide)) (by rfl) T.G_law_roll T.F_law_roll.kp T.B_law_roll pass0 (pv 0) (pda_cons (pd_int) pda_nil))) pda_nil)) (blkOk_by (N := ["_law_dice_here", "_law_word", "_law_near", "_law_turn", "_law_one"]) (sc := defScope s_law_places_right) (by decide +kernel)) (gin_name (by decide)) (fun _ _ _ _ _ => dg_name 3 sc_law_places_right.nd rfl (.inl rfl)) (fun _ _ _ _ _ => dts_nil) (fun _ _ _ _ _ => pd_callOK K rfl 0 (ok_law_one_of T) (hr.mono (by decide)) (by rfl) T.G_law_one_of T.F_law_one_of.kp T.B_law_one_of pass0 (pv 0) (pda_cons (pd_lst (pda_cons (pd_str) (pda_cons (pd_str) (pda_cons (pd_str) pda_nil)))) pda_nil)) s) pda_nil)))
    (dss_cons (ds_set 2 sc_law_places_right.nd rfl (.inl rfl) (pd_lst (pda_cons (pd_v 1) (pda_cons (pd_op (op_addK K rfl) os_addA (pd_v 1) (pd_str)) (pda_cons (pd_op (op_addK K rfl) os_addA (pd_v 1) (pd_str)) (pda_cons (pd_str) (pda_cons (pd_op (op_addK K rfl) os_addA (pd_v 1) (pd_str)) (pda_cons (pd_tup (pda_cons (pd_v 1) pda_nil)) (pda_cons (pd_non) (pda_cons (pd_int) (pda_cons (pd_bl) (pda_cons (pd_lst (pda_cons (pd_v 1) pda_nil)) (pda_cons (pd_dnew) (pda_cons (pd_op (op_addK K rfl) os_addA (pd_v 1) (pd_str)) pda_nil))))))))))))))
    (dss_one (ds_ret (pd_cmp (op_eqK K rfl hr.units) os_eqD (pd_lc (own := [(("_law_one" : Str), 4)]) rfl sc_law_places_right.nd (di_K K rfl (pd_v 2)) (blkOk_by (N := ["_law_dice_here", "_law_word", "_law_near", "_law_turn", "_law_one"]) (sc := defScope s_law_places_right) (by decide +kernel)) (gin_name (by decide)) (fun _ _ _ _ _ => dg_name 4 sc_law_places_right.nd rfl (.inl rfl)) (fun _ _ _ _ _ => dts_nil) (fun _ _ _ _ _ => pd_callK K rfl (ok_is_place T) (hr.mono (by decide)) (by rfl) T.G_is_place T.F_is_place.kp T.B_is_place pass0 (pda_cons (pd_v 4) pda_nil)) s) (pd_op (op_addK K rfl) os_addA (pd_lst (pda_cons (pd_bl) pda_nil)) (pd_op op_mulA os_mulA (pd_lst (pda_cons (pd_bl) pda_nil)) (pd_int))) (nomark _))))))⟩
theorem ok_law_drawn (T : Tx K mg ad fds tk) : FnOk P w K mg base CX0 3 (ad 5) (fds 5) ["_law_dice_here"] (spF K 1 m_law_drawn) := def_ok T.F_law_drawn sc_law_drawn fun cdv A outer s H E hr => ⟨_, by exact (dss_cons (ds_set 1 sc_law_drawn.nd rfl (.inl rfl) (pd_callOK K rfl 0 (ok_law_one_of T) (hr.mono (by decide)) (by rfl) T.G_law_one_of T.F_law_one_of.kp T.B_law_one_of pass0 (pv 0) (pda_cons (pd_lst (pda_cons (pd_int) (pda_cons (pd_int) (pda_cons (pd_int) pda_nil)))) pda_nil)))
    (dss_one (ds_ret (pd_tup (pda_cons (pd_op op_sub os_sub (pd_callOK K rfl 0 (ok_law_roll T) (hr.mono (by decide)) (by rfl) T.G_law_roll T.F_law_roll.kp T.B_law_roll pass0 (pv 0) (pda_cons (pd_op op_mulA os_mulA (pd_int) (pd_v 1)) pda_nil)) (pd_v 1)) (pda_cons (pd_op (op_addK K rfl) os_addA (pd_int) (pd_callOK K rfl 0 (ok_law_roll T) (hr.mono (by decide)) (by rfl) T.G_law_roll T.F_law_roll.kp T.B_law_roll pass0 (pv 0) (pda_cons (pd_v 1) pda_nil))) pda_nil))))))⟩
theorem ok_law_is_lowest (T : Tx K mg ad fds tk) : FnOk P w K mg base CX0 1 (ad 6) (fds 6) ["_law_one"] (spF K 1 m_law_is_lowest) := def_ok T.F_law_is_lowest sc_law_is_lowest fun cdv A outer s H E hr => ⟨_, by exact (dss_cons (ds_asg (pd_tup (pda_cons (pd_callTy call_int1 cs_int (by rfl) T.n_int (by decide +kernel) (pda_cons (pd_ix (ix_K K rfl) os_ixA (pd_v 0) (pd_int) (fun _ _ => rfl)) pda_nil)) (pda_cons (pd_callTy call_int1 cs_int (by rfl) T.n_int (by decide +kernel) (pda_cons (pd_ix (ix_K K rfl) os_ixA (pd_v 0) (pd_int) (fun _ _ => rfl)) pda_nil)) pda_nil))) (dg_tupK K rfl rfl (dgs_cons (dg_name 1 sc_law_is_lowest.nd rfl (.inr rfl)) (dgs_cons (dg_name 2 sc_law_is_lowest.nd rfl (.inr rfl)) dgs_nil))))
    (dss_cons (ds_set 3 sc_law_is_lowest.nd rfl (.inl rfl) (pd_listRg rfl (by rfl) T.n_list (by rfl) T.n_range (pd_int) (pd_op (op_addK K rfl) os_addA (pd_op (op_addK K rfl) os_addA (pd_callB call_abs cs_abs (by rfl) T.n_abs (by decide +kernel) (pda_cons (pd_v 1) pda_nil)) (pd_v 2)) (pd_int))))
    (dss_one (ds_ret (pd_and (pd_cmp op_gt os_gt (pd_v 2) (pd_int) (nomark _)) (pd_one (pd_cmp (op_eqK K rfl hr.units) os_eqD (pd_lc (own := [(("_law_by" : Str), 4)]) rfl sc_law_is_lowest.nd (di_K K rfl (pd_v 3)) (blkOk_by (N := ["_law_one", "_law_top", "_law_low", "_law_some", "_law_by"]) (sc := defScope s_law_is_lowest) (by decide +kernel)) (gin_name (by decide)) (fun _ _ _ _ _ => dg_name 4 sc_law_is_lowest.nd rfl (.inl rfl)) (fun _ _ _ _ _ => dts_one (pdt_w (pdw_and (pdt_cmp (op_eqK K rfl hr.units) os_eqD (pd_op op_modN os_mod (pd_v 1) (pd_v 4)) (pd_int) (nomark _)) (pdw_and1 (pdt_cmp (op_eqK K rfl hr.units) os_eqD (pd_op op_modN os_mod (pd_v 2) (pd_v 4)) (pd_int) (nomark _)))))) (fun _ _ _ _ _ => pd_v 4) s) (pd_lst pda_nil) (nomark _))))))))⟩
theorem ok_law_less (T : Tx K mg ad fds tk) : FnOk P w K mg base CX0 1 (ad 7) (fds 7) ["_law_one", "_law_other"] (spF K 2 m_law_less) := def_ok T.F_law_less sc_law_less fun cdv A outer s H E hr => ⟨_, by exact (dss_one (ds_ret (pd_cmp op_lt os_lt (pd_op op_mulA os_mulA (pd_ix (ix_K K rfl) os_ixA (pd_v 0) (pd_int) (fun _ _ => rfl)) (pd_ix (ix_K K rfl) os_ixA (pd_v 1) (pd_int) (fun _ _ => rfl))) (pd_op op_mulA os_mulA (pd_ix (ix_K K rfl) os_ixA (pd_v 1) (pd_int) (fun _ _ => rfl)) (pd_ix (ix_K K rfl) os_ixA (pd_v 0) (pd_int) (fun _ _ => rfl))) (nomark _))))⟩
theorem ok_law_lowest (T : Tx K mg ad fds tk) : FnOk P w K mg base CX0 1 (ad 8) (fds 8) ["_law_numerator", "_law_denominator"] (spF K 2 m_law_lowest) := def_ok T.F_law_lowest sc_law_lowest fun cdv A outer s H E hr => ⟨_, by exact (dss_cons (ds_par 2 3 (by rfl) sc_law_lowest.nd rfl rfl (by decide) rfl rfl (pda_cons (pd_callB call_abs cs_abs (by rfl) T.n_abs (by decide +kernel) (pda_cons (pd_v 0) pda_nil)) (pda_cons (pd_v 1) pda_nil)) (by rfl))
    (dss_cons (ds_while 60 PassesOwn.never (pdt_cmp op_gt os_gt (pd_v 3) (pd_int) (nomark _)) (dss_one (ds_par 2 3 (by rfl) sc_law_lowest.nd rfl rfl (by decide) rfl rfl (pda_cons (pd_v 3) (pda_cons (pd_op op_modN os_mod (pd_callTy call_int1 cs_int (by rfl) T.n_int (by decide +kernel) (pda_cons (pd_v 2) pda_nil)) (pd_v 3)) pda_nil)) (by rfl))))
    (dss_one (ds_ret (pd_tup (pda_cons (pd_op op_divA os_divA (pd_v 0) (pd_v 2)) (pda_cons (pd_op op_divA os_divA (pd_v 1) (pd_v 2)) pda_nil)))))))⟩
theorem ok_is_integer (T : Tx K mg ad fds tk) : FnOk P w K mg base CX0 1 (ad 9) (fds 9) ["value"] (spF K 1 m_is_integer) := def_ok T.F_is_integer sc_is_integer fun cdv A outer s H E hr => ⟨_, by exact (dss_one (ds_ret (pd_and (pd_isiK K rfl "int" (by rfl) T.n_isinstance (by rfl) T.n_int (by decide +kernel) (pd_v 0)) (pd_one (pd_not (pd_isiK K rfl "bool" (by rfl) T.n_isinstance (by rfl) T.n_bool (by decide +kernel) (pd_v 0)))))))⟩
theorem ok_fraction (T : Tx K mg ad fds tk) : FnOk P w K mg base CX0 2 (ad 10) (fds 10) ["numerator", "denominator"] (spF K 2 m_fraction) := def_ok T.F_fraction sc_fraction fun cdv A outer s H E hr => ⟨_, by exact (dss_cons (ds_for PassesOwn.never rfl (di_K K rfl (pd_tup (pda_cons (pd_v 0) (pda_cons (pd_v 1) pda_nil)))) (dg_name 2 sc_fraction.nd rfl (.inl rfl)) (dss_one (ds_if (pdt_not (pdt_truK K rfl (pd_callK K rfl (ok_is_integer T) (hr.mono (by decide)) (by rfl) T.G_is_integer T.F_is_integer.kp T.B_is_integer pass0 (pda_cons (pd_v 2) pda_nil)))) (dss_one (ds_never)) dss_nil)))
    (dss_cons (ds_if (pdt_cmp op_lt os_lt (pd_v 1) (pd_int) (nomark _)) (dss_one (ds_never)) dss_nil)
    (dss_cons (ds_set 3 sc_fraction.nd rfl (.inl rfl) (pd_callBf cr_gcd cs_gcd (by rfl) T.b_gcd (pda_cons (pd_v 0) (pda_cons (pd_v 1) pda_nil))))
    (dss_one (ds_ret (pd_tup (pda_cons (pd_op op_divA os_divA (pd_v 0) (pd_v 3)) (pda_cons (pd_op op_divA os_divA (pd_v 1) (pd_v 3)) pda_nil))))))))⟩
theorem ok_is_fraction (T : Tx K mg ad fds tk) : FnOk P w K mg base CX0 2 (ad 11) (fds 11) ["value"] (spF K 1 m_is_fraction) := def_ok T.F_is_fraction sc_is_fraction fun cdv A outer s H E hr => ⟨_, by exact (dss_cons (ds_if (pdt_w (pdw_or (pdt_not (pdt_truK K rfl (pd_isiK K rfl "tuple" (by rfl) T.n_isinstance (by rfl) T.n_tuple (by decide +kernel) (pd_v 0)))) (pdw_or1 (pdt_cmp (op_neK K rfl hr.units) os_neD (pd_callB (call_lenK K rfl) cs_len (by rfl) T.n_len (by decide +kernel) (pda_cons (pd_v 0) pda_nil)) (pd_int) (nomark _))))) (dss_one (ds_ret (pd_bl))) dss_nil)
    (dss_cons (ds_if (pdt_w (pdw_or (pdt_not (pdt_truK K rfl (pd_callK K rfl (ok_is_integer T) (hr.mono (by decide)) (by rfl) T.G_is_integer T.F_is_integer.kp T.B_is_integer pass0 (pda_cons (pd_ix (ix_K K rfl) os_ixA (pd_v 0) (pd_int) (fun _ _ => rfl)) pda_nil)))) (pdw_or1 (pdt_not (pdt_truK K rfl (pd_callK K rfl (ok_is_integer T) (hr.mono (by decide)) (by rfl) T.G_is_integer T.F_is_integer.kp T.B_is_integer pass0 (pda_cons (pd_ix (ix_K K rfl) os_ixA (pd_v 0) (pd_int) (fun _ _ => rfl)) pda_nil))))))) (dss_one (ds_ret (pd_bl))) dss_nil)
    (dss_one (ds_ret (pd_and (pd_cmp op_ge os_ge (pd_ix (ix_K K rfl) os_ixA (pd_v 0) (pd_int) (fun _ _ => rfl)) (pd_int) (nomark _)) (pd_one (pd_cmp (op_eqK K rfl hr.units) os_eqD (pd_callBf cr_gcd cs_gcd (by rfl) T.b_gcd (pda_cons (pd_ix (ix_K K rfl) os_ixA (pd_v 0) (pd_int) (fun _ _ => rfl)) (pda_cons (pd_ix (ix_K K rfl) os_ixA (pd_v 0) (pd_int) (fun _ _ => rfl)) pda_nil))) (pd_int) (nomark _))))))))⟩
theorem ok_check_fraction (T : Tx K mg ad fds tk) : FnOk P w K mg base CX0 3 (ad 12) (fds 12) ["value"] (spF K 1 m_check_fraction) := def_ok T.F_check_fraction sc_check_fraction fun cdv A outer s H E hr => ⟨_, by exact (dss_one (ds_if (pdt_not (pdt_truK K rfl (pd_callK K rfl (ok_is_fraction T) (hr.mono (by decide)) (by rfl) T.G_is_fraction T.F_is_fraction.kp T.B_is_fraction pass0 (pda_cons (pd_v 0) pda_nil)))) (dss_one (ds_never)) dss_nil))⟩
theorem ok_is_lower (T : Tx K mg ad fds tk) : FnOk P w K mg base CX0 4 (ad 13) (fds 13) ["one", "other"] (spF K 2 m_is_lower) := def_ok T.F_is_lower sc_is_lower fun cdv A outer s H E hr => ⟨_, by exact (dss_cons (ds_expr (pd_callK K rfl (ok_check_fraction T) (hr.mono (by decide)) (by rfl) T.G_check_fraction T.F_check_fraction.kp T.B_check_fraction pass0 (pda_cons (pd_v 0) pda_nil)))
    (dss_cons (ds_expr (pd_callK K rfl (ok_check_fraction T) (hr.mono (by decide)) (by rfl) T.G_check_fraction T.F_check_fraction.kp T.B_check_fraction pass0 (pda_cons (pd_v 1) pda_nil)))
    (dss_one (ds_ret (pd_cmp op_lt os_lt (pd_op op_mulA os_mulA (pd_ix (ix_K K rfl) os_ixA (pd_v 0) (pd_int) (fun _ _ => rfl)) (pd_ix (ix_K K rfl) os_ixA (pd_v 1) (pd_int) (fun _ _ => rfl))) (pd_op op_mulA os_mulA (pd_ix (ix_K K rfl) os_ixA (pd_v 1) (pd_int) (fun _ _ => rfl)) (pd_ix (ix_K K rfl) os_ixA (pd_v 0) (pd_int) (fun _ _ => rfl))) (nomark _))))))⟩
theorem ok_greatest (T : Tx K mg ad fds tk) : FnR P w K mg base CX0 5 (ad 14) (spStar (spF K 1 m_greatest)) := defS_ok T.F_greatest sc_greatest (fun _ _ _ _ _ _ us rest hl => match us, rest, hl with | [], [], _ => rfl | [], _ :: _, _ => rfl) fun cdv A outer s H E hr => ⟨_, by exact (dss_cons (ds_if (pdt_not (pdt_truK K rfl (pd_v 0))) (dss_one (ds_never)) dss_nil)
    (dss_cons (ds_set 1 sc_greatest.nd rfl (.inl rfl) (pd_ix (ix_K K rfl) os_ixA (pd_v 0) (pd_int) (fun _ _ => rfl)))
    (dss_cons (ds_for PassesOwn.never rfl (di_K K rfl (pd_v 0)) (dg_name 2 sc_greatest.nd rfl (.inl rfl)) (dss_one (ds_if (pdt_truK K rfl (pd_callK K rfl (ok_is_lower T) (hr.mono (by decide)) (by rfl) T.G_is_lower T.F_is_lower.kp T.B_is_lower pass0 (pda_cons (pd_v 1) (pda_cons (pd_v 2) pda_nil)))) (dss_one (ds_set 1 sc_greatest.nd rfl (.inl rfl) (pd_v 2))) dss_nil)))
    (dss_one (ds_ret (pd_v 1))))))⟩
theorem ok_law_right (T : Tx K mg ad fds tk) : FnOk P w K mg base CX0 6 (ad 15) (fds 15) ["_law_dice_here"] (spF K 1 m_law_right) := def_ok T.F_law_right sc_law_right fun cdv A outer s H E hr => ⟨_, by exact (dss_cons (ds_setLc 1 (own := [(("_law_turn" : Str), 10)]) rfl sc_law_right.nd rfl rfl (sw_true rfl rfl rfl (by decide +kernel)) (di_rng1 (by rfl) T.n_range (pda_cons (pd_int) pda_nil)) (blkOk_by (N := ["_law_dice_here", "_law_pairs", "_law_rows", "_law_one", "_law_other", "_law_most", "_law_by", "_law_far", "_law_near", "_law_due", "_law_turn"]) (sc := defScope s_law_right) (by decide +kernel)) (gin_name (by decide)) (fun _ _ _ _ _ => dg_name 10 sc_law_right.nd rfl (.inl rfl)) (fun _ _ _ _ _ => dts_nil) (fun _ _ _ _ _ => pd_callOK K rfl 0 (ok_law_drawn T) (hr.mono (by decide)) (by rfl) T.G_law_drawn T.F_law_drawn.kp T.B_law_drawn pass0 (pv 0) pda_nil) s)
    (dss_cons (ds_setLc 2 (own := [(("_law_one" : Str), 3), (("_law_other" : Str), 4)]) rfl sc_law_right.nd rfl rfl (sw_true rfl rfl rfl (by decide +kernel)) (di_K K rfl (pd_v 1)) (blkOk_by (N := ["_law_dice_here", "_law_pairs", "_law_rows", "_law_one", "_law_other", "_law_most", "_law_by", "_law_far", "_law_near", "_law_due", "_law_turn"]) (sc := defScope s_law_right) (by decide +kernel)) (gin_tup (gsin_cons (gin_name (by decide)) (gsin_cons (gin_name (by decide)) gsin_nil))) (fun _ _ _ _ _ => dg_tupK K rfl rfl (dgs_cons (dg_name 3 sc_law_right.nd rfl (.inl rfl)) (dgs_cons (dg_name 4 sc_law_right.nd rfl (.inl rfl)) dgs_nil))) (fun _ _ _ _ _ => dts_nil) (fun _ _ _ _ _ => pd_callK K rfl (ok_fraction T) (hr.mono (by decide)) (by rfl) T.G_fraction T.F_fraction.kp T.B_fraction pass0 (pda_cons (pd_v 3) (pda_cons (pd_v 4) pda_nil))) s)
    (dss_cons (ds_if (pdt_cmp (op_neK K rfl hr.units) os_neD (pd_v 2) (pd_lc (own := [(("_law_one" : Str), 3), (("_law_other" : Str), 4)]) rfl sc_law_right.nd (di_K K rfl (pd_v 1)) (blkOk_by (N := ["_law_dice_here", "_law_pairs", "_law_rows", "_law_one", "_law_other", "_law_most", "_law_by", "_law_far", "_law_near", "_law_due", "_law_turn"]) (sc := defScope s_law_right) (by decide +kernel)) (gin_tup (gsin_cons (gin_name (by decide)) (gsin_cons (gin_name (by decide)) gsin_nil))) (fun _ _ _ _ _ => dg_tupK K rfl rfl (dgs_cons (dg_name 3 sc_law_right.nd rfl (.inl rfl)) (dgs_cons (dg_name 4 sc_law_right.nd rfl (.inl rfl)) dgs_nil))) (fun _ _ _ _ _ => dts_nil) (fun _ _ _ _ _ => pd_callK K rfl (ok_law_lowest T) (hr.mono (by decide)) (by rfl) T.G_law_lowest T.F_law_lowest.kp T.B_law_lowest pass0 (pda_cons (pd_v 3) (pda_cons (pd_v 4) pda_nil))) s) (nomark _)) (dss_one (ds_ret (pd_bl))) dss_nil)
    (dss_cons (ds_if (pdt_cmp (op_neK K rfl hr.units) os_neD (pd_lc (own := [(("_law_one" : Str), 3)]) rfl sc_law_right.nd (di_K K rfl (pd_v 2)) (blkOk_by (N := ["_law_dice_here", "_law_pairs", "_law_rows", "_law_one", "_law_other", "_law_most", "_law_by", "_law_far", "_law_near", "_law_due", "_law_turn"]) (sc := defScope s_law_right) (by decide +kernel)) (gin_name (by decide)) (fun _ _ _ _ _ => dg_name 3 sc_law_right.nd rfl (.inl rfl)) (fun _ _ _ _ _ => dts_one (pdt_not (pdt_truK K rfl (pd_callK K rfl (ok_law_is_lowest T) (hr.mono (by decide)) (by rfl) T.G_law_is_lowest T.F_law_is_lowest.kp T.B_law_is_lowest pass0 (pda_cons (pd_v 3) pda_nil))))) (fun _ _ _ _ _ => pd_v 3) s) (pd_lst pda_nil) (nomark _)) (dss_one (ds_ret (pd_bl))) dss_nil)
    (dss_cons (ds_for PassesOwn.never rfl (di_K K rfl (pd_lst (pda_cons (pd_tup (pda_cons (pd_ix (ix_K K rfl) os_ixA (pd_v 2) (pd_int) (fun _ _ => rfl)) (pda_cons (pd_ix (ix_K K rfl) os_ixA (pd_v 2) (pd_int) (fun _ _ => rfl)) pda_nil))) (pda_cons (pd_tup (pda_cons (pd_ix (ix_K K rfl) os_ixA (pd_v 2) (pd_int) (fun _ _ => rfl)) (pda_cons (pd_ix (ix_K K rfl) os_ixA (pd_v 2) (pd_int) (fun _ _ => rfl)) pda_nil))) (pda_cons (pd_tup (pda_cons (pd_ix (ix_K K rfl) os_ixA (pd_v 2) (pd_int) (fun _ _ => rfl)) (pda_cons (pd_ix (ix_K K rfl) os_ixA (pd_v 2) (pd_int) (fun _ _ => rfl)) pda_nil))) pda_nil))))) (dg_tupK K rfl rfl (dgs_cons (dg_name 3 sc_law_right.nd rfl (.inl rfl)) (dgs_cons (dg_name 4 sc_law_right.nd rfl (.inl rfl)) dgs_nil))) (dss_one (ds_if (pdt_w (pdw_or (pdt_cmp (op_neK K rfl hr.units) os_neD (pd_callK K rfl (ok_is_lower T) (hr.mono (by decide)) (by rfl) T.G_is_lower T.F_is_lower.kp T.B_is_lower pass0 (pda_cons (pd_v 3) (pda_cons (pd_v 4) pda_nil))) (pd_callK K rfl (ok_law_less T) (hr.mono (by decide)) (by rfl) T.G_law_less T.F_law_less.kp T.B_law_less pass0 (pda_cons (pd_v 3) (pda_cons (pd_v 4) pda_nil))) (nomark _)) (pdw_or1 (pdt_w (pdw_and (pdt_truK K rfl (pd_callK K rfl (ok_is_lower T) (hr.mono (by decide)) (by rfl) T.G_is_lower T.F_is_lower.kp T.B_is_lower pass0 (pda_cons (pd_v 3) (pda_cons (pd_v 4) pda_nil)))) (pdw_and1 (pdt_truK K rfl (pd_callK K rfl (ok_is_lower T) (hr.mono (by decide)) (by rfl) T.G_is_lower T.F_is_lower.kp T.B_is_lower pass0 (pda_cons (pd_v 4) (pda_cons (pd_v 3) pda_nil)))))))))) (dss_one (ds_ret (pd_bl))) dss_nil)))
    (dss_cons (ds_set 5 sc_law_right.nd rfl (.inr rfl) (pd_callSK K rfl (ok_greatest T) (hr.mono (by decide)) T.F_greatest.kp (by rfl) T.G_greatest pass0 (pda_cons (pd_ix (ix_K K rfl) os_ixA (pd_v 2) (pd_int) (fun _ _ => rfl)) (pda_cons (pd_ix (ix_K K rfl) os_ixA (pd_v 2) (pd_int) (fun _ _ => rfl)) (pda_cons (pd_ix (ix_K K rfl) os_ixA (pd_v 2) (pd_int) (fun _ _ => rfl)) pda_nil)))))
    (dss_cons (ds_if (pdt_w (pdw_or (pdt_cmp (op_notInK K rfl (hu65 hr)) os_notInD (pd_v 5) (pd_v 2) (by rfl)) (pdw_or (pdt_cmp (op_neK K rfl hr.units) os_neD (pd_lc (own := [(("_law_one" : Str), 3)]) rfl sc_law_right.nd (di_K K rfl (pd_v 2)) (blkOk_by (N := ["_law_dice_here", "_law_pairs", "_law_rows", "_law_one", "_law_other", "_law_most", "_law_by", "_law_far", "_law_near", "_law_due", "_law_turn"]) (sc := defScope s_law_right) (by decide +kernel)) (gin_name (by decide)) (fun _ _ _ _ _ => dg_name 3 sc_law_right.nd rfl (.inl rfl)) (fun _ _ _ _ _ => dts_one (pdt_truK K rfl (pd_callK K rfl (ok_law_less T) (hr.mono (by decide)) (by rfl) T.G_law_less T.F_law_less.kp T.B_law_less pass0 (pda_cons (pd_v 5) (pda_cons (pd_v 3) pda_nil))))) (fun _ _ _ _ _ => pd_v 3) s) (pd_lst pda_nil) (nomark _)) (pdw_or1 (pdt_cmp (op_neK K rfl hr.units) os_neD (pd_callSK K rfl (ok_greatest T) (hr.mono (by decide)) T.F_greatest.kp (by rfl) T.G_greatest pass0 (pda_cons (pd_ix (ix_K K rfl) os_ixA (pd_v 2) (pd_int) (fun _ _ => rfl)) pda_nil)) (pd_ix (ix_K K rfl) os_ixA (pd_v 2) (pd_int) (fun _ _ => rfl)) (nomark _)))))) (dss_one (ds_ret (pd_bl))) dss_nil)
    (dss_cons (ds_par 6 7 (by rfl) sc_law_right.nd rfl rfl (by decide) rfl rfl (pda_cons (pd_op (op_addK K rfl) os_addA (pd_int) (pd_callOK K rfl 0 (ok_law_roll T) (hr.mono (by decide)) (by rfl) T.G_law_roll T.F_law_roll.kp T.B_law_roll pass0 (pv 0) (pda_cons (pd_int) pda_nil))) (pda_cons (pd_op (op_addK K rfl) os_addA (pd_op op_powB os_pow (pd_int) (pd_int)) (pd_callOK K rfl 0 (ok_law_roll T) (hr.mono (by decide)) (by rfl) T.G_law_roll T.F_law_roll.kp T.B_law_roll pass0 (pv 0) (pda_cons (pd_int) pda_nil))) pda_nil)) (by rfl))
    (dss_cons (ds_if (pdt_w (pdw_or (pdt_cmp (op_neK K rfl hr.units) os_neD (pd_callK K rfl (ok_fraction T) (hr.mono (by decide)) (by rfl) T.G_fraction T.F_fraction.kp T.B_fraction pass0 (pda_cons (pd_op op_mulA os_mulA (pd_ix (ix_K K rfl) os_ixA (pd_ix (ix_K K rfl) os_ixA (pd_v 1) (pd_int) (fun _ _ => rfl)) (pd_int) (fun _ _ => rfl)) (pd_v 6)) (pda_cons (pd_op op_mulA os_mulA (pd_ix (ix_K K rfl) os_ixA (pd_ix (ix_K K rfl) os_ixA (pd_v 1) (pd_int) (fun _ _ => rfl)) (pd_int) (fun _ _ => rfl)) (pd_v 6)) pda_nil))) (pd_ix (ix_K K rfl) os_ixA (pd_v 2) (pd_int) (fun _ _ => rfl)) (nomark _)) (pdw_or1 (pdt_cmp (op_neK K rfl hr.units) os_neD (pd_callK K rfl (ok_fraction T) (hr.mono (by decide)) (by rfl) T.G_fraction T.F_fraction.kp T.B_fraction pass0 (pda_cons (pd_v 7) (pda_cons (pd_v 7) pda_nil))) (pd_tup (pda_cons (pd_int) (pda_cons (pd_int) pda_nil))) (nomark _))))) (dss_one (ds_ret (pd_bl))) dss_nil)
    (dss_cons (ds_set 8 sc_law_right.nd rfl (.inl rfl) (pd_lst (pda_cons (pd_ix (ix_K K rfl) os_ixA (pd_v 2) (pd_int) (fun _ _ => rfl)) (pda_cons (pd_ix (ix_K K rfl) os_ixA (pd_v 1) (pd_int) (fun _ _ => rfl)) (pda_cons (pd_tup (pda_cons (pd_ix (ix_K K rfl) os_ixA (pd_ix (ix_K K rfl) os_ixA (pd_v 2) (pd_int) (fun _ _ => rfl)) (pd_int) (fun _ _ => rfl)) (pda_cons (pd_int) pda_nil))) (pda_cons (pd_tup (pda_cons (pd_ix (ix_K K rfl) os_ixA (pd_ix (ix_K K rfl) os_ixA (pd_v 2) (pd_int) (fun _ _ => rfl)) (pd_int) (fun _ _ => rfl)) (pda_cons (pd_un un_neg us_neg (pd_int)) pda_nil))) (pda_cons (pd_op (op_addK K rfl) os_addA (pd_ix (ix_K K rfl) os_ixA (pd_v 2) (pd_int) (fun _ _ => rfl)) (pd_tup (pda_cons (pd_int) pda_nil))) (pda_cons (pd_callTy (call_listK K rfl) cs_list (by rfl) T.n_list (by decide +kernel) (pda_cons (pd_ix (ix_K K rfl) os_ixA (pd_v 2) (pd_int) (fun _ _ => rfl)) pda_nil)) (pda_cons (pd_tup (pda_cons (pd_bl) (pda_cons (pd_int) pda_nil))) pda_nil)))))))))
    (dss_cons (ds_set 8 sc_law_right.nd rfl (.inl rfl) (pd_op (op_addK K rfl) os_addA (pd_v 8) (pd_lst (pda_cons (pd_tup (pda_cons (pd_int) (pda_cons (pd_bl) pda_nil))) (pda_cons (pd_non) (pda_cons (pd_int) pda_nil))))))
    (dss_cons (ds_set 9 sc_law_right.nd rfl (.inl rfl) (pd_op (op_addK K rfl) os_addA (pd_lst (pda_cons (pd_bl) (pda_cons (pd_callK K rfl (ok_law_is_lowest T) (hr.mono (by decide)) (by rfl) T.G_law_is_lowest T.F_law_is_lowest.kp T.B_law_is_lowest pass0 (pda_cons (pd_ix (ix_K K rfl) os_ixA (pd_v 1) (pd_int) (fun _ _ => rfl)) pda_nil)) pda_nil))) (pd_op op_mulA os_mulA (pd_lst (pda_cons (pd_bl) pda_nil)) (pd_int))))
    (dss_one (ds_ret (pd_and (pd_cmp (op_eqK K rfl hr.units) os_eqD (pd_lc (own := [(("_law_one" : Str), 3)]) rfl sc_law_right.nd (di_K K rfl (pd_v 8)) (blkOk_by (N := ["_law_dice_here", "_law_pairs", "_law_rows", "_law_one", "_law_other", "_law_most", "_law_by", "_law_far", "_law_near", "_law_due", "_law_turn"]) (sc := defScope s_law_right) (by decide +kernel)) (gin_name (by decide)) (fun _ _ _ _ _ => dg_name 3 sc_law_right.nd rfl (.inl rfl)) (fun _ _ _ _ _ => dts_nil) (fun _ _ _ _ _ => pd_callK K rfl (ok_is_fraction T) (hr.mono (by decide)) (by rfl) T.G_is_fraction T.F_is_fraction.kp T.B_is_fraction pass0 (pda_cons (pd_v 3) pda_nil)) s) (pd_v 9) (nomark _)) (pd_one (pd_cmp op_is_bl os_isB (pd_callK K rfl (ok_is_fraction T) (hr.mono (by decide)) (by rfl) T.G_is_fraction T.F_is_fraction.kp T.B_is_fraction pass0 (pda_cons (pd_tup (pda_cons (pd_int) (pda_cons (pd_int) pda_nil))) pda_nil)) (pd_bl) (nomark _))))))))))))))))))⟩
theorem ok_law (T : Tx K mg ad fds tk) : FnOk P w K mg base CX0 7 (ad 16) (fds 16) ["_law_script"] (spF K 1 m_law) := def_ok T.F_law sc_law fun cdv A outer s H E hr => ⟨_, by exact (dss_cons (ds_for PassesOwn.never rfl (di_rng1 (by rfl) T.n_range (pda_cons (pd_callB (call_max2 rfl) cs_max2 (by rfl) T.n_max (by decide +kernel) (pda_cons (pd_int) (pda_cons (pd_callB (call_min2 rfl) cs_min2 (by rfl) T.n_min (by decide +kernel) (pda_cons (pd_int) (pda_cons (pd_callB (call_lenK K rfl) cs_len (by rfl) T.n_len (by decide +kernel) (pda_cons (pd_v 0) pda_nil)) pda_nil))) pda_nil))) pda_nil)) (dg_name 1 sc_law.nd rfl (.inl rfl)) (dss_cons (ds_setN 2 sc_law.nd rfl (.inl rfl) (ok_law_dice T) (hr.mono (by decide)) (by rfl) T.G_law_dice T.F_law_dice.kp T.B_law_dice pass0 (pda_cons (pd_v 0) (pda_cons (pd_v 1) pda_nil)))
    (dss_one (ds_if (pdt_w (pdw_or (pdt_not (pdt_truK K rfl (pd_callOK K rfl 2 (ok_law_right T) (hr.mono (by decide)) (by rfl) T.G_law_right T.F_law_right.kp T.B_law_right pass0 (pv 2) pda_nil))) (pdw_or1 (pdt_not (pdt_truK K rfl (pd_callOK K rfl 2 (ok_law_places_right T) (hr.mono (by decide)) (by rfl) T.G_law_places_right T.F_law_places_right.kp T.B_law_places_right pass0 (pv 2) pda_nil)))))) (dss_one (ds_ret (pd_bl))) dss_nil))))
    (dss_cons (ds_set 3 sc_law.nd rfl (.inl rfl) (pd_lst (pda_cons (pd_callK K rfl (ok_fraction T) (hr.mono (by decide)) (by rfl) T.G_fraction T.F_fraction.kp T.B_fraction pass0 (pda_cons (pd_int) (pda_cons (pd_int) pda_nil))) (pda_cons (pd_callK K rfl (ok_fraction T) (hr.mono (by decide)) (by rfl) T.G_fraction T.F_fraction.kp T.B_fraction pass0 (pda_cons (pd_un un_neg us_neg (pd_int)) (pda_cons (pd_int) pda_nil))) (pda_cons (pd_callK K rfl (ok_fraction T) (hr.mono (by decide)) (by rfl) T.G_fraction T.F_fraction.kp T.B_fraction pass0 (pda_cons (pd_int) (pda_cons (pd_int) pda_nil))) (pda_cons (pd_callSK K rfl (ok_greatest T) (hr.mono (by decide)) T.F_greatest.kp (by rfl) T.G_greatest pass0 (pda_cons (pd_tup (pda_cons (pd_int) (pda_cons (pd_int) pda_nil))) (pda_cons (pd_tup (pda_cons (pd_int) (pda_cons (pd_int) pda_nil))) (pda_cons (pd_tup (pda_cons (pd_int) (pda_cons (pd_int) pda_nil))) pda_nil)))) (pda_cons (pd_globInt (by rfl) T.c_MAX_LETTERS) pda_nil)))))))
    (dss_one (ds_ret (pd_cmp (op_eqK K rfl hr.units) os_eqD (pd_v 3) (pd_lst (pda_cons (pd_tup (pda_cons (pd_int) (pda_cons (pd_int) pda_nil))) (pda_cons (pd_tup (pda_cons (pd_un un_neg us_neg (pd_int)) (pda_cons (pd_int) pda_nil))) (pda_cons (pd_tup (pda_cons (pd_int) (pda_cons (pd_int) pda_nil))) (pda_cons (pd_tup (pda_cons (pd_int) (pda_cons (pd_int) pda_nil))) (pda_cons (pd_int) pda_nil)))))) (nomark _))))))⟩
end
end K01
namespace K01
open PySem L2 DL
theorem dT {h : Decidable True} : @decide True h = true := by
  cases h with
  | isTrue _ => rfl
  | isFalse n => exact absurd trivial n
theorem dF {h : Decidable False} : @decide False h = false := by
  cases h with
  | isTrue n => exact n.elim
  | isFalse n => rfl
theorem e_add (i j : Int) : gAdd (.int i) (.int j) = some (.int (i + j)) := rfl
theorem e_sub (i j : Int) : gSubI (.int i) (.int j) = some (.int (i - j)) := rfl
theorem e_mul {i j : Int} (h : small64 i = true ∨ small64 j = true) : gMulA (.int i) (.int j) = some (.int (i * j)) := by
  have c : (small64 i || small64 j) = true := by rw [Bool.or_eq_true]; exact h
  unfold gMulA gOr gMul gI
  simp only [c, if_true]
theorem s64 {i : Int} (h : -1000000 ≤ i) (h2 : i ≤ 1000000) : small64 i = true := by
  unfold DL.small64
  exact decide_eq_true ⟨by omega, by omega⟩
theorem s61 {i : Int} (h : 0 ≤ i) (h2 : i < 2305843009213693951) : small64 i = true := by
  unfold DL.small64
  exact decide_eq_true ⟨by omega, by omega⟩
theorem e_mod {i j : Int} (h : 0 < j) : gMod (.int i) (.int j) = some (.int (i % j)) := by
  unfold gMod gI
  have c : decide (j ≠ 0) = true := decide_eq_true (by omega)
  simp only [c, if_true]
  rw [Int.fmod_eq_emod_of_nonneg _ (by omega)]
theorem e_div {i j : Int} (h : 0 < j) (h2 : j < 1073741824) : gDivA (.int i) (.int j) = some (.int (i / j)) := by
  unfold gDivA gOr gDiv gI
  have c : decide (j ≠ 0 ∧ j.natAbs < 1073741824) = true := decide_eq_true ⟨by omega, by omega⟩
  simp only [c, if_true]
  rw [Int.fdiv_eq_ediv_of_nonneg _ (by omega)]
theorem e_divW {i j : Int} (h : 0 < j) (h2 : j < 2 ^ 64) : gDivA (.int i) (.int j) = some (.int (i / j)) := by
  by_cases c0 : j < 1073741824
  · exact e_div h c0
  · unfold gDivA gOr gDiv gDivW gI
    have c : ¬ decide (j ≠ 0 ∧ j.natAbs < 1073741824) = true := fun z => by have := (of_decide_eq_true z).2; omega
    have l : j.natAbs.log2 < 9000 := Nat.lt_of_lt_of_le (PySem.Flt.log2_lt_of (k := 64) (by omega) (by omega)) (by omega)
    have c2 : decide (0 < j ∧ j.natAbs.log2 < 9000) = true := decide_eq_true ⟨h, l⟩
    simp only [if_neg c, c2, if_true]
theorem e_pow1 : gPow (.int 10) (.int 60) = some (.int (10 ^ 60)) := by
  unfold gPow gI
  have c : decide (0 ≤ (60 : Int) ∧ (Builtin.Int.intBits 10 : Int) * 60 ≤ 2 ^ 27) = true := by decide +kernel
  simp only [c, if_true]
  rfl
theorem e_pow2 : gPow (.int (10 ^ 60)) (.int 10) = some (.int ((10 ^ 60) ^ 10)) := by
  unfold gPow gI
  have c : decide (0 ≤ (10 : Int) ∧ (Builtin.Int.intBits (10 ^ 60) : Int) * 10 ≤ 2 ^ 27) = true := by decide +kernel
  simp only [c, if_true]
  rfl
theorem e_pow3 : gPow (.int 10) (.int 18) = some (.int (10 ^ 18)) := by
  unfold gPow gI
  have c : decide (0 ≤ (18 : Int) ∧ (Builtin.Int.intBits 10 : Int) * 18 ≤ 2 ^ 27) = true := by decide +kernel
  simp only [c, if_true]
  rfl
theorem e_pow4 : gPow (.int 10) (.int 11) = some (.int (10 ^ 11)) := by
  unfold gPow gI
  have c : decide (0 ≤ (11 : Int) ∧ (Builtin.Int.intBits 10 : Int) * 11 ≤ 2 ^ 27) = true := by decide +kernel
  simp only [c, if_true]
  rfl
theorem e_lt (i j : Int) : gLt (.int i) (.int j) = some (.bl (decide (i < j))) := rfl
theorem e_gt (i j : Int) : gGt (.int i) (.int j) = some (.bl (decide (j < i))) := rfl
theorem e_ge (i j : Int) : gGe (.int i) (.int j) = some (.bl (decide (j ≤ i))) := rfl
theorem e_le (i j : Int) : gLeA (.int i) (.int j) = some (.bl (decide (i ≤ j))) := rfl
theorem e_int (i : Int) : gInt [.int i] = some (.int i) := rfl
theorem e_abs (i : Int) : gAbs [.int i] = some (.int (if i < 0 then -i else i)) := rfl
theorem ixN_nat {n j : Nat} (hj : j < n) : ixN n (j : Int) = some j := by
  unfold ixN
  rw [if_pos (by omega), if_pos (by omega)]
  simp
theorem at_nat {α : Type} {xs : List α} {j : Nat} {x : α} (h : xs[j]? = some x) : atI xs (j : Int) = some x := by
  unfold atI
  have hj : j < xs.length := (List.getElem?_eq_some_iff.mp h).1
  rw [ixN_nat hj]
  exact h

/-! ### the roll -/
theorem i0 : ixN 3 0 = some 0 := by decide
theorem i2 : ixN 3 2 = some 2 := by decide
theorem t0 (x y z : D) : atI [x, y, z] 0 = some x := rfl
theorem t1 (x y z : D) : atI [x, y, z] 1 = some y := rfl
theorem t2 (x y z : D) : atI [x, y, z] 2 = some z := rfl
theorem roll (a b c n : Int) (h0 : 0 < n) (h1 : n ≤ 1000000) : ∃ k a' c', 0 ≤ k ∧ k < n ∧ m_law_roll [.ol true [.int a, .int b, .int c], .tr (.int n)] = some (.int k, [.ol true [.int a', .int b, .int c'], .tr (.int n)]) := by
  have hn : n < 1073741824 := by omega
  by_cases ha : 0 < a
  · refine ⟨a % n, a / n, c, Int.emod_nonneg _ (by omega), Int.emod_lt_of_pos _ h0, ?_⟩
    unfold m_law_roll b_law_roll
    simp only [defF, defN, back, fSeq, fNx, fAsg, fOp, fUn, fV, fC, fgN, fgT, fgsC, fgs0, fCB, fCons, fNil, fIfS, fB, fTru, fNot, fAnd, fOr, fAndV, fOrV, fNotV, fIf, fRet, fRetN, fDrop, fPar, fSetO, fIxO, fTup, fLst, fCall, fCallO, fCallS, fChain, fFor, fLc, fiA, fiR1, fIsi, fYes, D.tyN, List.getElem?_cons_zero, List.getElem?_cons_succ, List.set_cons_zero, List.set_cons_succ, List.length_cons, List.length_nil, List.length_set, List.length_append, List.length_replicate, List.cons_append, List.nil_append, List.replicate_succ, List.replicate_zero, List.map_cons, List.map_nil, List.mapIdx_cons, List.mapIdx_nil, Option.getD_some, ite_true, ite_false, if_true, if_false, reduceIte, reduceCtorEq, Nat.reduceAdd, Nat.reduceSub, Nat.reduceLT, Nat.reduceLeDiff, Nat.reduceEqDiff, Nat.zero_add, Nat.zero_lt_succ, Nat.lt_add_one, true_and, and_true, and_self, Bool.not_true, Bool.not_false, Nat.succ_ne_zero, dT, dF, e_add, e_sub, e_lt, e_gt, e_ge, e_le, e_int, e_abs, t0, decide_eq_true ha, e_mod h0, e_div h0 hn, i0]
  · have p1 : (0 : Int) < 2305843009213693951 := by decide
    have p2 : (0 : Int) < 2305843009213693921 := by decide
    have p3 : (0 : Int) < 2305843009213693907 := by decide
    have x1 : small64 1000249 = true := by decide
    have x2 : small64 9437 = true := by decide
    obtain ⟨u, hu⟩ : ∃ u, u = (b + 1000249 * (c + 1)) % 2305843009213693951 := ⟨_, rfl⟩
    have u0 : 0 ≤ u := by rw [hu]; exact Int.emod_nonneg _ (by decide)
    have u1 : u < 2305843009213693951 := by rw [hu]; exact Int.emod_lt_of_pos _ p1
    obtain ⟨v, hv⟩ : ∃ v, v = u * u % 2305843009213693921 := ⟨_, rfl⟩
    have v0 : 0 ≤ v := by rw [hv]; exact Int.emod_nonneg _ (by decide)
    have v1 : v < 2305843009213693921 := by rw [hv]; exact Int.emod_lt_of_pos _ p2
    refine ⟨(v * u + 9437 * (c + 1)) % 2305843009213693907 / 4096 % n, a, c + 1, Int.emod_nonneg _ (by omega), Int.emod_lt_of_pos _ h0, ?_⟩
    unfold m_law_roll b_law_roll
    simp only [defF, defN, back, fSeq, fNx, fAsg, fOp, fUn, fV, fC, fgN, fgT, fgsC, fgs0, fCB, fCons, fNil, fIfS, fB, fTru, fNot, fAnd, fOr, fAndV, fOrV, fNotV, fIf, fRet, fRetN, fDrop, fPar, fSetO, fIxO, fTup, fLst, fCall, fCallO, fCallS, fChain, fFor, fLc, fiA, fiR1, fIsi, fYes, D.tyN, List.getElem?_cons_zero, List.getElem?_cons_succ, List.set_cons_zero, List.set_cons_succ, List.length_cons, List.length_nil, List.length_set, List.length_append, List.length_replicate, List.cons_append, List.nil_append, List.replicate_succ, List.replicate_zero, List.map_cons, List.map_nil, List.mapIdx_cons, List.mapIdx_nil, Option.getD_some, ite_true, ite_false, if_true, if_false, reduceIte, reduceCtorEq, Nat.reduceAdd, Nat.reduceSub, Nat.reduceLT, Nat.reduceLeDiff, Nat.reduceEqDiff, Nat.zero_add, Nat.zero_lt_succ, Nat.lt_add_one, true_and, and_true, and_self, Bool.not_true, Bool.not_false, Nat.succ_ne_zero, dT, dF, e_add, e_sub, e_lt, e_gt, e_ge, e_le, e_int, e_abs, t0, t1, t2, decide_eq_false ha, e_mod h0, e_mod p1, e_mod p2, e_mod p3, i2, e_mul (.inl x1), e_mul (.inl x2), ← hu, e_mul (.inl (s61 u0 u1)), ← hv, e_mul (.inl (s61 v0 (Int.lt_trans v1 (by decide)))), e_div (show (0 : Int) < 4096 by decide) (show (4096 : Int) < 1073741824 by decide)]
/-! ### the dice, one of some -/
theorem pows : ∃ t p q : Int, gPow (.int 10) (.int 60) = some (.int t) ∧ gPow (.int t) (.int 10) = some (.int p) ∧ 0 < p ∧ gPow (.int 10) (.int 18) = some (.int q) ∧ 0 < q ∧ q < 2 ^ 64 :=
  ⟨10 ^ 60, (10 ^ 60) ^ 10, 10 ^ 18, e_pow1, e_pow2, by decide +kernel, e_pow3, by decide +kernel, by decide +kernel⟩
theorem gl_rl (ns : List Int) : gLen [.rl (ns.map D.int)] = some (.int (ns.length : Int)) := by
  have : gLen [.rl (ns.map D.int)] = some (.int ((ns.map D.int).length : Int)) := rfl
  rw [this, List.length_map]
theorem gx_rl (ns : List Int) (k : Nat) (hk : k < ns.length) : gIx (.rl (ns.map D.int)) (.int (k : Int)) = some (.int ns[k]) := by
  have : atI (ns.map D.int) (k : Int) = some (.int ns[k]) := at_nat (by rw [List.getElem?_map, List.getElem?_eq_getElem hk]; rfl)
  unfold gIx gOr gIxT gIxL
  simp only [this]
theorem s3 : DL.small64 97 = true ∧ DL.small64 61291 = true ∧ DL.small64 3517 = true ∧ DL.small64 71 = true ∧ (0 : Int) < 2147482951 ∧ (0 : Int) < 2147482949 := by decide
def dtl : FS := (fSeq (fAsg (fOp gMod (fCB gInt (fCons (fCB gAbs (fCons (fV 2) fNil)) fNil)) (fOp gPow (fOp gPow (fC (.int 10)) (fC (.int 60))) (fC (.int 10)))) (fgN 3))
    (fSeq (fAsg (fOp gDivA (fV 3) (fOp gPow (fC (.int 10)) (fC (.int 18)))) (fgN 4))
    (fSeq (fAsg (fOp gAdd (fOp gAdd (fOp gAdd (fOp gMulA (fOp gMod (fV 3) (fC (.int 2147482951))) (fC (.int 61291))) (fOp gMulA (fC (.int 3517)) (fV 1))) (fOp gMulA (fC (.int 71)) (fCB gInt (fCons (fOp gLt (fV 2) (fC (.int 0))) fNil)))) (fC (.int 83))) (fgN 5))
    (fRetN (fCons (fV 4) (fCons (fOp gMod (fV 5) (fC (.int 2147482949))) (fCons (fC (.int 0)) fNil)))))))
theorem dtl_ok (v k : Int) (sc : D) : ∃ a b as', dtl [.tr sc, .tr (.int k), .tr (.int v), .no, .no, .no] = some (.rn [.int a, .int b, .int 0], as') := by
  obtain ⟨t, p, q, w1, w2, q1, w3, q2, q3⟩ := pows
  obtain ⟨x1, x2, x3, x4, q4, q5⟩ := s3
  have b1 : ∀ b : Bool, gInt [.bl b] = some (.int (if b then 1 else 0)) := fun _ => rfl
  unfold dtl
  simp only [defF, defN, back, fSeq, fNx, fAsg, fOp, fUn, fV, fC, fgN, fgT, fgsC, fgs0, fCB, fCons, fNil, fIfS, fB, fTru, fNot, fAnd, fOr, fAndV, fOrV, fNotV, fIf, fRet, fRetN, fDrop, fPar, fSetO, fIxO, fTup, fLst, fCall, fCallO, fCallS, fChain, fFor, fLc, fiA, fiR1, fIsi, fYes, D.tyN, List.getElem?_cons_zero, List.getElem?_cons_succ, List.set_cons_zero, List.set_cons_succ, List.length_cons, List.length_nil, List.length_set, List.length_append, List.length_replicate, List.cons_append, List.nil_append, List.replicate_succ, List.replicate_zero, List.map_cons, List.map_nil, List.mapIdx_cons, List.mapIdx_nil, Option.getD_some, ite_true, ite_false, if_true, if_false, reduceIte, reduceCtorEq, Nat.reduceAdd, Nat.reduceSub, Nat.reduceLT, Nat.reduceLeDiff, Nat.reduceEqDiff, Nat.zero_add, Nat.zero_lt_succ, Nat.lt_add_one, true_and, and_true, and_self, Bool.not_true, Bool.not_false, Nat.succ_ne_zero, dT, dF, e_add, e_sub, e_lt, e_gt, e_ge, e_le, e_int, e_abs, w1, w2, w3, e_mod q1, e_mod q4, e_mod q5, e_divW q2 q3, e_mul (.inr x2), e_mul (.inl x3), e_mul (.inl x4), b1]
  exact ⟨_, _, _, rfl⟩
def dhd : FS := fAsg (fOp gAdd (fOp gMulA (fC (.int 97)) (fV 1)) (fC (.int 53))) (fgN 2)
def dif : FS := fIfS (fB (fOp gLt (fV 1) (fCB gLen (fCons (fV 0) fNil)))) (fAsg (fOp gIx (fV 0) (fV 1)) (fgN 2)) fNx
theorem b_dice : b_law_dice = fSeq dhd (fSeq dif dtl) := rfl
theorem dhd_ok (k : Int) (sc : D) : dhd [.tr sc, .tr (.int k), .no, .no, .no, .no] = some (.nx, [.tr sc, .tr (.int k), .tr (.int (97 * k + 53)), .no, .no, .no]) := by
  obtain ⟨x1, _⟩ := s3
  unfold dhd
  simp only [defF, defN, back, fSeq, fNx, fAsg, fOp, fUn, fV, fC, fgN, fgT, fgsC, fgs0, fCB, fCons, fNil, fIfS, fB, fTru, fNot, fAnd, fOr, fAndV, fOrV, fNotV, fIf, fRet, fRetN, fDrop, fPar, fSetO, fIxO, fTup, fLst, fCall, fCallO, fCallS, fChain, fFor, fLc, fiA, fiR1, fIsi, fYes, D.tyN, List.getElem?_cons_zero, List.getElem?_cons_succ, List.set_cons_zero, List.set_cons_succ, List.length_cons, List.length_nil, List.length_set, List.length_append, List.length_replicate, List.cons_append, List.nil_append, List.replicate_succ, List.replicate_zero, List.map_cons, List.map_nil, List.mapIdx_cons, List.mapIdx_nil, Option.getD_some, ite_true, ite_false, if_true, if_false, reduceIte, reduceCtorEq, Nat.reduceAdd, Nat.reduceSub, Nat.reduceLT, Nat.reduceLeDiff, Nat.reduceEqDiff, Nat.zero_add, Nat.zero_lt_succ, Nat.lt_add_one, true_and, and_true, and_self, Bool.not_true, Bool.not_false, Nat.succ_ne_zero, dT, dF, e_add, e_sub, e_lt, e_gt, e_ge, e_le, e_int, e_abs, e_mul (.inl x1)]
theorem dif_ok (ns : List Int) (k : Nat) (u : Int) : ∃ v, dif [.tr (.rl (ns.map D.int)), .tr (.int (k : Int)), .tr (.int u), .no, .no, .no] = some (.nx, [.tr (.rl (ns.map D.int)), .tr (.int (k : Int)), .tr (.int v), .no, .no, .no]) := by
  unfold dif
  by_cases h : (k : Int) < (ns.length : Int)
  · have gx := gx_rl ns k (by omega)
    simp only [defF, defN, back, fSeq, fNx, fAsg, fOp, fUn, fV, fC, fgN, fgT, fgsC, fgs0, fCB, fCons, fNil, fIfS, fB, fTru, fNot, fAnd, fOr, fAndV, fOrV, fNotV, fIf, fRet, fRetN, fDrop, fPar, fSetO, fIxO, fTup, fLst, fCall, fCallO, fCallS, fChain, fFor, fLc, fiA, fiR1, fIsi, fYes, D.tyN, List.getElem?_cons_zero, List.getElem?_cons_succ, List.set_cons_zero, List.set_cons_succ, List.length_cons, List.length_nil, List.length_set, List.length_append, List.length_replicate, List.cons_append, List.nil_append, List.replicate_succ, List.replicate_zero, List.map_cons, List.map_nil, List.mapIdx_cons, List.mapIdx_nil, Option.getD_some, ite_true, ite_false, if_true, if_false, reduceIte, reduceCtorEq, Nat.reduceAdd, Nat.reduceSub, Nat.reduceLT, Nat.reduceLeDiff, Nat.reduceEqDiff, Nat.zero_add, Nat.zero_lt_succ, Nat.lt_add_one, true_and, and_true, and_self, Bool.not_true, Bool.not_false, Nat.succ_ne_zero, dT, dF, e_add, e_sub, e_lt, e_gt, e_ge, e_le, e_int, e_abs, gl_rl, decide_eq_true h, gx]
    exact ⟨_, rfl⟩
  · simp only [defF, defN, back, fSeq, fNx, fAsg, fOp, fUn, fV, fC, fgN, fgT, fgsC, fgs0, fCB, fCons, fNil, fIfS, fB, fTru, fNot, fAnd, fOr, fAndV, fOrV, fNotV, fIf, fRet, fRetN, fDrop, fPar, fSetO, fIxO, fTup, fLst, fCall, fCallO, fCallS, fChain, fFor, fLc, fiA, fiR1, fIsi, fYes, D.tyN, List.getElem?_cons_zero, List.getElem?_cons_succ, List.set_cons_zero, List.set_cons_succ, List.length_cons, List.length_nil, List.length_set, List.length_append, List.length_replicate, List.cons_append, List.nil_append, List.replicate_succ, List.replicate_zero, List.map_cons, List.map_nil, List.mapIdx_cons, List.mapIdx_nil, Option.getD_some, ite_true, ite_false, if_true, if_false, reduceIte, reduceCtorEq, Nat.reduceAdd, Nat.reduceSub, Nat.reduceLT, Nat.reduceLeDiff, Nat.reduceEqDiff, Nat.zero_add, Nat.zero_lt_succ, Nat.lt_add_one, true_and, and_true, and_self, Bool.not_true, Bool.not_false, Nat.succ_ne_zero, dT, dF, e_add, e_sub, e_lt, e_gt, e_ge, e_le, e_int, e_abs, gl_rl, decide_eq_false h]
    exact ⟨_, rfl⟩
theorem dice (ns : List Int) (k : Nat) : ∃ a b as', m_law_dice [.tr (.rl (ns.map D.int)), .tr (.int (k : Int))] = some ([.int a, .int b, .int 0], as') := by
  obtain ⟨v, e2⟩ := dif_ok ns k (97 * (k : Int) + 53)
  obtain ⟨a, b, as', e3⟩ := dtl_ok v (k : Int) (.rl (ns.map D.int))
  have e1 := dhd_ok (k : Int) (.rl (ns.map D.int))
  have e0 : ([.tr (.rl (ns.map D.int)), .tr (.int (k : Int))] ++ List.replicate (6 - 2) Sl.no : List Sl) = [.tr (.rl (ns.map D.int)), .tr (.int (k : Int)), .no, .no, .no, .no] := rfl
  unfold m_law_dice
  rw [b_dice]
  unfold defN
  rw [e0]
  simp only [fSeq, e1, e2, e3]
  exact ⟨_, _, _, rfl⟩
theorem one_of (a b c : Int) (xs : List D) (h0 : xs ≠ []) (h1 : xs.length ≤ 1000000) : ∃ x a' c', x ∈ xs ∧ m_law_one_of [.ol true [.int a, .int b, .int c], .tr (.lst xs)] = some (x, [.ol true [.int a', .int b, .int c'], .tr (.lst xs)]) := by
  have hl : 0 < xs.length := List.length_pos_iff.mpr h0
  obtain ⟨k, a', c', k0, k1, e⟩ := roll a b c (xs.length : Int) (by omega) (by omega)
  obtain ⟨j, rfl⟩ : ∃ j : Nat, k = (j : Int) := ⟨k.toNat, by omega⟩
  have hj : j < xs.length := by omega
  have gx : gIx (.lst xs) (.int (j : Int)) = some xs[j] := by
    have : atI xs (j : Int) = some xs[j] := at_nat (List.getElem?_eq_getElem hj)
    unfold gIx gOr gIxT gIxL
    simp only [this]
  have gl : gLen [.lst xs] = some (.int (xs.length : Int)) := rfl
  refine ⟨xs[j], a', c', List.getElem_mem hj, ?_⟩
  unfold m_law_one_of b_law_one_of
  simp only [defF, defN, back, fSeq, fNx, fAsg, fOp, fUn, fV, fC, fgN, fgT, fgsC, fgs0, fCB, fCons, fNil, fIfS, fB, fTru, fNot, fAnd, fOr, fAndV, fOrV, fNotV, fIf, fRet, fRetN, fDrop, fPar, fSetO, fIxO, fTup, fLst, fCall, fCallO, fCallS, fChain, fFor, fLc, fiA, fiR1, fIsi, fYes, D.tyN, List.getElem?_cons_zero, List.getElem?_cons_succ, List.set_cons_zero, List.set_cons_succ, List.length_cons, List.length_nil, List.length_set, List.length_append, List.length_replicate, List.cons_append, List.nil_append, List.replicate_succ, List.replicate_zero, List.map_cons, List.map_nil, List.mapIdx_cons, List.mapIdx_nil, Option.getD_some, ite_true, ite_false, if_true, if_false, reduceIte, reduceCtorEq, Nat.reduceAdd, Nat.reduceSub, Nat.reduceLT, Nat.reduceLeDiff, Nat.reduceEqDiff, Nat.zero_add, Nat.zero_lt_succ, Nat.lt_add_one, true_and, and_true, and_self, Bool.not_true, Bool.not_false, Nat.succ_ne_zero, dT, dF, e_add, e_sub, e_lt, e_gt, e_ge, e_le, e_int, e_abs, gl, e, gx]
theorem drawn (a b c : Int) : ∃ n d a' c', -40 ≤ n ∧ n ≤ 40 ∧ 1 ≤ d ∧ d ≤ 40 ∧ m_law_drawn [.ol true [.int a, .int b, .int c]] = some (.tup [.int n, .int d], [.ol true [.int a', .int b, .int c']]) := by
  obtain ⟨x, a1, c1, hx, e1⟩ := one_of a b c [.int 5, .int 13, .int 40] (by simp) (by simp)
  obtain ⟨g, hg, hgx⟩ : ∃ g : Int, (g = 5 ∨ g = 13 ∨ g = 40) ∧ x = .int g := by
    simp only [List.mem_cons, List.not_mem_nil, or_false] at hx
    rcases hx with h | h | h
    · exact ⟨5, .inl rfl, h⟩
    · exact ⟨13, .inr (.inl rfl), h⟩
    · exact ⟨40, .inr (.inr rfl), h⟩
  subst hgx
  obtain ⟨k, a2, c2, k0, k1, e2⟩ := roll a1 b c1 (2 * g) (by omega) (by omega)
  obtain ⟨l, a3, c3, l0, l1, e3⟩ := roll a2 b c2 g (by omega) (by omega)
  have x1 : small64 2 = true := by decide
  refine ⟨k - g, 1 + l, a3, c3, by omega, by omega, by omega, by omega, ?_⟩
  unfold m_law_drawn b_law_drawn
  simp only [defF, defN, back, fSeq, fNx, fAsg, fOp, fUn, fV, fC, fgN, fgT, fgsC, fgs0, fCB, fCons, fNil, fIfS, fB, fTru, fNot, fAnd, fOr, fAndV, fOrV, fNotV, fIf, fRet, fRetN, fDrop, fPar, fSetO, fIxO, fTup, fLst, fCall, fCallO, fCallS, fChain, fFor, fLc, fiA, fiR1, fIsi, fYes, D.tyN, List.getElem?_cons_zero, List.getElem?_cons_succ, List.set_cons_zero, List.set_cons_succ, List.length_cons, List.length_nil, List.length_set, List.length_append, List.length_replicate, List.cons_append, List.nil_append, List.replicate_succ, List.replicate_zero, List.map_cons, List.map_nil, List.mapIdx_cons, List.mapIdx_nil, Option.getD_some, ite_true, ite_false, if_true, if_false, reduceIte, reduceCtorEq, Nat.reduceAdd, Nat.reduceSub, Nat.reduceLT, Nat.reduceLeDiff, Nat.reduceEqDiff, Nat.zero_add, Nat.zero_lt_succ, Nat.lt_add_one, true_and, and_true, and_self, Bool.not_true, Bool.not_false, Nat.succ_ne_zero, dT, dF, e_add, e_sub, e_lt, e_gt, e_ge, e_le, e_int, e_abs, e1, e2, e3, e_mul (.inl x1), Nat.reduceLeDiff]
/-! ### fractions -/
theorem kb : kitB "int" "int" = some true ∧ kitB "int" "bool" = some false ∧ kitB "bool" "int" = some true ∧ kitB "bool" "bool" = some true ∧ kitB "tuple" "tuple" = some true ∧ kitB "list" "tuple" = some false ∧ kitB "NoneType" "tuple" = some false ∧ kitB "int" "tuple" = some false ∧ kitB "str" "str" = some true ∧
    kitB "tuple" "str" = some false ∧ kitB "NoneType" "str" = some false ∧ kitB "int" "str" = some false ∧ kitB "bool" "str" = some false ∧ kitB "list" "str" = some false ∧ kitB "dict" "str" = some false := by decide +kernel
theorem is_int (i : Int) : m_is_integer [.tr (.int i)] = some (.bl true, [.tr (.int i)]) := by
  obtain ⟨k1, k2, _⟩ := kb
  unfold m_is_integer b_is_integer
  simp only [defF, defN, back, fSeq, fNx, fAsg, fOp, fUn, fV, fC, fgN, fgT, fgsC, fgs0, fCB, fCons, fNil, fIfS, fB, fTru, fNot, fAnd, fOr, fAndV, fOrV, fNotV, fIf, fRet, fRetN, fDrop, fPar, fSetO, fIxO, fTup, fLst, fCall, fCallO, fCallS, fChain, fFor, fLc, fiA, fiR1, fIsi, fYes, D.tyN, List.getElem?_cons_zero, List.getElem?_cons_succ, List.set_cons_zero, List.set_cons_succ, List.length_cons, List.length_nil, List.length_set, List.length_append, List.length_replicate, List.cons_append, List.nil_append, List.replicate_succ, List.replicate_zero, List.map_cons, List.map_nil, List.mapIdx_cons, List.mapIdx_nil, Option.getD_some, ite_true, ite_false, if_true, if_false, reduceIte, reduceCtorEq, Nat.reduceAdd, Nat.reduceSub, Nat.reduceLT, Nat.reduceLeDiff, Nat.reduceEqDiff, Nat.zero_add, Nat.zero_lt_succ, Nat.lt_add_one, true_and, and_true, and_self, Bool.not_true, Bool.not_false, Nat.succ_ne_zero, dT, dF, e_add, e_sub, e_lt, e_gt, e_ge, e_le, e_int, e_abs, k1, k2]
theorem is_int_b (b : Bool) : m_is_integer [.tr (.bl b)] = some (.bl false, [.tr (.bl b)]) := by
  obtain ⟨_, _, k1, k2, _⟩ := kb
  unfold m_is_integer b_is_integer
  simp only [defF, defN, back, fSeq, fNx, fAsg, fOp, fUn, fV, fC, fgN, fgT, fgsC, fgs0, fCB, fCons, fNil, fIfS, fB, fTru, fNot, fAnd, fOr, fAndV, fOrV, fNotV, fIf, fRet, fRetN, fDrop, fPar, fSetO, fIxO, fTup, fLst, fCall, fCallO, fCallS, fChain, fFor, fLc, fiA, fiR1, fIsi, fYes, D.tyN, List.getElem?_cons_zero, List.getElem?_cons_succ, List.set_cons_zero, List.set_cons_succ, List.length_cons, List.length_nil, List.length_set, List.length_append, List.length_replicate, List.cons_append, List.nil_append, List.replicate_succ, List.replicate_zero, List.map_cons, List.map_nil, List.mapIdx_cons, List.mapIdx_nil, Option.getD_some, ite_true, ite_false, if_true, if_false, reduceIte, reduceCtorEq, Nat.reduceAdd, Nat.reduceSub, Nat.reduceLT, Nat.reduceLeDiff, Nat.reduceEqDiff, Nat.zero_add, Nat.zero_lt_succ, Nat.lt_add_one, true_and, and_true, and_self, Bool.not_true, Bool.not_false, Nat.succ_ne_zero, dT, dF, e_add, e_sub, e_lt, e_gt, e_ge, e_le, e_int, e_abs, k1, k2]
def gc (n d : Int) : Int := ((Nat.gcd n.natAbs d.natAbs : Nat) : Int)
theorem gc_pos {n d : Int} (h : 0 < d) : 0 < gc n d := by
  have : 0 < Nat.gcd n.natAbs d.natAbs := Nat.gcd_pos_of_pos_right _ (by omega)
  unfold gc; omega
theorem gc_le {n d : Int} (h : 0 < d) : gc n d ≤ d := by
  have : Nat.gcd n.natAbs d.natAbs ≤ d.natAbs := Nat.gcd_le_right _ (by omega)
  unfold gc; omega
theorem gcd_e (n d : Int) : gGcd [.int n, .int d] = some (.int (gc n d)) := rfl
theorem fraction {n d : Int} (h : 0 < d) (h2 : d < 2 ^ 64) : ∃ as', m_fraction [.tr (.int n), .tr (.int d)] = some (.tup [.int (n / gc n d), .int (d / gc n d)], as') := by
  have g0 := gc_pos (n := n) h
  have g1 := gc_le (n := n) h
  have c : ¬ d < 1 := by omega
  unfold m_fraction b_fraction
  simp only [defF, defN, back, fSeq, fNx, fAsg, fOp, fUn, fV, fC, fgN, fgT, fgsC, fgs0, fCB, fCons, fNil, fIfS, fB, fTru, fNot, fAnd, fOr, fAndV, fOrV, fNotV, fIf, fRet, fRetN, fDrop, fPar, fSetO, fIxO, fTup, fLst, fCall, fCallO, fCallS, fChain, fFor, fLc, fiA, fiR1, fIsi, fYes, D.tyN, List.getElem?_cons_zero, List.getElem?_cons_succ, List.set_cons_zero, List.set_cons_succ, List.length_cons, List.length_nil, List.length_set, List.length_append, List.length_replicate, List.cons_append, List.nil_append, List.replicate_succ, List.replicate_zero, List.map_cons, List.map_nil, List.mapIdx_cons, List.mapIdx_nil, Option.getD_some, ite_true, ite_false, if_true, if_false, reduceIte, reduceCtorEq, Nat.reduceAdd, Nat.reduceSub, Nat.reduceLT, Nat.reduceLeDiff, Nat.reduceEqDiff, Nat.zero_add, Nat.zero_lt_succ, Nat.lt_add_one, true_and, and_true, and_self, Bool.not_true, Bool.not_false, Nat.succ_ne_zero, dT, dF, e_add, e_sub, e_lt, e_gt, e_ge, e_le, e_int, e_abs, is_int, loopF, decide_eq_false c, gcd_e, e_divW g0 (Int.lt_of_le_of_lt g1 h2), Nat.reduceLeDiff]
  exact ⟨_, rfl⟩
end K01
namespace K01
open PySem L2 DL
/-! ### Euclid -/
theorem gc_step {o t : Int} (h0 : 0 ≤ o) (h1 : 0 < t) : gc t (o % t) = gc o t := by
  obtain ⟨a, rfl⟩ : ∃ a : Nat, o = (a : Int) := ⟨o.toNat, by omega⟩
  obtain ⟨b, rfl⟩ : ∃ b : Nat, t = (b : Int) := ⟨t.toNat, by omega⟩
  have e : ((a : Int) % (b : Int)).natAbs = a % b := by
    rw [← Int.natCast_emod, Int.natAbs_natCast]
  unfold gc
  rw [e, Int.natAbs_natCast, Int.natAbs_natCast, Nat.gcd_comm b (a % b), ← Nat.gcd_rec, Nat.gcd_comm]
theorem gc_zero {o : Int} (h0 : 0 ≤ o) : gc o 0 = o := by
  unfold gc
  rw [Int.natAbs_zero, Nat.gcd_zero_right]
  omega
theorem gc_abs (n d : Int) : gc (if n < 0 then -n else n) d = gc n d := by
  have : (if n < 0 then -n else n).natAbs = n.natAbs := by split <;> omega
  unfold gc
  rw [this]
theorem euclid (n d : Int) : ∀ (f : Nat) (o t : Int), 0 ≤ o → 0 ≤ t → t < f → whileF (fB (fOp gGt (fV 3) (fC (.int 0)))) (fPar 2 3 (fCons (fV 3) (fCons (fOp gMod (fCB gInt (fCons (fV 2) fNil)) (fV 3)) fNil))) f [.tr (.int n), .tr (.int d), .tr (.int o), .tr (.int t)] =
    some (.nx, [.tr (.int n), .tr (.int d), .tr (.int (gc o t)), .tr (.int 0)])
  | 0, o, t, _, h, h2 => by omega
  | f + 1, o, t, h0, h1, h2 => by
    simp only [whileF]
    by_cases c : 0 < t
    · simp only [defF, defN, back, fSeq, fNx, fAsg, fOp, fUn, fV, fC, fgN, fgT, fgsC, fgs0, fCB, fCons, fNil, fIfS, fB, fTru, fNot, fAnd, fOr, fAndV, fOrV, fNotV, fIf, fRet, fRetN, fDrop, fPar, fSetO, fIxO, fTup, fLst, fCall, fCallO, fCallS, fChain, fFor, fLc, fiA, fiR1, fIsi, fYes, D.tyN, List.getElem?_cons_zero, List.getElem?_cons_succ, List.set_cons_zero, List.set_cons_succ, List.length_cons, List.length_nil, List.length_set, List.length_append, List.length_replicate, List.cons_append, List.nil_append, List.replicate_succ, List.replicate_zero, List.map_cons, List.map_nil, List.mapIdx_cons, List.mapIdx_nil, Option.getD_some, ite_true, ite_false, if_true, if_false, reduceIte, reduceCtorEq, Nat.reduceAdd, Nat.reduceSub, Nat.reduceLT, Nat.reduceLeDiff, Nat.reduceEqDiff, Nat.zero_add, Nat.zero_lt_succ, Nat.lt_add_one, true_and, and_true, and_self, Bool.not_true, Bool.not_false, Nat.succ_ne_zero, dT, dF, e_add, e_sub, e_lt, e_gt, e_ge, e_le, e_int, e_abs, decide_eq_true c, e_mod c]
      rw [euclid n d f t (o % t) (by omega) (Int.emod_nonneg _ (by omega)) (by have := Int.emod_lt_of_pos o c; omega), gc_step h0 c]
    · have z : t = 0 := by omega
      subst z
      simp only [defF, defN, back, fSeq, fNx, fAsg, fOp, fUn, fV, fC, fgN, fgT, fgsC, fgs0, fCB, fCons, fNil, fIfS, fB, fTru, fNot, fAnd, fOr, fAndV, fOrV, fNotV, fIf, fRet, fRetN, fDrop, fPar, fSetO, fIxO, fTup, fLst, fCall, fCallO, fCallS, fChain, fFor, fLc, fiA, fiR1, fIsi, fYes, D.tyN, List.getElem?_cons_zero, List.getElem?_cons_succ, List.set_cons_zero, List.set_cons_succ, List.length_cons, List.length_nil, List.length_set, List.length_append, List.length_replicate, List.cons_append, List.nil_append, List.replicate_succ, List.replicate_zero, List.map_cons, List.map_nil, List.mapIdx_cons, List.mapIdx_nil, Option.getD_some, ite_true, ite_false, if_true, if_false, reduceIte, reduceCtorEq, Nat.reduceAdd, Nat.reduceSub, Nat.reduceLT, Nat.reduceLeDiff, Nat.reduceEqDiff, Nat.zero_add, Nat.zero_lt_succ, Nat.lt_add_one, true_and, and_true, and_self, Bool.not_true, Bool.not_false, Nat.succ_ne_zero, dT, dF, e_add, e_sub, e_lt, e_gt, e_ge, e_le, e_int, e_abs, decide_eq_false c]
      rw [gc_zero h0]
theorem lowest {n d : Int} (h : 0 < d) (h2 : d ≤ 50) : ∃ as', m_law_lowest [.tr (.int n), .tr (.int d)] = some (.tup [.int (n / gc n d), .int (d / gc n d)], as') := by
  have g0 := gc_pos (n := n) h
  have g1 := gc_le (n := n) h
  have eu := euclid n d 60 (if n < 0 then -n else n) d (by split <;> omega) (by omega) (by omega)
  rw [gc_abs] at eu
  unfold m_law_lowest b_law_lowest
  simp only [defF, defN, back, fSeq, fNx, fAsg, fOp, fUn, fV, fC, fgN, fgT, fgsC, fgs0, fCB, fCons, fNil, fIfS, fB, fTru, fNot, fAnd, fOr, fAndV, fOrV, fNotV, fIf, fRet, fRetN, fDrop, fPar, fSetO, fIxO, fTup, fLst, fCall, fCallO, fCallS, fChain, fFor, fLc, fiA, fiR1, fIsi, fYes, D.tyN, List.getElem?_cons_zero, List.getElem?_cons_succ, List.set_cons_zero, List.set_cons_succ, List.length_cons, List.length_nil, List.length_set, List.length_append, List.length_replicate, List.cons_append, List.nil_append, List.replicate_succ, List.replicate_zero, List.map_cons, List.map_nil, List.mapIdx_cons, List.mapIdx_nil, Option.getD_some, ite_true, ite_false, if_true, if_false, reduceIte, reduceCtorEq, Nat.reduceAdd, Nat.reduceSub, Nat.reduceLT, Nat.reduceLeDiff, Nat.reduceEqDiff, Nat.zero_add, Nat.zero_lt_succ, Nat.lt_add_one, true_and, and_true, and_self, Bool.not_true, Bool.not_false, Nat.succ_ne_zero, dT, dF, e_add, e_sub, e_lt, e_gt, e_ge, e_le, e_int, e_abs, eu, e_div g0 (by omega : gc n d < 1073741824)]
  exact ⟨_, rfl⟩
/-! ### less, is_lowest -/
theorem ix0 (x y : D) : gIx (.tup [x, y]) (.int 0) = some x := rfl
theorem ix1 (x y : D) : gIx (.tup [x, y]) (.int 1) = some y := rfl
abbrev F (p : Int × Int) : D := .tup [.int p.1, .int p.2]
def ls (p q : Int × Int) : Bool := decide (p.1 * q.2 < q.1 * p.2)
def Sm (p : Int × Int) : Prop := -1000 ≤ p.1 ∧ p.1 ≤ 1000 ∧ 0 < p.2 ∧ p.2 ≤ 1000
theorem less {p q : Int × Int} (hp : Sm p) (hq : Sm q) : ∃ as', m_law_less [.tr (F p), .tr (F q)] = some (.bl (ls p q), as') := by
  have a1 : DL.small64 p.1 = true := s64 (by have := hp.1; omega) (by have := hp.2.1; omega)
  have a2 : DL.small64 q.1 = true := s64 (by have := hq.1; omega) (by have := hq.2.1; omega)
  unfold m_law_less b_law_less
  simp only [defF, defN, back, fSeq, fNx, fAsg, fOp, fUn, fV, fC, fgN, fgT, fgsC, fgs0, fCB, fCons, fNil, fIfS, fB, fTru, fNot, fAnd, fOr, fAndV, fOrV, fNotV, fIf, fRet, fRetN, fDrop, fPar, fSetO, fIxO, fTup, fLst, fCall, fCallO, fCallS, fChain, fFor, fLc, fiA, fiR1, fIsi, fYes, D.tyN, List.getElem?_cons_zero, List.getElem?_cons_succ, List.set_cons_zero, List.set_cons_succ, List.length_cons, List.length_nil, List.length_set, List.length_append, List.length_replicate, List.cons_append, List.nil_append, List.replicate_succ, List.replicate_zero, List.map_cons, List.map_nil, List.mapIdx_cons, List.mapIdx_nil, Option.getD_some, ite_true, ite_false, if_true, if_false, reduceIte, reduceCtorEq, Nat.reduceAdd, Nat.reduceSub, Nat.reduceLT, Nat.reduceLeDiff, Nat.reduceEqDiff, Nat.zero_add, Nat.zero_lt_succ, Nat.lt_add_one, true_and, and_true, and_self, Bool.not_true, Bool.not_false, Nat.succ_ne_zero, dT, dF, e_add, e_sub, e_lt, e_gt, e_ge, e_le, e_int, e_abs, ix0, ix1, e_mul (.inl a1), e_mul (.inl a2)]
  exact ⟨_, rfl⟩
theorem e_eqi (i j : Int) : gEqD (.int i) (.int j) = some (.bl (decide (i = j))) := by
  have : gEqD (.int i) (.int j) = some (.bl (i == j)) := rfl
  rw [this]
  by_cases h : i = j
  · rw [decide_eq_true h, beq_iff_eq.mpr h]
  · rw [decide_eq_false h]
    have : (i == j) = false := by simpa using h
    rw [this]
theorem lc_pure {fg : D → Sd → Option Sd} {ft : FT} {fe : FE} {vs : List Nat} {s : Sd} (P : D → Bool) (E : D → D) : ∀ ds : List D, (∀ d ∈ ds, ∃ s1, fg d s = some s1 ∧ ft s1 = some (P d, s1) ∧ (P d = true → fe s1 = some (E d, s1)) ∧ nol s1 vs = true ∧ clr s1 vs = s) →
    lcF fg ft fe vs ds s = some ((ds.filter P).map E, s)
  | [], _ => rfl
  | d :: r, h => by
    obtain ⟨s1, e1, e2, e3, e4, e5⟩ := h d List.mem_cons_self
    have ih := lc_pure P E r fun x hx => h x (List.mem_cons_of_mem _ hx)
    simp only [lcF, e1, e2]
    cases c : P d with
    | false =>
      simp only [e4, if_true, e5, ih]
      rw [List.filter_cons_of_neg (by rw [c]; exact Bool.false_ne_true)]
    | true =>
      simp only [e3 c, e4, if_true, e5, ih]
      rw [List.filter_cons_of_pos c]
      rfl
theorem pys_ints : ∀ ds : List D, (∀ d ∈ ds, ∃ i, d = .int i) → PyData.canLayAll0 (D.pys ds) = true ∧ PyData.depthAll (D.pys ds) = 0
  | [], _ => ⟨rfl, rfl⟩
  | d :: r, h => by
    obtain ⟨i, rfl⟩ := h d List.mem_cons_self
    obtain ⟨h1, h2⟩ := pys_ints r fun x hx => h x (List.mem_cons_of_mem _ hx)
    constructor
    · show (PyData.canLay0 (.int i) && PyData.canLayAll0 (D.pys r)) = true
      rw [h1]; rfl
    · show max (PyData.depth (.int i)) (PyData.depthAll (D.pys r)) = 0
      rw [h2]; rfl
theorem eq_nil {ds : List D} (h : ∀ d ∈ ds, ∃ i, d = .int i) : gEqD (.lst ds) (.lst []) = some (.bl ds.isEmpty) := by
  obtain ⟨h1, h2⟩ := pys_ints ds h
  have c1 : SeqAt.shaped (D.lst ds).py = true := by
    unfold SeqAt.shaped
    have e1 : (D.lst ds).py.canLay0 = true := by
      show PyData.canLay0 (.list (D.pys ds)) = true
      exact h1
    have e2 : (D.lst ds).py.depth = 1 := by
      show PyData.depthAll (D.pys ds) + 1 = 1
      rw [h2]
    rw [e1, e2]; rfl
  have c2 : SeqAt.shaped (D.lst []).py = true := rfl
  have e : PyData.eqv (D.lst ds).py (D.lst []).py = ds.isEmpty := by
    cases ds with
    | nil => rfl
    | cons x r => rfl
  unfold gEqD
  rw [c1, c2, e]
  rfl
/-- what divides both -/
def dv (n d : Int) : D → Bool
  | .int b => decide (n % b = 0) && decide (d % b = 0)
  | _ => false
theorem dv_none {n d : Int} (h3 : 0 < d) : ((rngD 2 ((if n < 0 then -n else n) + d + 1 - 2).toNat).filter (dv n d)).isEmpty = decide (gc n d = 1) := by
  have g0 := gc_pos (n := n) h3
  have g1 := gc_le (n := n) h3
  have gn : gc n d ∣ n := by
    unfold gc
    exact Int.ofNat_dvd_left.mpr (Nat.gcd_dvd_left _ _)
  have gd : gc n d ∣ d := by
    unfold gc
    exact Int.ofNat_dvd_left.mpr (Nat.gcd_dvd_right _ _)
  by_cases c : gc n d = 1
  · rw [decide_eq_true c, List.isEmpty_iff, List.filter_eq_nil_iff]
    intro x hx
    unfold rngD at hx
    obtain ⟨i, hi, rfl⟩ := List.mem_map.mp hx
    intro hd
    have hd : (decide (n % (2 + (i : Int)) = 0) && decide (d % (2 + (i : Int)) = 0)) = true := hd
    rw [Bool.and_eq_true] at hd
    have d1 := Int.dvd_of_emod_eq_zero (of_decide_eq_true hd.1)
    have d2 := Int.dvd_of_emod_eq_zero (of_decide_eq_true hd.2)
    have ec : (2 + (i : Int)) = ((2 + i : Nat) : Int) := by omega
    rw [ec] at d1 d2
    have d3 : (2 + i : Nat) ∣ Nat.gcd n.natAbs d.natAbs := Nat.dvd_gcd (Int.ofNat_dvd_left.mp d1) (Int.ofNat_dvd_left.mp d2)
    have e : Nat.gcd n.natAbs d.natAbs = 1 := by unfold gc at c; omega
    rw [e] at d3
    have := Nat.le_of_dvd (by decide) d3
    omega
  · rw [decide_eq_false c]
    have hm : D.int (gc n d) ∈ rngD 2 ((if n < 0 then -n else n) + d + 1 - 2).toNat := by
      unfold rngD
      refine List.mem_map.mpr ⟨(gc n d - 2).toNat, List.mem_range.mpr (by split <;> omega), ?_⟩
      congr 1
      omega
    have hf : D.int (gc n d) ∈ (rngD 2 ((if n < 0 then -n else n) + d + 1 - 2).toNat).filter (dv n d) := by
      rw [List.mem_filter]
      refine ⟨hm, ?_⟩
      show (decide (n % gc n d = 0) && decide (d % gc n d = 0)) = true
      rw [decide_eq_true (Int.emod_eq_zero_of_dvd gn), decide_eq_true (Int.emod_eq_zero_of_dvd gd)]
      rfl
    cases e : (rngD 2 ((if n < 0 then -n else n) + d + 1 - 2).toNat).filter (dv n d) with
    | nil => rw [e] at hf; cases hf
    | cons x r => rfl
theorem is_lowest {p : Int × Int} (hp : Sm p) : ∃ as', m_law_is_lowest [.tr (F p)] = some (.bl (decide (gc p.1 p.2 = 1)), as') := by
  obtain ⟨n, d⟩ := p
  obtain ⟨h1, h2, h3, h4⟩ := hp
  simp only at h1 h2 h3 h4
  obtain ⟨j, hj⟩ : ∃ j, j = (if n < 0 then -n else n) + d + 1 := ⟨_, rfl⟩
  have cnd : -(2 ^ 62) ≤ (2 : Int) ∧ (2 : Int) < 2 ^ 62 ∧ -(2 ^ 62) ≤ j ∧ j < 2 ^ 62 ∧ (j - 2).toNat ≤ 2 ^ 24 := by
    rw [hj]; split <;> omega
  obtain ⟨ds, hds⟩ : ∃ ds, ds = rngD 2 (j - 2).toNat := ⟨_, rfl⟩
  have hlen : ds.length ≤ 100000 := by
    rw [hds, rngD_length, hj]; split <;> omega
  have hint : ∀ x ∈ ds, ∃ i : Int, 2 ≤ i ∧ x = .int i := fun x hx => by
    rw [hds] at hx
    unfold rngD at hx
    obtain ⟨i, hi, rfl⟩ := List.mem_map.mp hx
    exact ⟨2 + (i : Int), by omega, rfl⟩
  have lst : fLstRg (fC (.int 2)) (fOp gAdd (fOp gAdd (fCB gAbs (fCons (fV 1) fNil)) (fV 2)) (fC (.int 1))) [.tr (F (n, d)), .tr (.int n), .tr (.int d), .no, .no] = some (.lst ds, [.tr (F (n, d)), .tr (.int n), .tr (.int d), .no, .no]) := by
    unfold fLstRg
    simp only [defF, defN, back, fSeq, fNx, fAsg, fOp, fUn, fV, fC, fgN, fgT, fgsC, fgs0, fCB, fCons, fNil, fIfS, fB, fTru, fNot, fAnd, fOr, fAndV, fOrV, fNotV, fIf, fRet, fRetN, fDrop, fPar, fSetO, fIxO, fTup, fLst, fCall, fCallO, fCallS, fChain, fFor, fLc, fiA, fiR1, fIsi, fYes, D.tyN, List.getElem?_cons_zero, List.getElem?_cons_succ, List.set_cons_zero, List.set_cons_succ, List.length_cons, List.length_nil, List.length_set, List.length_append, List.length_replicate, List.cons_append, List.nil_append, List.replicate_succ, List.replicate_zero, List.map_cons, List.map_nil, List.mapIdx_cons, List.mapIdx_nil, Option.getD_some, ite_true, ite_false, if_true, if_false, reduceIte, reduceCtorEq, Nat.reduceAdd, Nat.reduceSub, Nat.reduceLT, Nat.reduceLeDiff, Nat.reduceEqDiff, Nat.zero_add, Nat.zero_lt_succ, Nat.lt_add_one, true_and, and_true, and_self, Bool.not_true, Bool.not_false, Nat.succ_ne_zero, dT, dF, e_add, e_sub, e_lt, e_gt, e_ge, e_le, e_int, e_abs, ← hj, if_pos cnd]
    rw [hds]
  have fl := lc_pure (fg := fgN 4) (ft := fAnd (fB (fOp gEqD (fOp gMod (fV 1) (fV 4)) (fC (.int 0)))) (fB (fOp gEqD (fOp gMod (fV 2) (fV 4)) (fC (.int 0))))) (fe := fV 4) (vs := [4]) (s := [.tr (F (n, d)), .tr (.int n), .tr (.int d), .tr (.lst ds), .no]) (dv n d) id ds (fun x hx => by
    obtain ⟨i, hi, rfl⟩ := hint x hx
    refine ⟨[.tr (F (n, d)), .tr (.int n), .tr (.int d), .tr (.lst ds), .tr (.int i)], rfl, ?_, fun _ => rfl, rfl, rfl⟩
    show _ = some (decide (n % i = 0) && decide (d % i = 0), _)
    simp only [defF, defN, back, fSeq, fNx, fAsg, fOp, fUn, fV, fC, fgN, fgT, fgsC, fgs0, fCB, fCons, fNil, fIfS, fB, fTru, fNot, fAnd, fOr, fAndV, fOrV, fNotV, fIf, fRet, fRetN, fDrop, fPar, fSetO, fIxO, fTup, fLst, fCall, fCallO, fCallS, fChain, fFor, fLc, fiA, fiR1, fIsi, fYes, D.tyN, List.getElem?_cons_zero, List.getElem?_cons_succ, List.set_cons_zero, List.set_cons_succ, List.length_cons, List.length_nil, List.length_set, List.length_append, List.length_replicate, List.cons_append, List.nil_append, List.replicate_succ, List.replicate_zero, List.map_cons, List.map_nil, List.mapIdx_cons, List.mapIdx_nil, Option.getD_some, ite_true, ite_false, if_true, if_false, reduceIte, reduceCtorEq, Nat.reduceAdd, Nat.reduceSub, Nat.reduceLT, Nat.reduceLeDiff, Nat.reduceEqDiff, Nat.zero_add, Nat.zero_lt_succ, Nat.lt_add_one, true_and, and_true, and_self, Bool.not_true, Bool.not_false, Nat.succ_ne_zero, dT, dF, e_add, e_sub, e_lt, e_gt, e_ge, e_le, e_int, e_abs, e_mod (show 0 < i by omega), e_eqi]
    cases decide (n % i = 0) with
    | true =>
      simp only [defF, defN, back, fSeq, fNx, fAsg, fOp, fUn, fV, fC, fgN, fgT, fgsC, fgs0, fCB, fCons, fNil, fIfS, fB, fTru, fNot, fAnd, fOr, fAndV, fOrV, fNotV, fIf, fRet, fRetN, fDrop, fPar, fSetO, fIxO, fTup, fLst, fCall, fCallO, fCallS, fChain, fFor, fLc, fiA, fiR1, fIsi, fYes, D.tyN, List.getElem?_cons_zero, List.getElem?_cons_succ, List.set_cons_zero, List.set_cons_succ, List.length_cons, List.length_nil, List.length_set, List.length_append, List.length_replicate, List.cons_append, List.nil_append, List.replicate_succ, List.replicate_zero, List.map_cons, List.map_nil, List.mapIdx_cons, List.mapIdx_nil, Option.getD_some, ite_true, ite_false, if_true, if_false, reduceIte, reduceCtorEq, Nat.reduceAdd, Nat.reduceSub, Nat.reduceLT, Nat.reduceLeDiff, Nat.reduceEqDiff, Nat.zero_add, Nat.zero_lt_succ, Nat.lt_add_one, true_and, and_true, and_self, Bool.not_true, Bool.not_false, Nat.succ_ne_zero, dT, dF, e_add, e_sub, e_lt, e_gt, e_ge, e_le, e_int, e_abs, e_mod (show 0 < i by omega), e_eqi]
      rfl
    | false => rfl)
  rw [List.map_id] at fl
  have en : gEqD (.lst (ds.filter (dv n d))) (.lst []) = some (.bl (decide (gc n d = 1))) := by
    rw [eq_nil fun x hx => by obtain ⟨i, _, e⟩ := hint x ((List.mem_filter.mp hx).1); exact ⟨i, e⟩, hds, hj, dv_none h3]
  have nl : nol [.tr (F (n, d)), .tr (.int n), .tr (.int d), .tr (.lst ds), .no] [4] = true := rfl
  have cl : clr [.tr (F (n, d)), .tr (.int n), .tr (.int d), .tr (.lst ds), .no] [4] = [.tr (F (n, d)), .tr (.int n), .tr (.int d), .tr (.lst ds), .no] := rfl
  have rs : rst [.tr (F (n, d)), .tr (.int n), .tr (.int d), .tr (.lst ds), .no] [.tr (F (n, d)), .tr (.int n), .tr (.int d), .tr (.lst ds), .no] [4] = [.tr (F (n, d)), .tr (.int n), .tr (.int d), .tr (.lst ds), .no] := rfl
  unfold m_law_is_lowest b_law_is_lowest
  simp only [defF, defN, back, fSeq, fNx, fAsg, fOp, fUn, fV, fC, fgN, fgT, fgsC, fgs0, fCB, fCons, fNil, fIfS, fB, fTru, fNot, fAnd, fOr, fAndV, fOrV, fNotV, fIf, fRet, fRetN, fDrop, fPar, fSetO, fIxO, fTup, fLst, fCall, fCallO, fCallS, fChain, fFor, fLc, fiA, fiR1, fIsi, fYes, D.tyN, List.getElem?_cons_zero, List.getElem?_cons_succ, List.set_cons_zero, List.set_cons_succ, List.length_cons, List.length_nil, List.length_set, List.length_append, List.length_replicate, List.cons_append, List.nil_append, List.replicate_succ, List.replicate_zero, List.map_cons, List.map_nil, List.mapIdx_cons, List.mapIdx_nil, Option.getD_some, ite_true, ite_false, if_true, if_false, reduceIte, reduceCtorEq, Nat.reduceAdd, Nat.reduceSub, Nat.reduceLT, Nat.reduceLeDiff, Nat.reduceEqDiff, Nat.zero_add, Nat.zero_lt_succ, Nat.lt_add_one, true_and, and_true, and_self, Bool.not_true, Bool.not_false, Nat.succ_ne_zero, dT, dF, e_add, e_sub, e_lt, e_gt, e_ge, e_le, e_int, e_abs, ix0, ix1, lst, decide_eq_true h3, nl, cl, rs, fl, hlen, en, Nat.reduceLeDiff]
  exact ⟨_, rfl⟩
end K01
namespace K01
open PySem L2 DL
theorem e_nei (i j : Int) : gNeD (.int i) (.int j) = some (.bl (!decide (i = j))) := by
  have : gNeD (.int i) (.int j) = some (.bl (!(i == j))) := rfl
  rw [this]
  by_cases h : i = j
  · rw [decide_eq_true h, beq_iff_eq.mpr h]
  · rw [decide_eq_false h]
    have : (i == j) = false := by simpa using h
    rw [this]
theorem gl2 (x y : D) : gLen [.tup [x, y]] = some (.int 2) := rfl
theorem gl3 (x y z : D) : gLen [.tup [x, y, z]] = some (.int 3) := rfl
theorem dec22 : decide ((2 : Int) = 2) = true := rfl
theorem dec32 : decide ((3 : Int) = 2) = false := rfl
/-! ### is_fraction, is_lower, greatest -/
theorem is_frac (n d : Int) : ∃ as', m_is_fraction [.tr (.tup [.int n, .int d])] = some (.bl (decide (1 ≤ d) && decide (gc n d = 1)), as') := by
  have k := kb.2.2.2.2.1
  unfold m_is_fraction b_is_fraction
  by_cases c : 1 ≤ d
  · rw [decide_eq_true c]
    simp only [defF, defN, back, fSeq, fNx, fAsg, fOp, fUn, fV, fC, fgN, fgT, fgsC, fgs0, fCB, fCons, fNil, fIfS, fB, fTru, fNot, fAnd, fOr, fAndV, fOrV, fNotV, fIf, fRet, fRetN, fDrop, fPar, fSetO, fIxO, fTup, fLst, fCall, fCallO, fCallS, fChain, fFor, fLc, fiA, fiR1, fIsi, fYes, D.tyN, List.getElem?_cons_zero, List.getElem?_cons_succ, List.set_cons_zero, List.set_cons_succ, List.length_cons, List.length_nil, List.length_set, List.length_append, List.length_replicate, List.cons_append, List.nil_append, List.replicate_succ, List.replicate_zero, List.map_cons, List.map_nil, List.mapIdx_cons, List.mapIdx_nil, Option.getD_some, ite_true, ite_false, if_true, if_false, reduceIte, reduceCtorEq, Nat.reduceAdd, Nat.reduceSub, Nat.reduceLT, Nat.reduceLeDiff, Nat.reduceEqDiff, Nat.zero_add, Nat.zero_lt_succ, Nat.lt_add_one, true_and, and_true, and_self, Bool.not_true, Bool.not_false, Nat.succ_ne_zero, dT, dF, e_add, e_sub, e_lt, e_gt, e_ge, e_le, e_int, e_abs, k, gl2, e_nei, dec22, ix0, ix1, is_int, decide_eq_true c, gcd_e, e_eqi]
    exact ⟨_, rfl⟩
  · rw [decide_eq_false c]
    simp only [defF, defN, back, fSeq, fNx, fAsg, fOp, fUn, fV, fC, fgN, fgT, fgsC, fgs0, fCB, fCons, fNil, fIfS, fB, fTru, fNot, fAnd, fOr, fAndV, fOrV, fNotV, fIf, fRet, fRetN, fDrop, fPar, fSetO, fIxO, fTup, fLst, fCall, fCallO, fCallS, fChain, fFor, fLc, fiA, fiR1, fIsi, fYes, D.tyN, List.getElem?_cons_zero, List.getElem?_cons_succ, List.set_cons_zero, List.set_cons_succ, List.length_cons, List.length_nil, List.length_set, List.length_append, List.length_replicate, List.cons_append, List.nil_append, List.replicate_succ, List.replicate_zero, List.map_cons, List.map_nil, List.mapIdx_cons, List.mapIdx_nil, Option.getD_some, ite_true, ite_false, if_true, if_false, reduceIte, reduceCtorEq, Nat.reduceAdd, Nat.reduceSub, Nat.reduceLT, Nat.reduceLeDiff, Nat.reduceEqDiff, Nat.zero_add, Nat.zero_lt_succ, Nat.lt_add_one, true_and, and_true, and_self, Bool.not_true, Bool.not_false, Nat.succ_ne_zero, dT, dF, e_add, e_sub, e_lt, e_gt, e_ge, e_le, e_int, e_abs, k, gl2, e_nei, dec22, ix0, ix1, is_int, decide_eq_false c]
    exact ⟨_, rfl⟩
theorem is_frac3 (x y z : D) : ∃ as', m_is_fraction [.tr (.tup [x, y, z])] = some (.bl false, as') := by
  have k := kb.2.2.2.2.1
  unfold m_is_fraction b_is_fraction
  simp only [defF, defN, back, fSeq, fNx, fAsg, fOp, fUn, fV, fC, fgN, fgT, fgsC, fgs0, fCB, fCons, fNil, fIfS, fB, fTru, fNot, fAnd, fOr, fAndV, fOrV, fNotV, fIf, fRet, fRetN, fDrop, fPar, fSetO, fIxO, fTup, fLst, fCall, fCallO, fCallS, fChain, fFor, fLc, fiA, fiR1, fIsi, fYes, D.tyN, List.getElem?_cons_zero, List.getElem?_cons_succ, List.set_cons_zero, List.set_cons_succ, List.length_cons, List.length_nil, List.length_set, List.length_append, List.length_replicate, List.cons_append, List.nil_append, List.replicate_succ, List.replicate_zero, List.map_cons, List.map_nil, List.mapIdx_cons, List.mapIdx_nil, Option.getD_some, ite_true, ite_false, if_true, if_false, reduceIte, reduceCtorEq, Nat.reduceAdd, Nat.reduceSub, Nat.reduceLT, Nat.reduceLeDiff, Nat.reduceEqDiff, Nat.zero_add, Nat.zero_lt_succ, Nat.lt_add_one, true_and, and_true, and_self, Bool.not_true, Bool.not_false, Nat.succ_ne_zero, dT, dF, e_add, e_sub, e_lt, e_gt, e_ge, e_le, e_int, e_abs, k, gl3, e_nei, dec32]
  exact ⟨_, rfl⟩
theorem is_fracL (xs : List D) : ∃ as', m_is_fraction [.tr (.lst xs)] = some (.bl false, as') := by
  have k := kb.2.2.2.2.2.1
  unfold m_is_fraction b_is_fraction
  simp only [defF, defN, back, fSeq, fNx, fAsg, fOp, fUn, fV, fC, fgN, fgT, fgsC, fgs0, fCB, fCons, fNil, fIfS, fB, fTru, fNot, fAnd, fOr, fAndV, fOrV, fNotV, fIf, fRet, fRetN, fDrop, fPar, fSetO, fIxO, fTup, fLst, fCall, fCallO, fCallS, fChain, fFor, fLc, fiA, fiR1, fIsi, fYes, D.tyN, List.getElem?_cons_zero, List.getElem?_cons_succ, List.set_cons_zero, List.set_cons_succ, List.length_cons, List.length_nil, List.length_set, List.length_append, List.length_replicate, List.cons_append, List.nil_append, List.replicate_succ, List.replicate_zero, List.map_cons, List.map_nil, List.mapIdx_cons, List.mapIdx_nil, Option.getD_some, ite_true, ite_false, if_true, if_false, reduceIte, reduceCtorEq, Nat.reduceAdd, Nat.reduceSub, Nat.reduceLT, Nat.reduceLeDiff, Nat.reduceEqDiff, Nat.zero_add, Nat.zero_lt_succ, Nat.lt_add_one, true_and, and_true, and_self, Bool.not_true, Bool.not_false, Nat.succ_ne_zero, dT, dF, e_add, e_sub, e_lt, e_gt, e_ge, e_le, e_int, e_abs, k]
  exact ⟨_, rfl⟩
theorem is_fracN : ∃ as', m_is_fraction [.tr .non] = some (.bl false, as') := by
  have k := kb.2.2.2.2.2.2.1
  unfold m_is_fraction b_is_fraction
  simp only [defF, defN, back, fSeq, fNx, fAsg, fOp, fUn, fV, fC, fgN, fgT, fgsC, fgs0, fCB, fCons, fNil, fIfS, fB, fTru, fNot, fAnd, fOr, fAndV, fOrV, fNotV, fIf, fRet, fRetN, fDrop, fPar, fSetO, fIxO, fTup, fLst, fCall, fCallO, fCallS, fChain, fFor, fLc, fiA, fiR1, fIsi, fYes, D.tyN, List.getElem?_cons_zero, List.getElem?_cons_succ, List.set_cons_zero, List.set_cons_succ, List.length_cons, List.length_nil, List.length_set, List.length_append, List.length_replicate, List.cons_append, List.nil_append, List.replicate_succ, List.replicate_zero, List.map_cons, List.map_nil, List.mapIdx_cons, List.mapIdx_nil, Option.getD_some, ite_true, ite_false, if_true, if_false, reduceIte, reduceCtorEq, Nat.reduceAdd, Nat.reduceSub, Nat.reduceLT, Nat.reduceLeDiff, Nat.reduceEqDiff, Nat.zero_add, Nat.zero_lt_succ, Nat.lt_add_one, true_and, and_true, and_self, Bool.not_true, Bool.not_false, Nat.succ_ne_zero, dT, dF, e_add, e_sub, e_lt, e_gt, e_ge, e_le, e_int, e_abs, k]
  exact ⟨_, rfl⟩
theorem is_fracI (i : Int) : ∃ as', m_is_fraction [.tr (.int i)] = some (.bl false, as') := by
  have k := kb.2.2.2.2.2.2.2.1
  unfold m_is_fraction b_is_fraction
  simp only [defF, defN, back, fSeq, fNx, fAsg, fOp, fUn, fV, fC, fgN, fgT, fgsC, fgs0, fCB, fCons, fNil, fIfS, fB, fTru, fNot, fAnd, fOr, fAndV, fOrV, fNotV, fIf, fRet, fRetN, fDrop, fPar, fSetO, fIxO, fTup, fLst, fCall, fCallO, fCallS, fChain, fFor, fLc, fiA, fiR1, fIsi, fYes, D.tyN, List.getElem?_cons_zero, List.getElem?_cons_succ, List.set_cons_zero, List.set_cons_succ, List.length_cons, List.length_nil, List.length_set, List.length_append, List.length_replicate, List.cons_append, List.nil_append, List.replicate_succ, List.replicate_zero, List.map_cons, List.map_nil, List.mapIdx_cons, List.mapIdx_nil, Option.getD_some, ite_true, ite_false, if_true, if_false, reduceIte, reduceCtorEq, Nat.reduceAdd, Nat.reduceSub, Nat.reduceLT, Nat.reduceLeDiff, Nat.reduceEqDiff, Nat.zero_add, Nat.zero_lt_succ, Nat.lt_add_one, true_and, and_true, and_self, Bool.not_true, Bool.not_false, Nat.succ_ne_zero, dT, dF, e_add, e_sub, e_lt, e_gt, e_ge, e_le, e_int, e_abs, k]
  exact ⟨_, rfl⟩
theorem is_fracB1 (b : Bool) (y : D) : ∃ as', m_is_fraction [.tr (.tup [.bl b, y])] = some (.bl false, as') := by
  have k := kb.2.2.2.2.1
  unfold m_is_fraction b_is_fraction
  simp only [defF, defN, back, fSeq, fNx, fAsg, fOp, fUn, fV, fC, fgN, fgT, fgsC, fgs0, fCB, fCons, fNil, fIfS, fB, fTru, fNot, fAnd, fOr, fAndV, fOrV, fNotV, fIf, fRet, fRetN, fDrop, fPar, fSetO, fIxO, fTup, fLst, fCall, fCallO, fCallS, fChain, fFor, fLc, fiA, fiR1, fIsi, fYes, D.tyN, List.getElem?_cons_zero, List.getElem?_cons_succ, List.set_cons_zero, List.set_cons_succ, List.length_cons, List.length_nil, List.length_set, List.length_append, List.length_replicate, List.cons_append, List.nil_append, List.replicate_succ, List.replicate_zero, List.map_cons, List.map_nil, List.mapIdx_cons, List.mapIdx_nil, Option.getD_some, ite_true, ite_false, if_true, if_false, reduceIte, reduceCtorEq, Nat.reduceAdd, Nat.reduceSub, Nat.reduceLT, Nat.reduceLeDiff, Nat.reduceEqDiff, Nat.zero_add, Nat.zero_lt_succ, Nat.lt_add_one, true_and, and_true, and_self, Bool.not_true, Bool.not_false, Nat.succ_ne_zero, dT, dF, e_add, e_sub, e_lt, e_gt, e_ge, e_le, e_int, e_abs, k, gl2, e_nei, dec22, ix0, ix1, is_int_b]
  exact ⟨_, rfl⟩
theorem is_fracB2 (i : Int) (b : Bool) : ∃ as', m_is_fraction [.tr (.tup [.int i, .bl b])] = some (.bl false, as') := by
  have k := kb.2.2.2.2.1
  unfold m_is_fraction b_is_fraction
  simp only [defF, defN, back, fSeq, fNx, fAsg, fOp, fUn, fV, fC, fgN, fgT, fgsC, fgs0, fCB, fCons, fNil, fIfS, fB, fTru, fNot, fAnd, fOr, fAndV, fOrV, fNotV, fIf, fRet, fRetN, fDrop, fPar, fSetO, fIxO, fTup, fLst, fCall, fCallO, fCallS, fChain, fFor, fLc, fiA, fiR1, fIsi, fYes, D.tyN, List.getElem?_cons_zero, List.getElem?_cons_succ, List.set_cons_zero, List.set_cons_succ, List.length_cons, List.length_nil, List.length_set, List.length_append, List.length_replicate, List.cons_append, List.nil_append, List.replicate_succ, List.replicate_zero, List.map_cons, List.map_nil, List.mapIdx_cons, List.mapIdx_nil, Option.getD_some, ite_true, ite_false, if_true, if_false, reduceIte, reduceCtorEq, Nat.reduceAdd, Nat.reduceSub, Nat.reduceLT, Nat.reduceLeDiff, Nat.reduceEqDiff, Nat.zero_add, Nat.zero_lt_succ, Nat.lt_add_one, true_and, and_true, and_self, Bool.not_true, Bool.not_false, Nat.succ_ne_zero, dT, dF, e_add, e_sub, e_lt, e_gt, e_ge, e_le, e_int, e_abs, k, gl2, e_nei, dec22, ix0, ix1, is_int, is_int_b]
  exact ⟨_, rfl⟩
def Fr (p : Int × Int) : Prop := Sm p ∧ gc p.1 p.2 = 1
theorem check {p : Int × Int} (h : Fr p) : ∃ as', m_check_fraction [.tr (F p)] = some (.non, as') := by
  obtain ⟨as', e⟩ := is_frac p.1 p.2
  rw [decide_eq_true (show 1 ≤ p.2 by have := h.1.2.2.1; omega), decide_eq_true h.2] at e
  have e : m_is_fraction [.tr (F p)] = some (.bl true, as') := e
  unfold m_check_fraction b_check_fraction
  simp only [defF, defN, back, fSeq, fNx, fAsg, fOp, fUn, fV, fC, fgN, fgT, fgsC, fgs0, fCB, fCons, fNil, fIfS, fB, fTru, fNot, fAnd, fOr, fAndV, fOrV, fNotV, fIf, fRet, fRetN, fDrop, fPar, fSetO, fIxO, fTup, fLst, fCall, fCallO, fCallS, fChain, fFor, fLc, fiA, fiR1, fIsi, fYes, D.tyN, List.getElem?_cons_zero, List.getElem?_cons_succ, List.set_cons_zero, List.set_cons_succ, List.length_cons, List.length_nil, List.length_set, List.length_append, List.length_replicate, List.cons_append, List.nil_append, List.replicate_succ, List.replicate_zero, List.map_cons, List.map_nil, List.mapIdx_cons, List.mapIdx_nil, Option.getD_some, ite_true, ite_false, if_true, if_false, reduceIte, reduceCtorEq, Nat.reduceAdd, Nat.reduceSub, Nat.reduceLT, Nat.reduceLeDiff, Nat.reduceEqDiff, Nat.zero_add, Nat.zero_lt_succ, Nat.lt_add_one, true_and, and_true, and_self, Bool.not_true, Bool.not_false, Nat.succ_ne_zero, dT, dF, e_add, e_sub, e_lt, e_gt, e_ge, e_le, e_int, e_abs, e]
  exact ⟨_, rfl⟩
theorem is_lower {p q : Int × Int} (hp : Fr p) (hq : Fr q) : ∃ as', m_is_lower [.tr (F p), .tr (F q)] = some (.bl (ls p q), as') := by
  obtain ⟨_, e1⟩ := check hp
  obtain ⟨_, e2⟩ := check hq
  have a1 : DL.small64 p.1 = true := s64 (by have := hp.1.1; omega) (by have := hp.1.2.1; omega)
  have a2 : DL.small64 q.1 = true := s64 (by have := hq.1.1; omega) (by have := hq.1.2.1; omega)
  unfold m_is_lower b_is_lower
  simp only [defF, defN, back, fSeq, fNx, fAsg, fOp, fUn, fV, fC, fgN, fgT, fgsC, fgs0, fCB, fCons, fNil, fIfS, fB, fTru, fNot, fAnd, fOr, fAndV, fOrV, fNotV, fIf, fRet, fRetN, fDrop, fPar, fSetO, fIxO, fTup, fLst, fCall, fCallO, fCallS, fChain, fFor, fLc, fiA, fiR1, fIsi, fYes, D.tyN, List.getElem?_cons_zero, List.getElem?_cons_succ, List.set_cons_zero, List.set_cons_succ, List.length_cons, List.length_nil, List.length_set, List.length_append, List.length_replicate, List.cons_append, List.nil_append, List.replicate_succ, List.replicate_zero, List.map_cons, List.map_nil, List.mapIdx_cons, List.mapIdx_nil, Option.getD_some, ite_true, ite_false, if_true, if_false, reduceIte, reduceCtorEq, Nat.reduceAdd, Nat.reduceSub, Nat.reduceLT, Nat.reduceLeDiff, Nat.reduceEqDiff, Nat.zero_add, Nat.zero_lt_succ, Nat.lt_add_one, true_and, and_true, and_self, Bool.not_true, Bool.not_false, Nat.succ_ne_zero, dT, dF, e_add, e_sub, e_lt, e_gt, e_ge, e_le, e_int, e_abs, e1, e2, ix0, ix1, e_mul (.inl a1), e_mul (.inl a2)]
  exact ⟨_, rfl⟩
def gt2 (p q : Int × Int) : Int × Int := if ls p q = true then q else p
theorem ls_self (p : Int × Int) : ls p p = false := by unfold ls; exact decide_eq_false (by omega)
theorem greatest1 {p : Int × Int} (hp : Fr p) : ∃ as', m_greatest [.tr (.tup [F p])] = some (F p, as') := by
  obtain ⟨_, e1⟩ := is_lower hp hp
  rw [ls_self] at e1
  have i0 : gIx (.tup [F p]) (.int 0) = some (F p) := rfl
  have em : (!List.isEmpty [F p]) = true := rfl
  unfold m_greatest b_greatest
  simp only [defF, defN, back, fSeq, fNx, fAsg, fOp, fUn, fV, fC, fgN, fgT, fgsC, fgs0, fCB, fCons, fNil, fIfS, fB, fTru, fNot, fAnd, fOr, fAndV, fOrV, fNotV, fIf, fRet, fRetN, fDrop, fPar, fSetO, fIxO, fTup, fLst, fCall, fCallO, fCallS, fChain, fFor, fLc, fiA, fiR1, fIsi, fYes, D.tyN, List.getElem?_cons_zero, List.getElem?_cons_succ, List.set_cons_zero, List.set_cons_succ, List.length_cons, List.length_nil, List.length_set, List.length_append, List.length_replicate, List.cons_append, List.nil_append, List.replicate_succ, List.replicate_zero, List.map_cons, List.map_nil, List.mapIdx_cons, List.mapIdx_nil, Option.getD_some, ite_true, ite_false, if_true, if_false, reduceIte, reduceCtorEq, Nat.reduceAdd, Nat.reduceSub, Nat.reduceLT, Nat.reduceLeDiff, Nat.reduceEqDiff, Nat.zero_add, Nat.zero_lt_succ, Nat.lt_add_one, true_and, and_true, and_self, Bool.not_true, Bool.not_false, Nat.succ_ne_zero, dT, dF, e_add, e_sub, e_lt, e_gt, e_ge, e_le, e_int, e_abs, loopF, e1, i0, em]
  exact ⟨_, rfl⟩
theorem fr2 {p q : Int × Int} (hp : Fr p) (hq : Fr q) : Fr (gt2 p q) := by
  unfold gt2
  split
  · exact hq
  · exact hp
theorem greatest3 {p q r : Int × Int} (hp : Fr p) (hq : Fr q) (hr : Fr r) : ∃ as', m_greatest [.tr (.tup [F p, F q, F r])] = some (F (gt2 (gt2 p q) r), as') := by
  obtain ⟨_, e1⟩ := is_lower hp hp
  rw [ls_self] at e1
  obtain ⟨_, e2⟩ := is_lower hp hq
  obtain ⟨_, e3⟩ := is_lower (fr2 hp hq) hr
  have i0 : gIx (.tup [F p, F q, F r]) (.int 0) = some (F p) := rfl
  have em : (!List.isEmpty [F p, F q, F r]) = true := rfl
  unfold m_greatest b_greatest
  cases c1 : ls p q with
  | true =>
    have z : gt2 p q = q := by unfold gt2; rw [if_pos c1]
    rw [z] at e3 ⊢
    rw [c1] at e2
    cases c2 : ls q r with
    | true =>
      have z : gt2 q r = r := by unfold gt2; rw [if_pos c2]
      rw [z]
      rw [c2] at e3
      simp only [defF, defN, back, fSeq, fNx, fAsg, fOp, fUn, fV, fC, fgN, fgT, fgsC, fgs0, fCB, fCons, fNil, fIfS, fB, fTru, fNot, fAnd, fOr, fAndV, fOrV, fNotV, fIf, fRet, fRetN, fDrop, fPar, fSetO, fIxO, fTup, fLst, fCall, fCallO, fCallS, fChain, fFor, fLc, fiA, fiR1, fIsi, fYes, D.tyN, List.getElem?_cons_zero, List.getElem?_cons_succ, List.set_cons_zero, List.set_cons_succ, List.length_cons, List.length_nil, List.length_set, List.length_append, List.length_replicate, List.cons_append, List.nil_append, List.replicate_succ, List.replicate_zero, List.map_cons, List.map_nil, List.mapIdx_cons, List.mapIdx_nil, Option.getD_some, ite_true, ite_false, if_true, if_false, reduceIte, reduceCtorEq, Nat.reduceAdd, Nat.reduceSub, Nat.reduceLT, Nat.reduceLeDiff, Nat.reduceEqDiff, Nat.zero_add, Nat.zero_lt_succ, Nat.lt_add_one, true_and, and_true, and_self, Bool.not_true, Bool.not_false, Nat.succ_ne_zero, dT, dF, e_add, e_sub, e_lt, e_gt, e_ge, e_le, e_int, e_abs, loopF, e1, e2, e3, i0, em]
      exact ⟨_, rfl⟩
    | false =>
      have z : gt2 q r = q := by unfold gt2; rw [c2]; rfl
      rw [z]
      rw [c2] at e3
      simp only [defF, defN, back, fSeq, fNx, fAsg, fOp, fUn, fV, fC, fgN, fgT, fgsC, fgs0, fCB, fCons, fNil, fIfS, fB, fTru, fNot, fAnd, fOr, fAndV, fOrV, fNotV, fIf, fRet, fRetN, fDrop, fPar, fSetO, fIxO, fTup, fLst, fCall, fCallO, fCallS, fChain, fFor, fLc, fiA, fiR1, fIsi, fYes, D.tyN, List.getElem?_cons_zero, List.getElem?_cons_succ, List.set_cons_zero, List.set_cons_succ, List.length_cons, List.length_nil, List.length_set, List.length_append, List.length_replicate, List.cons_append, List.nil_append, List.replicate_succ, List.replicate_zero, List.map_cons, List.map_nil, List.mapIdx_cons, List.mapIdx_nil, Option.getD_some, ite_true, ite_false, if_true, if_false, reduceIte, reduceCtorEq, Nat.reduceAdd, Nat.reduceSub, Nat.reduceLT, Nat.reduceLeDiff, Nat.reduceEqDiff, Nat.zero_add, Nat.zero_lt_succ, Nat.lt_add_one, true_and, and_true, and_self, Bool.not_true, Bool.not_false, Nat.succ_ne_zero, dT, dF, e_add, e_sub, e_lt, e_gt, e_ge, e_le, e_int, e_abs, loopF, e1, e2, e3, i0, em]
      exact ⟨_, rfl⟩
  | false =>
    have z : gt2 p q = p := by unfold gt2; rw [c1]; rfl
    rw [z] at e3 ⊢
    rw [c1] at e2
    cases c2 : ls p r with
    | true =>
      have z : gt2 p r = r := by unfold gt2; rw [if_pos c2]
      rw [z]
      rw [c2] at e3
      simp only [defF, defN, back, fSeq, fNx, fAsg, fOp, fUn, fV, fC, fgN, fgT, fgsC, fgs0, fCB, fCons, fNil, fIfS, fB, fTru, fNot, fAnd, fOr, fAndV, fOrV, fNotV, fIf, fRet, fRetN, fDrop, fPar, fSetO, fIxO, fTup, fLst, fCall, fCallO, fCallS, fChain, fFor, fLc, fiA, fiR1, fIsi, fYes, D.tyN, List.getElem?_cons_zero, List.getElem?_cons_succ, List.set_cons_zero, List.set_cons_succ, List.length_cons, List.length_nil, List.length_set, List.length_append, List.length_replicate, List.cons_append, List.nil_append, List.replicate_succ, List.replicate_zero, List.map_cons, List.map_nil, List.mapIdx_cons, List.mapIdx_nil, Option.getD_some, ite_true, ite_false, if_true, if_false, reduceIte, reduceCtorEq, Nat.reduceAdd, Nat.reduceSub, Nat.reduceLT, Nat.reduceLeDiff, Nat.reduceEqDiff, Nat.zero_add, Nat.zero_lt_succ, Nat.lt_add_one, true_and, and_true, and_self, Bool.not_true, Bool.not_false, Nat.succ_ne_zero, dT, dF, e_add, e_sub, e_lt, e_gt, e_ge, e_le, e_int, e_abs, loopF, e1, e2, e3, i0, em]
      exact ⟨_, rfl⟩
    | false =>
      have z : gt2 p r = p := by unfold gt2; rw [c2]; rfl
      rw [z]
      rw [c2] at e3
      simp only [defF, defN, back, fSeq, fNx, fAsg, fOp, fUn, fV, fC, fgN, fgT, fgsC, fgs0, fCB, fCons, fNil, fIfS, fB, fTru, fNot, fAnd, fOr, fAndV, fOrV, fNotV, fIf, fRet, fRetN, fDrop, fPar, fSetO, fIxO, fTup, fLst, fCall, fCallO, fCallS, fChain, fFor, fLc, fiA, fiR1, fIsi, fYes, D.tyN, List.getElem?_cons_zero, List.getElem?_cons_succ, List.set_cons_zero, List.set_cons_succ, List.length_cons, List.length_nil, List.length_set, List.length_append, List.length_replicate, List.cons_append, List.nil_append, List.replicate_succ, List.replicate_zero, List.map_cons, List.map_nil, List.mapIdx_cons, List.mapIdx_nil, Option.getD_some, ite_true, ite_false, if_true, if_false, reduceIte, reduceCtorEq, Nat.reduceAdd, Nat.reduceSub, Nat.reduceLT, Nat.reduceLeDiff, Nat.reduceEqDiff, Nat.zero_add, Nat.zero_lt_succ, Nat.lt_add_one, true_and, and_true, and_self, Bool.not_true, Bool.not_false, Nat.succ_ne_zero, dT, dF, e_add, e_sub, e_lt, e_gt, e_ge, e_le, e_int, e_abs, loopF, e1, e2, e3, i0, em]
      exact ⟨_, rfl⟩
/-! ### the order of fractions -/
theorem ls_trans {p q r : Int × Int} (hp : 0 < p.2) (hq : 0 < q.2) (hr : 0 < r.2) (h1 : p.1 * q.2 ≤ q.1 * p.2) (h2 : q.1 * r.2 ≤ r.1 * q.2) : p.1 * r.2 ≤ r.1 * p.2 := by
  have a : p.1 * q.2 * r.2 ≤ q.1 * p.2 * r.2 := Int.mul_le_mul_of_nonneg_right h1 (by omega)
  have b : q.1 * r.2 * p.2 ≤ r.1 * q.2 * p.2 := Int.mul_le_mul_of_nonneg_right h2 (by omega)
  have c : p.1 * r.2 * q.2 ≤ r.1 * p.2 * q.2 := by
    have e1 : p.1 * r.2 * q.2 = p.1 * q.2 * r.2 := by rw [Int.mul_assoc, Int.mul_comm r.2, ← Int.mul_assoc]
    have e2 : q.1 * p.2 * r.2 = q.1 * r.2 * p.2 := by rw [Int.mul_assoc, Int.mul_comm p.2, ← Int.mul_assoc]
    have e3 : r.1 * p.2 * q.2 = r.1 * q.2 * p.2 := by rw [Int.mul_assoc, Int.mul_comm p.2, ← Int.mul_assoc]
    rw [e1, e3]
    rw [e2] at a
    omega
  exact Int.le_of_mul_le_mul_right c hq
theorem ls_not {p q : Int × Int} : ls p q = false ↔ q.1 * p.2 ≤ p.1 * q.2 := by
  unfold ls
  rw [decide_eq_false_iff_not]
  omega
theorem gt2_l {p q : Int × Int} : ls (gt2 p q) p = false ∧ ls (gt2 p q) q = false := by
  unfold gt2
  split
  · rename_i h
    refine ⟨?_, ls_self q⟩
    have h := of_decide_eq_true (show decide (p.1 * q.2 < q.1 * p.2) = true from h)
    rw [ls_not]; omega
  · rename_i h
    exact ⟨ls_self p, by simpa using h⟩
theorem gt3_max {p q r : Int × Int} (hp : Fr p) (hq : Fr q) (hr : Fr r) : ls (gt2 (gt2 p q) r) p = false ∧ ls (gt2 (gt2 p q) r) q = false ∧ ls (gt2 (gt2 p q) r) r = false := by
  obtain ⟨a1, a2⟩ := gt2_l (p := p) (q := q)
  obtain ⟨b1, b2⟩ := gt2_l (p := gt2 p q) (q := r)
  have h2 := fr2 hp hq
  have h3 := fr2 h2 hr
  rw [ls_not] at a1 a2 b1
  exact ⟨ls_not.mpr (ls_trans hp.1.2.2.1 h2.1.2.2.1 h3.1.2.2.1 a1 b1), ls_not.mpr (ls_trans hq.1.2.2.1 h2.1.2.2.1 h3.1.2.2.1 a2 b1), b2⟩
theorem gt2_in (p q : Int × Int) : gt2 p q = p ∨ gt2 p q = q := by
  unfold gt2
  split
  · exact .inr rfl
  · exact .inl rfl
theorem gt3_in (p q r : Int × Int) : gt2 (gt2 p q) r = p ∨ gt2 (gt2 p q) r = q ∨ gt2 (gt2 p q) r = r := by
  rcases gt2_in (gt2 p q) r with h | h
  · rw [h]
    rcases gt2_in p q with h | h
    · exact .inl h
    · exact .inr (.inl h)
  · exact .inr (.inr h)
end K01
namespace K01
open PySem L2 DL
/-! ### comprehensions, step by step -/
theorem lc_nil {fg : D → Sd → Option Sd} {ft : FT} {fe : FE} {vs : List Nat} {s : Sd} : lcF fg ft fe vs [] s = some ([], s) := rfl
theorem lc_cons {fg : D → Sd → Option Sd} {ft : FT} {fe : FE} {vs : List Nat} {s s1 s2 s3 s4 : Sd} {d e : D} {r es : List D} (h1 : fg d s = some s1) (h2 : ft s1 = some (true, s2)) (h3 : fe s2 = some (e, s3)) (h4 : nol s3 vs = true) (h5 : lcF fg ft fe vs r (clr s3 vs) = some (es, s4)) :
    lcF fg ft fe vs (d :: r) s = some (e :: es, s4) := by
  simp only [lcF, h1, h2, h3, h4, h5, if_true]
theorem lc_skip {fg : D → Sd → Option Sd} {ft : FT} {fe : FE} {vs : List Nat} {s s1 s2 s4 : Sd} {d : D} {r es : List D} (h1 : fg d s = some s1) (h2 : ft s1 = some (false, s2)) (h4 : nol s2 vs = true) (h5 : lcF fg ft fe vs r (clr s2 vs) = some (es, s4)) :
    lcF fg ft fe vs (d :: r) s = some (es, s4) := by
  simp only [lcF, h1, h2, h4, h5, if_true]
theorem lc_eq {fi : FI} {fg : D → Sd → Option Sd} {ft : FT} {fe : FE} {vs : List Nat} {s s1 s4 : Sd} {ds es : List D} (h1 : fi s = some (ds, s1)) (h2 : nol s1 vs = true) (h3 : ds.length ≤ 100000) (h4 : lcF fg ft fe vs ds (clr s1 vs) = some (es, s4)) :
    fLc fi fg ft fe vs s = some (.lst es, rst s1 s4 vs) := by
  have c : nol s1 vs = true ∧ ds.length ≤ 100000 := ⟨h2, h3⟩
  simp only [fLc, h1, if_pos c, h4]
/-! ### data that are equal -/
theorem gNe_self {d : D} (h : SeqAt.shaped d.py = true) : gNeD d d = some (.bl false) := by
  unfold gNeD
  rw [h]
  have : PyData.eqv d.py d.py = true := SeqAt.eqv_refl _ (SeqAt.canLay_of_shaped h)
  rw [this]
  rfl
theorem gEq_self {d : D} (h : SeqAt.shaped d.py = true) : gEqD d d = some (.bl true) := by
  unfold gEqD
  rw [h]
  have : PyData.eqv d.py d.py = true := SeqAt.eqv_refl _ (SeqAt.canLay_of_shaped h)
  rw [this]
  rfl
theorem gNe_bl (b : Bool) : gNeD (.bl b) (.bl b) = some (.bl false) := gNe_self rfl
/-! ### lowest terms -/
def red (p : Int × Int) : Int × Int := (p.1 / gc p.1 p.2, p.2 / gc p.1 p.2)
def Pr (p : Int × Int) : Prop := -40 ≤ p.1 ∧ p.1 ≤ 40 ∧ 1 ≤ p.2 ∧ p.2 ≤ 40
theorem gc_mul {g m e : Int} (h : 0 < g) : gc (g * m) (g * e) = g * gc m e := by
  unfold gc
  rw [Int.natAbs_mul, Int.natAbs_mul, Nat.gcd_mul_left]
  have : (g.natAbs : Int) = g := by omega
  rw [Int.natCast_mul, this]
theorem gc_split {n d : Int} (h : 0 < d) : ∃ m e : Int, n = gc n d * m ∧ d = gc n d * e ∧ gc m e = 1 ∧ 0 < e ∧ n / gc n d = m ∧ d / gc n d = e := by
  have g0 := gc_pos (n := n) h
  obtain ⟨m, hm⟩ : gc n d ∣ n := by
    unfold gc
    exact Int.ofNat_dvd_left.mpr (Nat.gcd_dvd_left _ _)
  obtain ⟨e, he⟩ : gc n d ∣ d := by
    unfold gc
    exact Int.ofNat_dvd_left.mpr (Nat.gcd_dvd_right _ _)
  obtain ⟨g, hg⟩ : ∃ g, g = gc n d := ⟨_, rfl⟩
  rw [← hg] at hm he g0 ⊢
  have e1 : gc n d = g * gc m e := by rw [hm, he, gc_mul g0]
  have e2 : gc m e = 1 := by
    have : g * gc m e = g * 1 := by rw [← e1, ← hg, Int.mul_one]
    exact Int.eq_of_mul_eq_mul_left (by omega) this
  have h' : 0 < g * e := by rw [← he]; exact h
  have e3 : 0 < e := by
    by_cases z : 0 < e
    · exact z
    · have y : g * e ≤ g * 0 := Int.mul_le_mul_of_nonneg_left (by omega) (by omega)
      rw [Int.mul_zero] at y
      omega
  refine ⟨m, e, hm, he, e2, e3, ?_, ?_⟩
  · rw [hm]; exact Int.mul_ediv_cancel_left _ (by omega)
  · rw [he]; exact Int.mul_ediv_cancel_left _ (by omega)
theorem red_fr {p : Int × Int} (h : Pr p) : Fr (red p) := by
  obtain ⟨h1, h2, h3, h4⟩ := h
  obtain ⟨m, e, e1, e2, e3, e4, e5, e6⟩ := gc_split (n := p.1) (d := p.2) (by omega)
  have g0 := gc_pos (n := p.1) (d := p.2) (by omega)
  have hr : red p = (m, e) := by unfold red; rw [e5, e6]
  rw [hr]
  obtain ⟨g, hg⟩ : ∃ g, g = gc p.1 p.2 := ⟨_, rfl⟩
  rw [← hg] at e1 e2 g0
  have b1 : 1 * e ≤ g * e := Int.mul_le_mul_of_nonneg_right (by omega) (by omega)
  rw [Int.one_mul] at b1
  have b2 : -40 ≤ m ∧ m ≤ 40 := by
    constructor
    · by_cases c : m < 0
      · have : g * m ≤ 1 * m := Int.mul_le_mul_of_nonpos_right (by omega) (by omega)
        omega
      · omega
    · by_cases c : 0 < m
      · have : 1 * m ≤ g * m := Int.mul_le_mul_of_nonneg_right (by omega) (by omega)
        omega
      · omega
  exact ⟨⟨by show -1000 ≤ m; omega, by show m ≤ 1000; omega, by show 0 < e; omega, by show e ≤ 1000; omega⟩, e3⟩
theorem frac_red {p : Int × Int} (h : Pr p) : ∃ as', m_fraction [.tr (.int p.1), .tr (.int p.2)] = some (F (red p), as') := fraction (by have := h.2.2.1; omega) (by have := h.2.2.2; omega)
theorem lowest_red {p : Int × Int} (h : Pr p) : ∃ as', m_law_lowest [.tr (.int p.1), .tr (.int p.2)] = some (F (red p), as') := lowest (by have := h.2.2.1; omega) (by have := h.2.2.2; omega)
theorem frac_mul {p : Int × Int} {k : Int} (h : Pr p) (h2 : 1 ≤ k) (h3 : k ≤ 10) : ∃ as', m_fraction [.tr (.int (p.1 * k)), .tr (.int (p.2 * k))] = some (F (red p), as') := by
  have hd : 0 < p.2 * k := Int.mul_pos (by have := h.2.2.1; omega) (by omega)
  have hd2 : p.2 * k ≤ 40 * 10 := Int.mul_le_mul h.2.2.2 h3 (by omega) (by omega)
  obtain ⟨as', e⟩ := fraction (n := p.1 * k) (d := p.2 * k) hd (by omega)
  have g0 := gc_pos (n := p.1) (d := p.2) (by have := h.2.2.1; omega)
  have eg : gc (p.1 * k) (p.2 * k) = k * gc p.1 p.2 := by rw [Int.mul_comm p.1, Int.mul_comm p.2, gc_mul (by omega)]
  have r1 : p.1 * k / gc (p.1 * k) (p.2 * k) = p.1 / gc p.1 p.2 := by rw [eg, Int.mul_comm p.1]; exact Int.mul_ediv_mul_of_pos _ _ (by omega)
  have r2 : p.2 * k / gc (p.1 * k) (p.2 * k) = p.2 / gc p.1 p.2 := by rw [eg, Int.mul_comm p.2]; exact Int.mul_ediv_mul_of_pos _ _ (by omega)
  rw [r1, r2] at e
  exact ⟨as', e⟩
theorem frac_one {k : Int} (h : 1 ≤ k) (h2 : k < 2 ^ 64) : ∃ as', m_fraction [.tr (.int k), .tr (.int k)] = some (.tup [.int 1, .int 1], as') := by
  obtain ⟨as', e⟩ := fraction (n := k) (d := k) (by omega) h2
  have eg : gc k k = k := by unfold gc; rw [Nat.gcd_self]; omega
  rw [eg, Int.ediv_self (by omega)] at e
  exact ⟨as', e⟩
end K01
namespace K01
open PySem L2 DL
theorem lc_consS {fg : D → Sd → Option Sd} {ft : FT} {fe : FE} {vs : List Nat} {s s' s1 s2 s3 s4 : Sd} {d e : D} {r es : List D} (h1 : fg d s = some s1) (h2 : ft s1 = some (true, s2)) (h3 : fe s2 = some (e, s3)) (h4 : nol s3 vs = true) (h6 : clr s3 vs = s') (h5 : lcF fg ft fe vs r s' = some (es, s4)) :
    lcF fg ft fe vs (d :: r) s = some (e :: es, s4) := lc_cons h1 h2 h3 h4 (by rw [h6]; exact h5)
theorem lc_skipS {fg : D → Sd → Option Sd} {ft : FT} {fe : FE} {vs : List Nat} {s s' s1 s2 s4 : Sd} {d : D} {r es : List D} (h1 : fg d s = some s1) (h2 : ft s1 = some (false, s2)) (h4 : nol s2 vs = true) (h6 : clr s2 vs = s') (h5 : lcF fg ft fe vs r s' = some (es, s4)) :
    lcF fg ft fe vs (d :: r) s = some (es, s4) := lc_skip h1 h2 h4 (by rw [h6]; exact h5)
abbrev dc (a b c : Int) : Sl := .ol true [.int a, .int b, .int c]
abbrev L3 (p q r : Int × Int) : D := .lst [F p, F q, F r]
theorem sh3 (p q r : Int × Int) : SeqAt.shaped (L3 p q r).py = true := rfl
theorem shF (p : Int × Int) : SeqAt.shaped (F p).py = true := rfl
def q0 : FS := fAsg (fLc (fiR1 (fCons (fC (.int 3)) fNil)) (fgN 10) (fYes) (fCallO 1 m_law_drawn 0 fNil) [10]) (fgN 1)
def q1 : FS := fAsg (fLc (fiA (fV 1)) (fgT 2 (fgsC (fgN 3) (fgsC (fgN 4) fgs0))) (fYes) (fCall 2 m_fraction (fCons (fV 3) (fCons (fV 4) fNil))) [3, 4]) (fgN 2)
def q2 : FS := fIfS (fB (fOp gNeD (fV 2) (fLc (fiA (fV 1)) (fgT 2 (fgsC (fgN 3) (fgsC (fgN 4) fgs0))) (fYes) (fCall 2 m_law_lowest (fCons (fV 3) (fCons (fV 4) fNil))) [3, 4]))) (fRet (fC (.bl false))) fNx
def q3 : FS := fIfS (fB (fOp gNeD (fLc (fiA (fV 2)) (fgN 3) (fNot (fTru (fCall 1 m_law_is_lowest (fCons (fV 3) fNil)))) (fV 3) [3]) (fLst fNil))) (fRet (fC (.bl false))) fNx
def q4 : FS := fFor (fiA (fLst (fCons (fTup (fCons (fOp gIx (fV 2) (fC (.int 0))) (fCons (fOp gIx (fV 2) (fC (.int 1))) fNil))) (fCons (fTup (fCons (fOp gIx (fV 2) (fC (.int 1))) (fCons (fOp gIx (fV 2) (fC (.int 2))) fNil))) (fCons (fTup (fCons (fOp gIx (fV 2) (fC (.int 2))) (fCons (fOp gIx (fV 2) (fC (.int 2))) fNil))) fNil))))) (fgT 2 (fgsC (fgN 3) (fgsC (fgN 4) fgs0))) (fIfS (fOr (fB (fOp gNeD (fCall 2 m_is_lower (fCons (fV 3) (fCons (fV 4) fNil))) (fCall 2 m_law_less (fCons (fV 3) (fCons (fV 4) fNil))))) (fAnd (fTru (fCall 2 m_is_lower (fCons (fV 3) (fCons (fV 4) fNil)))) (fTru (fCall 2 m_is_lower (fCons (fV 4) (fCons (fV 3) fNil)))))) (fRet (fC (.bl false))) fNx)
def q5 : FS := fAsg (fCallS m_greatest (fCons (fOp gIx (fV 2) (fC (.int 0))) (fCons (fOp gIx (fV 2) (fC (.int 1))) (fCons (fOp gIx (fV 2) (fC (.int 2))) fNil)))) (fgN 5)
def q6 : FS := fIfS (fOr (fB (fOp gNotInD (fV 5) (fV 2))) (fOr (fB (fOp gNeD (fLc (fiA (fV 2)) (fgN 3) (fTru (fCall 2 m_law_less (fCons (fV 5) (fCons (fV 3) fNil)))) (fV 3) [3]) (fLst fNil))) (fB (fOp gNeD (fCallS m_greatest (fCons (fOp gIx (fV 2) (fC (.int 1))) fNil)) (fOp gIx (fV 2) (fC (.int 1))))))) (fRet (fC (.bl false))) fNx
def q7 : FS := fPar 6 7 (fCons (fOp gAdd (fC (.int 2)) (fCallO 2 m_law_roll 0 (fCons (fC (.int 5)) fNil))) (fCons (fOp gAdd (fOp gPow (fC (.int 10)) (fC (.int 11))) (fCallO 2 m_law_roll 0 (fCons (fC (.int 1000)) fNil))) fNil))
def q8 : FS := fIfS (fOr (fB (fOp gNeD (fCall 2 m_fraction (fCons (fOp gMulA (fOp gIx (fOp gIx (fV 1) (fC (.int 0))) (fC (.int 0))) (fV 6)) (fCons (fOp gMulA (fOp gIx (fOp gIx (fV 1) (fC (.int 0))) (fC (.int 1))) (fV 6)) fNil))) (fOp gIx (fV 2) (fC (.int 0))))) (fB (fOp gNeD (fCall 2 m_fraction (fCons (fV 7) (fCons (fV 7) fNil))) (fTup (fCons (fC (.int 1)) (fCons (fC (.int 1)) fNil)))))) (fRet (fC (.bl false))) fNx
def q9 : FS := fAsg (fLst (fCons (fOp gIx (fV 2) (fC (.int 0))) (fCons (fOp gIx (fV 1) (fC (.int 0))) (fCons (fTup (fCons (fOp gIx (fOp gIx (fV 2) (fC (.int 0))) (fC (.int 0))) (fCons (fC (.int 0)) fNil))) (fCons (fTup (fCons (fOp gIx (fOp gIx (fV 2) (fC (.int 0))) (fC (.int 0))) (fCons (fUn gNeg (fC (.int 1))) fNil))) (fCons (fOp gAdd (fOp gIx (fV 2) (fC (.int 0))) (fTup (fCons (fC (.int 1)) fNil))) (fCons (fCB gList (fCons (fOp gIx (fV 2) (fC (.int 0))) fNil)) (fCons (fTup (fCons (fC (.bl true)) (fCons (fC (.int 2)) fNil))) fNil)))))))) (fgN 8)
def q10 : FS := fAsg (fOp gAdd (fV 8) (fLst (fCons (fTup (fCons (fC (.int 1)) (fCons (fC (.bl true)) fNil))) (fCons (fC .non) (fCons (fC (.int 3)) fNil))))) (fgN 8)
def q11 : FS := fAsg (fOp gAdd (fLst (fCons (fC (.bl true)) (fCons (fCall 1 m_law_is_lowest (fCons (fOp gIx (fV 1) (fC (.int 0))) fNil)) fNil))) (fOp gMulA (fLst (fCons (fC (.bl false)) fNil)) (fC (.int 8)))) (fgN 9)
def q12 : FS := fRet (fAndV (fOp gEqD (fLc (fiA (fV 8)) (fgN 3) (fYes) (fCall 1 m_is_fraction (fCons (fV 3) fNil)) [3]) (fV 9)) (fOp gIsB (fCall 1 m_is_fraction (fCons (fTup (fCons (fC (.int 0)) (fCons (fC (.int 2)) fNil))) fNil)) (fC (.bl false))))
theorem b_right : b_law_right = fSeq q0 (fSeq q1 (fSeq q2 (fSeq q3 (fSeq q4 (fSeq q5 (fSeq q6 (fSeq q7 (fSeq q8 (fSeq q9 (fSeq q10 (fSeq q11 (q12)))))))))))) := rfl
theorem q0_ok (a b c : Int) : ∃ p1 p2 p3 a' c', Pr p1 ∧ Pr p2 ∧ Pr p3 ∧ q0 [dc a b c, .no, .no, .no, .no, .no, .no, .no, .no, .no, .no] = some (.nx, [dc a' b c', .tr (L3 p1 p2 p3), .no, .no, .no, .no, .no, .no, .no, .no, .no]) := by
  obtain ⟨n1, d1, a1, c1, h11, h12, h13, h14, e1⟩ := drawn a b c
  obtain ⟨n2, d2, a2, c2, h21, h22, h23, h24, e2⟩ := drawn a1 b c1
  obtain ⟨n3, d3, a3, c3, h31, h32, h33, h34, e3⟩ := drawn a2 b c2
  refine ⟨(n1, d1), (n2, d2), (n3, d3), a3, c3, ⟨h11, h12, h13, h14⟩, ⟨h21, h22, h23, h24⟩, ⟨h31, h32, h33, h34⟩, ?_⟩
  have l : fLc (fiR1 (fCons (fC (.int 3)) fNil)) (fgN 10) fYes (fCallO 1 m_law_drawn 0 fNil) [10] [dc a b c, .no, .no, .no, .no, .no, .no, .no, .no, .no, .no] = some (L3 (n1, d1) (n2, d2) (n3, d3), [dc a3 b c3, .no, .no, .no, .no, .no, .no, .no, .no, .no, .no]) :=
    lc_eq (ds := rngD 0 3) (s1 := [dc a b c, .no, .no, .no, .no, .no, .no, .no, .no, .no, .no]) rfl rfl (by decide) (lc_consS (s' := [dc a1 b c1, .no, .no, .no, .no, .no, .no, .no, .no, .no, .no]) (s1 := [dc a b c, .no, .no, .no, .no, .no, .no, .no, .no, .no, .tr (.int (0 + (0 : Nat)))]) rfl rfl (by simp only [defF, defN, back, fSeq, fNx, fAsg, fOp, fUn, fV, fC, fgN, fgT, fgsC, fgs0, fCB, fCons, fNil, fIfS, fB, fTru, fNot, fAnd, fOr, fAndV, fOrV, fNotV, fIf, fRet, fRetN, fDrop, fPar, fSetO, fIxO, fTup, fLst, fCall, fCallO, fCallS, fChain, fFor, fLc, fiA, fiR1, fIsi, fYes, D.tyN, List.getElem?_cons_zero, List.getElem?_cons_succ, List.set_cons_zero, List.set_cons_succ, List.length_cons, List.length_nil, List.length_set, List.length_append, List.length_replicate, List.cons_append, List.nil_append, List.replicate_succ, List.replicate_zero, List.map_cons, List.map_nil, List.mapIdx_cons, List.mapIdx_nil, Option.getD_some, ite_true, ite_false, if_true, if_false, reduceIte, reduceCtorEq, Nat.reduceAdd, Nat.reduceSub, Nat.reduceLT, Nat.reduceLeDiff, Nat.reduceEqDiff, Nat.zero_add, Nat.zero_lt_succ, Nat.lt_add_one, true_and, and_true, and_self, Bool.not_true, Bool.not_false, Nat.succ_ne_zero, dT, dF, e_add, e_sub, e_lt, e_gt, e_ge, e_le, e_int, e_abs, e1]; rfl) rfl rfl (lc_consS (s' := [dc a2 b c2, .no, .no, .no, .no, .no, .no, .no, .no, .no, .no]) (s1 := [dc a1 b c1, .no, .no, .no, .no, .no, .no, .no, .no, .no, .tr (.int (0 + (1 : Nat)))]) rfl rfl (by simp only [defF, defN, back, fSeq, fNx, fAsg, fOp, fUn, fV, fC, fgN, fgT, fgsC, fgs0, fCB, fCons, fNil, fIfS, fB, fTru, fNot, fAnd, fOr, fAndV, fOrV, fNotV, fIf, fRet, fRetN, fDrop, fPar, fSetO, fIxO, fTup, fLst, fCall, fCallO, fCallS, fChain, fFor, fLc, fiA, fiR1, fIsi, fYes, D.tyN, List.getElem?_cons_zero, List.getElem?_cons_succ, List.set_cons_zero, List.set_cons_succ, List.length_cons, List.length_nil, List.length_set, List.length_append, List.length_replicate, List.cons_append, List.nil_append, List.replicate_succ, List.replicate_zero, List.map_cons, List.map_nil, List.mapIdx_cons, List.mapIdx_nil, Option.getD_some, ite_true, ite_false, if_true, if_false, reduceIte, reduceCtorEq, Nat.reduceAdd, Nat.reduceSub, Nat.reduceLT, Nat.reduceLeDiff, Nat.reduceEqDiff, Nat.zero_add, Nat.zero_lt_succ, Nat.lt_add_one, true_and, and_true, and_self, Bool.not_true, Bool.not_false, Nat.succ_ne_zero, dT, dF, e_add, e_sub, e_lt, e_gt, e_ge, e_le, e_int, e_abs, e2]; rfl) rfl rfl (lc_consS (s' := [dc a3 b c3, .no, .no, .no, .no, .no, .no, .no, .no, .no, .no]) (s1 := [dc a2 b c2, .no, .no, .no, .no, .no, .no, .no, .no, .no, .tr (.int (0 + (2 : Nat)))]) rfl rfl (by simp only [defF, defN, back, fSeq, fNx, fAsg, fOp, fUn, fV, fC, fgN, fgT, fgsC, fgs0, fCB, fCons, fNil, fIfS, fB, fTru, fNot, fAnd, fOr, fAndV, fOrV, fNotV, fIf, fRet, fRetN, fDrop, fPar, fSetO, fIxO, fTup, fLst, fCall, fCallO, fCallS, fChain, fFor, fLc, fiA, fiR1, fIsi, fYes, D.tyN, List.getElem?_cons_zero, List.getElem?_cons_succ, List.set_cons_zero, List.set_cons_succ, List.length_cons, List.length_nil, List.length_set, List.length_append, List.length_replicate, List.cons_append, List.nil_append, List.replicate_succ, List.replicate_zero, List.map_cons, List.map_nil, List.mapIdx_cons, List.mapIdx_nil, Option.getD_some, ite_true, ite_false, if_true, if_false, reduceIte, reduceCtorEq, Nat.reduceAdd, Nat.reduceSub, Nat.reduceLT, Nat.reduceLeDiff, Nat.reduceEqDiff, Nat.zero_add, Nat.zero_lt_succ, Nat.lt_add_one, true_and, and_true, and_self, Bool.not_true, Bool.not_false, Nat.succ_ne_zero, dT, dF, e_add, e_sub, e_lt, e_gt, e_ge, e_le, e_int, e_abs, e3]; rfl) rfl rfl lc_nil)))
  unfold q0
  simp only [defF, defN, back, fSeq, fNx, fAsg, fOp, fUn, fV, fC, fgN, fgT, fgsC, fgs0, fCB, fCons, fNil, fIfS, fB, fTru, fNot, fAnd, fOr, fAndV, fOrV, fNotV, fIf, fRet, fRetN, fDrop, fPar, fSetO, fIxO, fTup, fLst, fCall, fCallO, fCallS, fChain, fFor, fIsi, fYes, D.tyN, List.getElem?_cons_zero, List.getElem?_cons_succ, List.set_cons_zero, List.set_cons_succ, List.length_cons, List.length_nil, List.length_set, List.length_append, List.length_replicate, List.cons_append, List.nil_append, List.replicate_succ, List.replicate_zero, List.map_cons, List.map_nil, List.mapIdx_cons, List.mapIdx_nil, Option.getD_some, ite_true, ite_false, if_true, if_false, reduceIte, reduceCtorEq, Nat.reduceAdd, Nat.reduceSub, Nat.reduceLT, Nat.reduceLeDiff, Nat.reduceEqDiff, Nat.zero_add, Nat.zero_lt_succ, Nat.lt_add_one, true_and, and_true, and_self, Bool.not_true, Bool.not_false, Nat.succ_ne_zero, dT, dF, e_add, e_sub, e_lt, e_gt, e_ge, e_le, e_int, e_abs, l]
theorem q1_ok (X : Sl) {p q r : Int × Int} (hp : Pr p) (hq : Pr q) (hr : Pr r) : q1 [X, .tr (L3 p q r), .no, .no, .no, .no, .no, .no, .no, .no, .no] = some (.nx, [X, .tr (L3 p q r), .tr (L3 (red p) (red q) (red r)), .no, .no, .no, .no, .no, .no, .no, .no]) := by
  obtain ⟨_, e1⟩ := frac_red hp
  obtain ⟨_, e2⟩ := frac_red hq
  obtain ⟨_, e3⟩ := frac_red hr
  have l : fLc (fiA (fV 1)) (fgT 2 (fgsC (fgN 3) (fgsC (fgN 4) fgs0))) fYes (fCall 2 m_fraction (fCons (fV 3) (fCons (fV 4) fNil))) [3, 4] [X, .tr (L3 p q r), .no, .no, .no, .no, .no, .no, .no, .no, .no] = some (L3 (red p) (red q) (red r), [X, .tr (L3 p q r), .no, .no, .no, .no, .no, .no, .no, .no, .no]) :=
    lc_eq (ds := [F p, F q, F r]) (s1 := [X, .tr (L3 p q r), .no, .no, .no, .no, .no, .no, .no, .no, .no]) rfl rfl (by show 3 ≤ 100000; decide) (lc_consS (s' := [X, .tr (L3 p q r), .no, .no, .no, .no, .no, .no, .no, .no, .no]) (s1 := [X, .tr (L3 p q r), .no, .tr (.int p.1), .tr (.int p.2), .no, .no, .no, .no, .no, .no]) rfl rfl (by simp only [defF, defN, back, fSeq, fNx, fAsg, fOp, fUn, fV, fC, fgN, fgT, fgsC, fgs0, fCB, fCons, fNil, fIfS, fB, fTru, fNot, fAnd, fOr, fAndV, fOrV, fNotV, fIf, fRet, fRetN, fDrop, fPar, fSetO, fIxO, fTup, fLst, fCall, fCallO, fCallS, fChain, fFor, fLc, fiA, fiR1, fIsi, fYes, D.tyN, List.getElem?_cons_zero, List.getElem?_cons_succ, List.set_cons_zero, List.set_cons_succ, List.length_cons, List.length_nil, List.length_set, List.length_append, List.length_replicate, List.cons_append, List.nil_append, List.replicate_succ, List.replicate_zero, List.map_cons, List.map_nil, List.mapIdx_cons, List.mapIdx_nil, Option.getD_some, ite_true, ite_false, if_true, if_false, reduceIte, reduceCtorEq, Nat.reduceAdd, Nat.reduceSub, Nat.reduceLT, Nat.reduceLeDiff, Nat.reduceEqDiff, Nat.zero_add, Nat.zero_lt_succ, Nat.lt_add_one, true_and, and_true, and_self, Bool.not_true, Bool.not_false, Nat.succ_ne_zero, dT, dF, e_add, e_sub, e_lt, e_gt, e_ge, e_le, e_int, e_abs, e1]; rfl) rfl rfl (lc_consS (s' := [X, .tr (L3 p q r), .no, .no, .no, .no, .no, .no, .no, .no, .no]) (s1 := [X, .tr (L3 p q r), .no, .tr (.int q.1), .tr (.int q.2), .no, .no, .no, .no, .no, .no]) rfl rfl (by simp only [defF, defN, back, fSeq, fNx, fAsg, fOp, fUn, fV, fC, fgN, fgT, fgsC, fgs0, fCB, fCons, fNil, fIfS, fB, fTru, fNot, fAnd, fOr, fAndV, fOrV, fNotV, fIf, fRet, fRetN, fDrop, fPar, fSetO, fIxO, fTup, fLst, fCall, fCallO, fCallS, fChain, fFor, fLc, fiA, fiR1, fIsi, fYes, D.tyN, List.getElem?_cons_zero, List.getElem?_cons_succ, List.set_cons_zero, List.set_cons_succ, List.length_cons, List.length_nil, List.length_set, List.length_append, List.length_replicate, List.cons_append, List.nil_append, List.replicate_succ, List.replicate_zero, List.map_cons, List.map_nil, List.mapIdx_cons, List.mapIdx_nil, Option.getD_some, ite_true, ite_false, if_true, if_false, reduceIte, reduceCtorEq, Nat.reduceAdd, Nat.reduceSub, Nat.reduceLT, Nat.reduceLeDiff, Nat.reduceEqDiff, Nat.zero_add, Nat.zero_lt_succ, Nat.lt_add_one, true_and, and_true, and_self, Bool.not_true, Bool.not_false, Nat.succ_ne_zero, dT, dF, e_add, e_sub, e_lt, e_gt, e_ge, e_le, e_int, e_abs, e2]; rfl) rfl rfl (lc_consS (s' := [X, .tr (L3 p q r), .no, .no, .no, .no, .no, .no, .no, .no, .no]) (s1 := [X, .tr (L3 p q r), .no, .tr (.int r.1), .tr (.int r.2), .no, .no, .no, .no, .no, .no]) rfl rfl (by simp only [defF, defN, back, fSeq, fNx, fAsg, fOp, fUn, fV, fC, fgN, fgT, fgsC, fgs0, fCB, fCons, fNil, fIfS, fB, fTru, fNot, fAnd, fOr, fAndV, fOrV, fNotV, fIf, fRet, fRetN, fDrop, fPar, fSetO, fIxO, fTup, fLst, fCall, fCallO, fCallS, fChain, fFor, fLc, fiA, fiR1, fIsi, fYes, D.tyN, List.getElem?_cons_zero, List.getElem?_cons_succ, List.set_cons_zero, List.set_cons_succ, List.length_cons, List.length_nil, List.length_set, List.length_append, List.length_replicate, List.cons_append, List.nil_append, List.replicate_succ, List.replicate_zero, List.map_cons, List.map_nil, List.mapIdx_cons, List.mapIdx_nil, Option.getD_some, ite_true, ite_false, if_true, if_false, reduceIte, reduceCtorEq, Nat.reduceAdd, Nat.reduceSub, Nat.reduceLT, Nat.reduceLeDiff, Nat.reduceEqDiff, Nat.zero_add, Nat.zero_lt_succ, Nat.lt_add_one, true_and, and_true, and_self, Bool.not_true, Bool.not_false, Nat.succ_ne_zero, dT, dF, e_add, e_sub, e_lt, e_gt, e_ge, e_le, e_int, e_abs, e3]; rfl) rfl rfl lc_nil)))
  unfold q1
  simp only [defF, defN, back, fSeq, fNx, fAsg, fOp, fUn, fV, fC, fgN, fgT, fgsC, fgs0, fCB, fCons, fNil, fIfS, fB, fTru, fNot, fAnd, fOr, fAndV, fOrV, fNotV, fIf, fRet, fRetN, fDrop, fPar, fSetO, fIxO, fTup, fLst, fCall, fCallO, fCallS, fChain, fFor, fIsi, fYes, D.tyN, List.getElem?_cons_zero, List.getElem?_cons_succ, List.set_cons_zero, List.set_cons_succ, List.length_cons, List.length_nil, List.length_set, List.length_append, List.length_replicate, List.cons_append, List.nil_append, List.replicate_succ, List.replicate_zero, List.map_cons, List.map_nil, List.mapIdx_cons, List.mapIdx_nil, Option.getD_some, ite_true, ite_false, if_true, if_false, reduceIte, reduceCtorEq, Nat.reduceAdd, Nat.reduceSub, Nat.reduceLT, Nat.reduceLeDiff, Nat.reduceEqDiff, Nat.zero_add, Nat.zero_lt_succ, Nat.lt_add_one, true_and, and_true, and_self, Bool.not_true, Bool.not_false, Nat.succ_ne_zero, dT, dF, e_add, e_sub, e_lt, e_gt, e_ge, e_le, e_int, e_abs, l]
theorem q2_ok (X : Sl) {p q r : Int × Int} (hp : Pr p) (hq : Pr q) (hr : Pr r) : q2 [X, .tr (L3 p q r), .tr (L3 (red p) (red q) (red r)), .no, .no, .no, .no, .no, .no, .no, .no] = some (.nx, [X, .tr (L3 p q r), .tr (L3 (red p) (red q) (red r)), .no, .no, .no, .no, .no, .no, .no, .no]) := by
  obtain ⟨_, e1⟩ := lowest_red hp
  obtain ⟨_, e2⟩ := lowest_red hq
  obtain ⟨_, e3⟩ := lowest_red hr
  have l : fLc (fiA (fV 1)) (fgT 2 (fgsC (fgN 3) (fgsC (fgN 4) fgs0))) fYes (fCall 2 m_law_lowest (fCons (fV 3) (fCons (fV 4) fNil))) [3, 4] [X, .tr (L3 p q r), .tr (L3 (red p) (red q) (red r)), .no, .no, .no, .no, .no, .no, .no, .no] = some (L3 (red p) (red q) (red r), [X, .tr (L3 p q r), .tr (L3 (red p) (red q) (red r)), .no, .no, .no, .no, .no, .no, .no, .no]) :=
    lc_eq (ds := [F p, F q, F r]) (s1 := [X, .tr (L3 p q r), .tr (L3 (red p) (red q) (red r)), .no, .no, .no, .no, .no, .no, .no, .no]) rfl rfl (by show 3 ≤ 100000; decide) (lc_consS (s' := [X, .tr (L3 p q r), .tr (L3 (red p) (red q) (red r)), .no, .no, .no, .no, .no, .no, .no, .no]) (s1 := [X, .tr (L3 p q r), .tr (L3 (red p) (red q) (red r)), .tr (.int p.1), .tr (.int p.2), .no, .no, .no, .no, .no, .no]) rfl rfl (by simp only [defF, defN, back, fSeq, fNx, fAsg, fOp, fUn, fV, fC, fgN, fgT, fgsC, fgs0, fCB, fCons, fNil, fIfS, fB, fTru, fNot, fAnd, fOr, fAndV, fOrV, fNotV, fIf, fRet, fRetN, fDrop, fPar, fSetO, fIxO, fTup, fLst, fCall, fCallO, fCallS, fChain, fFor, fLc, fiA, fiR1, fIsi, fYes, D.tyN, List.getElem?_cons_zero, List.getElem?_cons_succ, List.set_cons_zero, List.set_cons_succ, List.length_cons, List.length_nil, List.length_set, List.length_append, List.length_replicate, List.cons_append, List.nil_append, List.replicate_succ, List.replicate_zero, List.map_cons, List.map_nil, List.mapIdx_cons, List.mapIdx_nil, Option.getD_some, ite_true, ite_false, if_true, if_false, reduceIte, reduceCtorEq, Nat.reduceAdd, Nat.reduceSub, Nat.reduceLT, Nat.reduceLeDiff, Nat.reduceEqDiff, Nat.zero_add, Nat.zero_lt_succ, Nat.lt_add_one, true_and, and_true, and_self, Bool.not_true, Bool.not_false, Nat.succ_ne_zero, dT, dF, e_add, e_sub, e_lt, e_gt, e_ge, e_le, e_int, e_abs, e1]; rfl) rfl rfl (lc_consS (s' := [X, .tr (L3 p q r), .tr (L3 (red p) (red q) (red r)), .no, .no, .no, .no, .no, .no, .no, .no]) (s1 := [X, .tr (L3 p q r), .tr (L3 (red p) (red q) (red r)), .tr (.int q.1), .tr (.int q.2), .no, .no, .no, .no, .no, .no]) rfl rfl (by simp only [defF, defN, back, fSeq, fNx, fAsg, fOp, fUn, fV, fC, fgN, fgT, fgsC, fgs0, fCB, fCons, fNil, fIfS, fB, fTru, fNot, fAnd, fOr, fAndV, fOrV, fNotV, fIf, fRet, fRetN, fDrop, fPar, fSetO, fIxO, fTup, fLst, fCall, fCallO, fCallS, fChain, fFor, fLc, fiA, fiR1, fIsi, fYes, D.tyN, List.getElem?_cons_zero, List.getElem?_cons_succ, List.set_cons_zero, List.set_cons_succ, List.length_cons, List.length_nil, List.length_set, List.length_append, List.length_replicate, List.cons_append, List.nil_append, List.replicate_succ, List.replicate_zero, List.map_cons, List.map_nil, List.mapIdx_cons, List.mapIdx_nil, Option.getD_some, ite_true, ite_false, if_true, if_false, reduceIte, reduceCtorEq, Nat.reduceAdd, Nat.reduceSub, Nat.reduceLT, Nat.reduceLeDiff, Nat.reduceEqDiff, Nat.zero_add, Nat.zero_lt_succ, Nat.lt_add_one, true_and, and_true, and_self, Bool.not_true, Bool.not_false, Nat.succ_ne_zero, dT, dF, e_add, e_sub, e_lt, e_gt, e_ge, e_le, e_int, e_abs, e2]; rfl) rfl rfl (lc_consS (s' := [X, .tr (L3 p q r), .tr (L3 (red p) (red q) (red r)), .no, .no, .no, .no, .no, .no, .no, .no]) (s1 := [X, .tr (L3 p q r), .tr (L3 (red p) (red q) (red r)), .tr (.int r.1), .tr (.int r.2), .no, .no, .no, .no, .no, .no]) rfl rfl (by simp only [defF, defN, back, fSeq, fNx, fAsg, fOp, fUn, fV, fC, fgN, fgT, fgsC, fgs0, fCB, fCons, fNil, fIfS, fB, fTru, fNot, fAnd, fOr, fAndV, fOrV, fNotV, fIf, fRet, fRetN, fDrop, fPar, fSetO, fIxO, fTup, fLst, fCall, fCallO, fCallS, fChain, fFor, fLc, fiA, fiR1, fIsi, fYes, D.tyN, List.getElem?_cons_zero, List.getElem?_cons_succ, List.set_cons_zero, List.set_cons_succ, List.length_cons, List.length_nil, List.length_set, List.length_append, List.length_replicate, List.cons_append, List.nil_append, List.replicate_succ, List.replicate_zero, List.map_cons, List.map_nil, List.mapIdx_cons, List.mapIdx_nil, Option.getD_some, ite_true, ite_false, if_true, if_false, reduceIte, reduceCtorEq, Nat.reduceAdd, Nat.reduceSub, Nat.reduceLT, Nat.reduceLeDiff, Nat.reduceEqDiff, Nat.zero_add, Nat.zero_lt_succ, Nat.lt_add_one, true_and, and_true, and_self, Bool.not_true, Bool.not_false, Nat.succ_ne_zero, dT, dF, e_add, e_sub, e_lt, e_gt, e_ge, e_le, e_int, e_abs, e3]; rfl) rfl rfl lc_nil)))
  unfold q2
  simp only [defF, defN, back, fSeq, fNx, fAsg, fOp, fUn, fV, fC, fgN, fgT, fgsC, fgs0, fCB, fCons, fNil, fIfS, fB, fTru, fNot, fAnd, fOr, fAndV, fOrV, fNotV, fIf, fRet, fRetN, fDrop, fPar, fSetO, fIxO, fTup, fLst, fCall, fCallO, fCallS, fChain, fFor, fIsi, fYes, D.tyN, List.getElem?_cons_zero, List.getElem?_cons_succ, List.set_cons_zero, List.set_cons_succ, List.length_cons, List.length_nil, List.length_set, List.length_append, List.length_replicate, List.cons_append, List.nil_append, List.replicate_succ, List.replicate_zero, List.map_cons, List.map_nil, List.mapIdx_cons, List.mapIdx_nil, Option.getD_some, ite_true, ite_false, if_true, if_false, reduceIte, reduceCtorEq, Nat.reduceAdd, Nat.reduceSub, Nat.reduceLT, Nat.reduceLeDiff, Nat.reduceEqDiff, Nat.zero_add, Nat.zero_lt_succ, Nat.lt_add_one, true_and, and_true, and_self, Bool.not_true, Bool.not_false, Nat.succ_ne_zero, dT, dF, e_add, e_sub, e_lt, e_gt, e_ge, e_le, e_int, e_abs, l, gNe_self (sh3 _ _ _)]
theorem q3_ok (X Y : Sl) {u v w : Int × Int} (hu : Fr u) (hv : Fr v) (hw : Fr w) : q3 [X, Y, .tr (L3 u v w), .no, .no, .no, .no, .no, .no, .no, .no] = some (.nx, [X, Y, .tr (L3 u v w), .no, .no, .no, .no, .no, .no, .no, .no]) := by
  obtain ⟨_, e1⟩ := is_lowest hu.1
  obtain ⟨_, e2⟩ := is_lowest hv.1
  obtain ⟨_, e3⟩ := is_lowest hw.1
  rw [decide_eq_true hu.2] at e1
  rw [decide_eq_true hv.2] at e2
  rw [decide_eq_true hw.2] at e3
  have l : fLc (fiA (fV 2)) (fgN 3) (fNot (fTru (fCall 1 m_law_is_lowest (fCons (fV 3) fNil)))) (fV 3) [3] [X, Y, .tr (L3 u v w), .no, .no, .no, .no, .no, .no, .no, .no] = some (.lst [], [X, Y, .tr (L3 u v w), .no, .no, .no, .no, .no, .no, .no, .no]) :=
    lc_eq (ds := [F u, F v, F w]) (s1 := [X, Y, .tr (L3 u v w), .no, .no, .no, .no, .no, .no, .no, .no]) rfl rfl (by show 3 ≤ 100000; decide) (lc_skipS (s' := [X, Y, .tr (L3 u v w), .no, .no, .no, .no, .no, .no, .no, .no]) (s1 := [X, Y, .tr (L3 u v w), .tr (F u), .no, .no, .no, .no, .no, .no, .no]) rfl (by simp only [defF, defN, back, fSeq, fNx, fAsg, fOp, fUn, fV, fC, fgN, fgT, fgsC, fgs0, fCB, fCons, fNil, fIfS, fB, fTru, fNot, fAnd, fOr, fAndV, fOrV, fNotV, fIf, fRet, fRetN, fDrop, fPar, fSetO, fIxO, fTup, fLst, fCall, fCallO, fCallS, fChain, fFor, fLc, fiA, fiR1, fIsi, fYes, D.tyN, List.getElem?_cons_zero, List.getElem?_cons_succ, List.set_cons_zero, List.set_cons_succ, List.length_cons, List.length_nil, List.length_set, List.length_append, List.length_replicate, List.cons_append, List.nil_append, List.replicate_succ, List.replicate_zero, List.map_cons, List.map_nil, List.mapIdx_cons, List.mapIdx_nil, Option.getD_some, ite_true, ite_false, if_true, if_false, reduceIte, reduceCtorEq, Nat.reduceAdd, Nat.reduceSub, Nat.reduceLT, Nat.reduceLeDiff, Nat.reduceEqDiff, Nat.zero_add, Nat.zero_lt_succ, Nat.lt_add_one, true_and, and_true, and_self, Bool.not_true, Bool.not_false, Nat.succ_ne_zero, dT, dF, e_add, e_sub, e_lt, e_gt, e_ge, e_le, e_int, e_abs, e1]; rfl) rfl rfl (lc_skipS (s' := [X, Y, .tr (L3 u v w), .no, .no, .no, .no, .no, .no, .no, .no]) (s1 := [X, Y, .tr (L3 u v w), .tr (F v), .no, .no, .no, .no, .no, .no, .no]) rfl (by simp only [defF, defN, back, fSeq, fNx, fAsg, fOp, fUn, fV, fC, fgN, fgT, fgsC, fgs0, fCB, fCons, fNil, fIfS, fB, fTru, fNot, fAnd, fOr, fAndV, fOrV, fNotV, fIf, fRet, fRetN, fDrop, fPar, fSetO, fIxO, fTup, fLst, fCall, fCallO, fCallS, fChain, fFor, fLc, fiA, fiR1, fIsi, fYes, D.tyN, List.getElem?_cons_zero, List.getElem?_cons_succ, List.set_cons_zero, List.set_cons_succ, List.length_cons, List.length_nil, List.length_set, List.length_append, List.length_replicate, List.cons_append, List.nil_append, List.replicate_succ, List.replicate_zero, List.map_cons, List.map_nil, List.mapIdx_cons, List.mapIdx_nil, Option.getD_some, ite_true, ite_false, if_true, if_false, reduceIte, reduceCtorEq, Nat.reduceAdd, Nat.reduceSub, Nat.reduceLT, Nat.reduceLeDiff, Nat.reduceEqDiff, Nat.zero_add, Nat.zero_lt_succ, Nat.lt_add_one, true_and, and_true, and_self, Bool.not_true, Bool.not_false, Nat.succ_ne_zero, dT, dF, e_add, e_sub, e_lt, e_gt, e_ge, e_le, e_int, e_abs, e2]; rfl) rfl rfl (lc_skipS (s' := [X, Y, .tr (L3 u v w), .no, .no, .no, .no, .no, .no, .no, .no]) (s1 := [X, Y, .tr (L3 u v w), .tr (F w), .no, .no, .no, .no, .no, .no, .no]) rfl (by simp only [defF, defN, back, fSeq, fNx, fAsg, fOp, fUn, fV, fC, fgN, fgT, fgsC, fgs0, fCB, fCons, fNil, fIfS, fB, fTru, fNot, fAnd, fOr, fAndV, fOrV, fNotV, fIf, fRet, fRetN, fDrop, fPar, fSetO, fIxO, fTup, fLst, fCall, fCallO, fCallS, fChain, fFor, fLc, fiA, fiR1, fIsi, fYes, D.tyN, List.getElem?_cons_zero, List.getElem?_cons_succ, List.set_cons_zero, List.set_cons_succ, List.length_cons, List.length_nil, List.length_set, List.length_append, List.length_replicate, List.cons_append, List.nil_append, List.replicate_succ, List.replicate_zero, List.map_cons, List.map_nil, List.mapIdx_cons, List.mapIdx_nil, Option.getD_some, ite_true, ite_false, if_true, if_false, reduceIte, reduceCtorEq, Nat.reduceAdd, Nat.reduceSub, Nat.reduceLT, Nat.reduceLeDiff, Nat.reduceEqDiff, Nat.zero_add, Nat.zero_lt_succ, Nat.lt_add_one, true_and, and_true, and_self, Bool.not_true, Bool.not_false, Nat.succ_ne_zero, dT, dF, e_add, e_sub, e_lt, e_gt, e_ge, e_le, e_int, e_abs, e3]; rfl) rfl rfl lc_nil)))
  have nn : gNeD (.lst []) (.lst []) = some (.bl false) := gNe_self rfl
  unfold q3
  simp only [defF, defN, back, fSeq, fNx, fAsg, fOp, fUn, fV, fC, fgN, fgT, fgsC, fgs0, fCB, fCons, fNil, fIfS, fB, fTru, fNot, fAnd, fOr, fAndV, fOrV, fNotV, fIf, fRet, fRetN, fDrop, fPar, fSetO, fIxO, fTup, fLst, fCall, fCallO, fCallS, fChain, fFor, fIsi, fYes, D.tyN, List.getElem?_cons_zero, List.getElem?_cons_succ, List.set_cons_zero, List.set_cons_succ, List.length_cons, List.length_nil, List.length_set, List.length_append, List.length_replicate, List.cons_append, List.nil_append, List.replicate_succ, List.replicate_zero, List.map_cons, List.map_nil, List.mapIdx_cons, List.mapIdx_nil, Option.getD_some, ite_true, ite_false, if_true, if_false, reduceIte, reduceCtorEq, Nat.reduceAdd, Nat.reduceSub, Nat.reduceLT, Nat.reduceLeDiff, Nat.reduceEqDiff, Nat.zero_add, Nat.zero_lt_succ, Nat.lt_add_one, true_and, and_true, and_self, Bool.not_true, Bool.not_false, Nat.succ_ne_zero, dT, dF, e_add, e_sub, e_lt, e_gt, e_ge, e_le, e_int, e_abs, l, nn]
def q4b : FS := (fIfS (fOr (fB (fOp gNeD (fCall 2 m_is_lower (fCons (fV 3) (fCons (fV 4) fNil))) (fCall 2 m_law_less (fCons (fV 3) (fCons (fV 4) fNil))))) (fAnd (fTru (fCall 2 m_is_lower (fCons (fV 3) (fCons (fV 4) fNil)))) (fTru (fCall 2 m_is_lower (fCons (fV 4) (fCons (fV 3) fNil)))))) (fRet (fC (.bl false))) fNx)
theorem q4_eq : q4 = fFor (fiA (fLst (fCons (fTup (fCons (fOp gIx (fV 2) (fC (.int 0))) (fCons (fOp gIx (fV 2) (fC (.int 1))) fNil))) (fCons (fTup (fCons (fOp gIx (fV 2) (fC (.int 1))) (fCons (fOp gIx (fV 2) (fC (.int 2))) fNil))) (fCons (fTup (fCons (fOp gIx (fV 2) (fC (.int 2))) (fCons (fOp gIx (fV 2) (fC (.int 2))) fNil))) fNil))))) (fgT 2 (fgsC (fgN 3) (fgsC (fgN 4) fgs0))) q4b := rfl
theorem ls_asym {p q : Int × Int} (h : ls p q = true) : ls q p = false := by
  have h := of_decide_eq_true (show decide (p.1 * q.2 < q.1 * p.2) = true from h)
  rw [ls_not]; omega
theorem x0 (a b c : D) : gIx (.lst [a, b, c]) (.int 0) = some a := rfl
theorem x1 (a b c : D) : gIx (.lst [a, b, c]) (.int 1) = some b := rfl
theorem x2 (a b c : D) : gIx (.lst [a, b, c]) (.int 2) = some c := rfl
theorem q4b_ok (X Y Z : Sl) {s t : Int × Int} (hs : Fr s) (ht : Fr t) : q4b [X, Y, Z, .tr (F s), .tr (F t), .no, .no, .no, .no, .no, .no] = some (.nx, [X, Y, Z, .tr (F s), .tr (F t), .no, .no, .no, .no, .no, .no]) := by
  obtain ⟨_, e1⟩ := is_lower hs ht
  obtain ⟨_, e2⟩ := is_lower ht hs
  obtain ⟨_, e3⟩ := less hs.1 ht.1
  unfold q4b
  cases c : ls s t with
  | true =>
    rw [c] at e1 e3
    rw [ls_asym c] at e2
    simp only [defF, defN, back, fSeq, fNx, fAsg, fOp, fUn, fV, fC, fgN, fgT, fgsC, fgs0, fCB, fCons, fNil, fIfS, fB, fTru, fNot, fAnd, fOr, fAndV, fOrV, fNotV, fIf, fRet, fRetN, fDrop, fPar, fSetO, fIxO, fTup, fLst, fCall, fCallO, fCallS, fChain, fFor, fLc, fiA, fiR1, fIsi, fYes, D.tyN, List.getElem?_cons_zero, List.getElem?_cons_succ, List.set_cons_zero, List.set_cons_succ, List.length_cons, List.length_nil, List.length_set, List.length_append, List.length_replicate, List.cons_append, List.nil_append, List.replicate_succ, List.replicate_zero, List.map_cons, List.map_nil, List.mapIdx_cons, List.mapIdx_nil, Option.getD_some, ite_true, ite_false, if_true, if_false, reduceIte, reduceCtorEq, Nat.reduceAdd, Nat.reduceSub, Nat.reduceLT, Nat.reduceLeDiff, Nat.reduceEqDiff, Nat.zero_add, Nat.zero_lt_succ, Nat.lt_add_one, true_and, and_true, and_self, Bool.not_true, Bool.not_false, Nat.succ_ne_zero, dT, dF, e_add, e_sub, e_lt, e_gt, e_ge, e_le, e_int, e_abs, e1, e2, e3, gNe_bl]
  | false =>
    rw [c] at e1 e3
    simp only [defF, defN, back, fSeq, fNx, fAsg, fOp, fUn, fV, fC, fgN, fgT, fgsC, fgs0, fCB, fCons, fNil, fIfS, fB, fTru, fNot, fAnd, fOr, fAndV, fOrV, fNotV, fIf, fRet, fRetN, fDrop, fPar, fSetO, fIxO, fTup, fLst, fCall, fCallO, fCallS, fChain, fFor, fLc, fiA, fiR1, fIsi, fYes, D.tyN, List.getElem?_cons_zero, List.getElem?_cons_succ, List.set_cons_zero, List.set_cons_succ, List.length_cons, List.length_nil, List.length_set, List.length_append, List.length_replicate, List.cons_append, List.nil_append, List.replicate_succ, List.replicate_zero, List.map_cons, List.map_nil, List.mapIdx_cons, List.mapIdx_nil, Option.getD_some, ite_true, ite_false, if_true, if_false, reduceIte, reduceCtorEq, Nat.reduceAdd, Nat.reduceSub, Nat.reduceLT, Nat.reduceLeDiff, Nat.reduceEqDiff, Nat.zero_add, Nat.zero_lt_succ, Nat.lt_add_one, true_and, and_true, and_self, Bool.not_true, Bool.not_false, Nat.succ_ne_zero, dT, dF, e_add, e_sub, e_lt, e_gt, e_ge, e_le, e_int, e_abs, e1, e2, e3, gNe_bl]
theorem q4_ok (X Y : Sl) {u v w : Int × Int} (hu : Fr u) (hv : Fr v) (hw : Fr w) : q4 [X, Y, .tr (L3 u v w), .no, .no, .no, .no, .no, .no, .no, .no] = some (.nx, [X, Y, .tr (L3 u v w), .tr (F w), .tr (F w), .no, .no, .no, .no, .no, .no]) := by
  have b1 := q4b_ok X Y (.tr (L3 u v w)) hu hv
  have b2 := q4b_ok X Y (.tr (L3 u v w)) hv hw
  have b3 := q4b_ok X Y (.tr (L3 u v w)) hw hw
  rw [q4_eq]
  simp only [defF, defN, back, fSeq, fNx, fAsg, fOp, fUn, fV, fC, fgN, fgT, fgsC, fgs0, fCB, fCons, fNil, fIfS, fB, fTru, fNot, fAnd, fOr, fAndV, fOrV, fNotV, fIf, fRet, fRetN, fDrop, fPar, fSetO, fIxO, fTup, fLst, fCall, fCallO, fCallS, fChain, fFor, fLc, fiA, fiR1, fIsi, fYes, D.tyN, List.getElem?_cons_zero, List.getElem?_cons_succ, List.set_cons_zero, List.set_cons_succ, List.length_cons, List.length_nil, List.length_set, List.length_append, List.length_replicate, List.cons_append, List.nil_append, List.replicate_succ, List.replicate_zero, List.map_cons, List.map_nil, List.mapIdx_cons, List.mapIdx_nil, Option.getD_some, ite_true, ite_false, if_true, if_false, reduceIte, reduceCtorEq, Nat.reduceAdd, Nat.reduceSub, Nat.reduceLT, Nat.reduceLeDiff, Nat.reduceEqDiff, Nat.zero_add, Nat.zero_lt_succ, Nat.lt_add_one, true_and, and_true, and_self, Bool.not_true, Bool.not_false, Nat.succ_ne_zero, dT, dF, e_add, e_sub, e_lt, e_gt, e_ge, e_le, e_int, e_abs, loopF, x0, x1, x2, b1, b2, b3]
theorem q5_ok (X Y Z W : Sl) {u v w : Int × Int} (hu : Fr u) (hv : Fr v) (hw : Fr w) : q5 [X, Y, .tr (L3 u v w), Z, W, .no, .no, .no, .no, .no, .no] = some (.nx, [X, Y, .tr (L3 u v w), Z, W, .tr (F (gt2 (gt2 u v) w)), .no, .no, .no, .no, .no]) := by
  obtain ⟨_, e1⟩ := greatest3 hu hv hw
  unfold q5
  simp only [defF, defN, back, fSeq, fNx, fAsg, fOp, fUn, fV, fC, fgN, fgT, fgsC, fgs0, fCB, fCons, fNil, fIfS, fB, fTru, fNot, fAnd, fOr, fAndV, fOrV, fNotV, fIf, fRet, fRetN, fDrop, fPar, fSetO, fIxO, fTup, fLst, fCall, fCallO, fCallS, fChain, fFor, fLc, fiA, fiR1, fIsi, fYes, D.tyN, List.getElem?_cons_zero, List.getElem?_cons_succ, List.set_cons_zero, List.set_cons_succ, List.length_cons, List.length_nil, List.length_set, List.length_append, List.length_replicate, List.cons_append, List.nil_append, List.replicate_succ, List.replicate_zero, List.map_cons, List.map_nil, List.mapIdx_cons, List.mapIdx_nil, Option.getD_some, ite_true, ite_false, if_true, if_false, reduceIte, reduceCtorEq, Nat.reduceAdd, Nat.reduceSub, Nat.reduceLT, Nat.reduceLeDiff, Nat.reduceEqDiff, Nat.zero_add, Nat.zero_lt_succ, Nat.lt_add_one, true_and, and_true, and_self, Bool.not_true, Bool.not_false, Nat.succ_ne_zero, dT, dF, e_add, e_sub, e_lt, e_gt, e_ge, e_le, e_int, e_abs, x0, x1, x2, e1]
theorem notin {u v w m : Int × Int} (h : m = u ∨ m = v ∨ m = w) : gNotInD (F m) (L3 u v w) = some (.bl false) := by
  have r : ∀ p : Int × Int, PyData.eqv (F p).py (F p).py = true := fun p => SeqAt.eqv_refl _ (SeqAt.canLay_of_shaped (shF p))
  have e : gNotInD (F m) (L3 u v w) = some (.bl (!(D.pys [F u, F v, F w]).any fun z => PyData.eqv z (F m).py)) := rfl
  have a : ((D.pys [F u, F v, F w]).any fun z => PyData.eqv z (F m).py) = true := by
    show (PyData.eqv (F u).py (F m).py || (PyData.eqv (F v).py (F m).py || (PyData.eqv (F w).py (F m).py || false))) = true
    rcases h with rfl | rfl | rfl
    · rw [r]; rfl
    · rw [r, Bool.true_or, Bool.or_true]
    · rw [r, Bool.true_or, Bool.or_true, Bool.or_true]
  rw [e, a]
  rfl
theorem q6_ok (X Y : Sl) (z1 z2 : D) {u v w m : Int × Int} (hu : Fr u) (hv : Fr v) (hw : Fr w) (hm : Fr m) (h : m = u ∨ m = v ∨ m = w) (h1 : ls m u = false) (h2 : ls m v = false) (h3 : ls m w = false) : q6 [X, Y, .tr (L3 u v w), .tr z1, .tr z2, .tr (F m), .no, .no, .no, .no, .no] = some (.nx, [X, Y, .tr (L3 u v w), .tr z1, .tr z2, .tr (F m), .no, .no, .no, .no, .no]) := by
  obtain ⟨_, e1⟩ := less hm.1 hu.1
  obtain ⟨_, e2⟩ := less hm.1 hv.1
  obtain ⟨_, e3⟩ := less hm.1 hw.1
  rw [h1] at e1
  rw [h2] at e2
  rw [h3] at e3
  obtain ⟨_, e4⟩ := greatest1 hv
  have l : fLc (fiA (fV 2)) (fgN 3) (fTru (fCall 2 m_law_less (fCons (fV 5) (fCons (fV 3) fNil)))) (fV 3) [3] [X, Y, .tr (L3 u v w), .tr z1, .tr z2, .tr (F m), .no, .no, .no, .no, .no] = some (.lst [], [X, Y, .tr (L3 u v w), .tr z1, .tr z2, .tr (F m), .no, .no, .no, .no, .no]) :=
    lc_eq (ds := [F u, F v, F w]) (s1 := [X, Y, .tr (L3 u v w), .tr z1, .tr z2, .tr (F m), .no, .no, .no, .no, .no]) rfl rfl (by show 3 ≤ 100000; decide) (lc_skipS (s' := [X, Y, .tr (L3 u v w), .no, .tr z2, .tr (F m), .no, .no, .no, .no, .no]) (s1 := [X, Y, .tr (L3 u v w), .tr (F u), .tr z2, .tr (F m), .no, .no, .no, .no, .no]) rfl (by simp only [defF, defN, back, fSeq, fNx, fAsg, fOp, fUn, fV, fC, fgN, fgT, fgsC, fgs0, fCB, fCons, fNil, fIfS, fB, fTru, fNot, fAnd, fOr, fAndV, fOrV, fNotV, fIf, fRet, fRetN, fDrop, fPar, fSetO, fIxO, fTup, fLst, fCall, fCallO, fCallS, fChain, fFor, fLc, fiA, fiR1, fIsi, fYes, D.tyN, List.getElem?_cons_zero, List.getElem?_cons_succ, List.set_cons_zero, List.set_cons_succ, List.length_cons, List.length_nil, List.length_set, List.length_append, List.length_replicate, List.cons_append, List.nil_append, List.replicate_succ, List.replicate_zero, List.map_cons, List.map_nil, List.mapIdx_cons, List.mapIdx_nil, Option.getD_some, ite_true, ite_false, if_true, if_false, reduceIte, reduceCtorEq, Nat.reduceAdd, Nat.reduceSub, Nat.reduceLT, Nat.reduceLeDiff, Nat.reduceEqDiff, Nat.zero_add, Nat.zero_lt_succ, Nat.lt_add_one, true_and, and_true, and_self, Bool.not_true, Bool.not_false, Nat.succ_ne_zero, dT, dF, e_add, e_sub, e_lt, e_gt, e_ge, e_le, e_int, e_abs, e1]; rfl) rfl rfl (lc_skipS (s' := [X, Y, .tr (L3 u v w), .no, .tr z2, .tr (F m), .no, .no, .no, .no, .no]) (s1 := [X, Y, .tr (L3 u v w), .tr (F v), .tr z2, .tr (F m), .no, .no, .no, .no, .no]) rfl (by simp only [defF, defN, back, fSeq, fNx, fAsg, fOp, fUn, fV, fC, fgN, fgT, fgsC, fgs0, fCB, fCons, fNil, fIfS, fB, fTru, fNot, fAnd, fOr, fAndV, fOrV, fNotV, fIf, fRet, fRetN, fDrop, fPar, fSetO, fIxO, fTup, fLst, fCall, fCallO, fCallS, fChain, fFor, fLc, fiA, fiR1, fIsi, fYes, D.tyN, List.getElem?_cons_zero, List.getElem?_cons_succ, List.set_cons_zero, List.set_cons_succ, List.length_cons, List.length_nil, List.length_set, List.length_append, List.length_replicate, List.cons_append, List.nil_append, List.replicate_succ, List.replicate_zero, List.map_cons, List.map_nil, List.mapIdx_cons, List.mapIdx_nil, Option.getD_some, ite_true, ite_false, if_true, if_false, reduceIte, reduceCtorEq, Nat.reduceAdd, Nat.reduceSub, Nat.reduceLT, Nat.reduceLeDiff, Nat.reduceEqDiff, Nat.zero_add, Nat.zero_lt_succ, Nat.lt_add_one, true_and, and_true, and_self, Bool.not_true, Bool.not_false, Nat.succ_ne_zero, dT, dF, e_add, e_sub, e_lt, e_gt, e_ge, e_le, e_int, e_abs, e2]; rfl) rfl rfl (lc_skipS (s' := [X, Y, .tr (L3 u v w), .no, .tr z2, .tr (F m), .no, .no, .no, .no, .no]) (s1 := [X, Y, .tr (L3 u v w), .tr (F w), .tr z2, .tr (F m), .no, .no, .no, .no, .no]) rfl (by simp only [defF, defN, back, fSeq, fNx, fAsg, fOp, fUn, fV, fC, fgN, fgT, fgsC, fgs0, fCB, fCons, fNil, fIfS, fB, fTru, fNot, fAnd, fOr, fAndV, fOrV, fNotV, fIf, fRet, fRetN, fDrop, fPar, fSetO, fIxO, fTup, fLst, fCall, fCallO, fCallS, fChain, fFor, fLc, fiA, fiR1, fIsi, fYes, D.tyN, List.getElem?_cons_zero, List.getElem?_cons_succ, List.set_cons_zero, List.set_cons_succ, List.length_cons, List.length_nil, List.length_set, List.length_append, List.length_replicate, List.cons_append, List.nil_append, List.replicate_succ, List.replicate_zero, List.map_cons, List.map_nil, List.mapIdx_cons, List.mapIdx_nil, Option.getD_some, ite_true, ite_false, if_true, if_false, reduceIte, reduceCtorEq, Nat.reduceAdd, Nat.reduceSub, Nat.reduceLT, Nat.reduceLeDiff, Nat.reduceEqDiff, Nat.zero_add, Nat.zero_lt_succ, Nat.lt_add_one, true_and, and_true, and_self, Bool.not_true, Bool.not_false, Nat.succ_ne_zero, dT, dF, e_add, e_sub, e_lt, e_gt, e_ge, e_le, e_int, e_abs, e3]; rfl) rfl rfl lc_nil)))
  have nn : gNeD (.lst []) (.lst []) = some (.bl false) := gNe_self rfl
  unfold q6
  simp only [defF, defN, back, fSeq, fNx, fAsg, fOp, fUn, fV, fC, fgN, fgT, fgsC, fgs0, fCB, fCons, fNil, fIfS, fB, fTru, fNot, fAnd, fOr, fAndV, fOrV, fNotV, fIf, fRet, fRetN, fDrop, fPar, fSetO, fIxO, fTup, fLst, fCall, fCallO, fCallS, fChain, fFor, fIsi, fYes, D.tyN, List.getElem?_cons_zero, List.getElem?_cons_succ, List.set_cons_zero, List.set_cons_succ, List.length_cons, List.length_nil, List.length_set, List.length_append, List.length_replicate, List.cons_append, List.nil_append, List.replicate_succ, List.replicate_zero, List.map_cons, List.map_nil, List.mapIdx_cons, List.mapIdx_nil, Option.getD_some, ite_true, ite_false, if_true, if_false, reduceIte, reduceCtorEq, Nat.reduceAdd, Nat.reduceSub, Nat.reduceLT, Nat.reduceLeDiff, Nat.reduceEqDiff, Nat.zero_add, Nat.zero_lt_succ, Nat.lt_add_one, true_and, and_true, and_self, Bool.not_true, Bool.not_false, Nat.succ_ne_zero, dT, dF, e_add, e_sub, e_lt, e_gt, e_ge, e_le, e_int, e_abs, notin h, l, nn, e4, x1, gNe_self (shF v)]
theorem q7_ok (a b c : Int) (A B C E G : Sl) : ∃ k l a' c', 1 ≤ k ∧ k ≤ 10 ∧ 1 ≤ l ∧ l < 2 ^ 64 ∧ q7 [dc a b c, A, B, C, E, G, .no, .no, .no, .no, .no] = some (.nx, [dc a' b c', A, B, C, E, G, .tr (.int k), .tr (.int l), .no, .no, .no]) := by
  obtain ⟨k, a1, c1, k0, k1, e1⟩ := roll a b c 5 (by decide) (by decide)
  obtain ⟨l, a2, c2, l0, l1, e2⟩ := roll a1 b c1 1000 (by decide) (by decide)
  have w : ∃ t : Int, gPow (.int 10) (.int 11) = some (.int t) ∧ 0 < t ∧ t < 2 ^ 60 := ⟨10 ^ 11, e_pow4, by decide +kernel, by decide +kernel⟩
  obtain ⟨t, ht, ht0, ht1⟩ := w
  refine ⟨2 + k, t + l, a2, c2, by omega, by omega, by omega, by omega, ?_⟩
  unfold q7
  simp only [defF, defN, back, fSeq, fNx, fAsg, fOp, fUn, fV, fC, fgN, fgT, fgsC, fgs0, fCB, fCons, fNil, fIfS, fB, fTru, fNot, fAnd, fOr, fAndV, fOrV, fNotV, fIf, fRet, fRetN, fDrop, fPar, fSetO, fIxO, fTup, fLst, fCall, fCallO, fCallS, fChain, fFor, fLc, fiA, fiR1, fIsi, fYes, D.tyN, List.getElem?_cons_zero, List.getElem?_cons_succ, List.set_cons_zero, List.set_cons_succ, List.length_cons, List.length_nil, List.length_set, List.length_append, List.length_replicate, List.cons_append, List.nil_append, List.replicate_succ, List.replicate_zero, List.map_cons, List.map_nil, List.mapIdx_cons, List.mapIdx_nil, Option.getD_some, ite_true, ite_false, if_true, if_false, reduceIte, reduceCtorEq, Nat.reduceAdd, Nat.reduceSub, Nat.reduceLT, Nat.reduceLeDiff, Nat.reduceEqDiff, Nat.zero_add, Nat.zero_lt_succ, Nat.lt_add_one, true_and, and_true, and_self, Bool.not_true, Bool.not_false, Nat.succ_ne_zero, dT, dF, e_add, e_sub, e_lt, e_gt, e_ge, e_le, e_int, e_abs, e1, e2, ht]
theorem q8_ok (X A B C : Sl) {p q r v w : Int × Int} {k l : Int} (hp : Pr p) (hk : 1 ≤ k) (hk2 : k ≤ 10) (hl : 1 ≤ l) (hl2 : l < 2 ^ 64) : q8 [X, .tr (L3 p q r), .tr (L3 (red p) v w), A, B, C, .tr (.int k), .tr (.int l), .no, .no, .no] = some (.nx, [X, .tr (L3 p q r), .tr (L3 (red p) v w), A, B, C, .tr (.int k), .tr (.int l), .no, .no, .no]) := by
  obtain ⟨_, e1⟩ := frac_mul hp hk hk2
  obtain ⟨_, e2⟩ := frac_one hl hl2
  have a1 : DL.small64 p.1 = true := s64 (by have := hp.1; omega) (by have := hp.2.1; omega)
  have a2 : DL.small64 p.2 = true := s64 (by have := hp.2.2.1; omega) (by have := hp.2.2.2; omega)
  have n1 : gNeD (.tup [.int 1, .int 1]) (.tup [.int 1, .int 1]) = some (.bl false) := gNe_self rfl
  unfold q8
  simp only [defF, defN, back, fSeq, fNx, fAsg, fOp, fUn, fV, fC, fgN, fgT, fgsC, fgs0, fCB, fCons, fNil, fIfS, fB, fTru, fNot, fAnd, fOr, fAndV, fOrV, fNotV, fIf, fRet, fRetN, fDrop, fPar, fSetO, fIxO, fTup, fLst, fCall, fCallO, fCallS, fChain, fFor, fLc, fiA, fiR1, fIsi, fYes, D.tyN, List.getElem?_cons_zero, List.getElem?_cons_succ, List.set_cons_zero, List.set_cons_succ, List.length_cons, List.length_nil, List.length_set, List.length_append, List.length_replicate, List.cons_append, List.nil_append, List.replicate_succ, List.replicate_zero, List.map_cons, List.map_nil, List.mapIdx_cons, List.mapIdx_nil, Option.getD_some, ite_true, ite_false, if_true, if_false, reduceIte, reduceCtorEq, Nat.reduceAdd, Nat.reduceSub, Nat.reduceLT, Nat.reduceLeDiff, Nat.reduceEqDiff, Nat.zero_add, Nat.zero_lt_succ, Nat.lt_add_one, true_and, and_true, and_self, Bool.not_true, Bool.not_false, Nat.succ_ne_zero, dT, dF, e_add, e_sub, e_lt, e_gt, e_ge, e_le, e_int, e_abs, x0, ix0, ix1, e_mul (.inl a1), e_mul (.inl a2), e1, e2, gNe_self (shF (red p)), n1]
def near (p u : Int × Int) : List D := [F u, F p, .tup [.int u.1, .int 0], .tup [.int u.1, .int (-1)], .tup [.int u.1, .int u.2, .int 1], .lst [.int u.1, .int u.2], .tup [.bl true, .int 2]]
theorem q9_ok (X A B C E G : Sl) {p q r u v w : Int × Int} : q9 [X, .tr (L3 p q r), .tr (L3 u v w), A, B, C, E, G, .no, .no, .no] = some (.nx, [X, .tr (L3 p q r), .tr (L3 u v w), A, B, C, E, G, .tr (.lst (near p u)), .no, .no]) := by
  have c1 : gAdd (F u) (.tup [.int 1]) = some (.tup [.int u.1, .int u.2, .int 1]) := rfl
  have c2 : gList [F u] = some (.lst [.int u.1, .int u.2]) := rfl
  have c3 : gNeg (.int 1) = some (.int (-1)) := rfl
  unfold q9
  simp only [defF, defN, back, fSeq, fNx, fAsg, fOp, fUn, fV, fC, fgN, fgT, fgsC, fgs0, fCB, fCons, fNil, fIfS, fB, fTru, fNot, fAnd, fOr, fAndV, fOrV, fNotV, fIf, fRet, fRetN, fDrop, fPar, fSetO, fIxO, fTup, fLst, fCall, fCallO, fCallS, fChain, fFor, fLc, fiA, fiR1, fIsi, fYes, D.tyN, List.getElem?_cons_zero, List.getElem?_cons_succ, List.set_cons_zero, List.set_cons_succ, List.length_cons, List.length_nil, List.length_set, List.length_append, List.length_replicate, List.cons_append, List.nil_append, List.replicate_succ, List.replicate_zero, List.map_cons, List.map_nil, List.mapIdx_cons, List.mapIdx_nil, Option.getD_some, ite_true, ite_false, if_true, if_false, reduceIte, reduceCtorEq, Nat.reduceAdd, Nat.reduceSub, Nat.reduceLT, Nat.reduceLeDiff, Nat.reduceEqDiff, Nat.zero_add, Nat.zero_lt_succ, Nat.lt_add_one, true_and, and_true, and_self, Bool.not_true, Bool.not_false, Nat.succ_ne_zero, dT, dF, e_add, e_sub, e_lt, e_gt, e_ge, e_le, e_int, e_abs, x0, ix0, c1, c2, c3]
  rfl
def near2 (p u : Int × Int) : List D := near p u ++ [.tup [.int 1, .bl true], .non, .int 3]
theorem q10_ok (X A B C E G R T : Sl) {p u : Int × Int} : q10 [X, R, T, A, B, C, E, G, .tr (.lst (near p u)), .no, .no] = some (.nx, [X, R, T, A, B, C, E, G, .tr (.lst (near2 p u)), .no, .no]) := by
  have c1 : gAdd (.lst (near p u)) (.lst [.tup [.int 1, .bl true], .non, .int 3]) = some (.lst (near2 p u)) := rfl
  unfold q10
  simp only [defF, defN, back, fSeq, fNx, fAsg, fOp, fUn, fV, fC, fgN, fgT, fgsC, fgs0, fCB, fCons, fNil, fIfS, fB, fTru, fNot, fAnd, fOr, fAndV, fOrV, fNotV, fIf, fRet, fRetN, fDrop, fPar, fSetO, fIxO, fTup, fLst, fCall, fCallO, fCallS, fChain, fFor, fLc, fiA, fiR1, fIsi, fYes, D.tyN, List.getElem?_cons_zero, List.getElem?_cons_succ, List.set_cons_zero, List.set_cons_succ, List.length_cons, List.length_nil, List.length_set, List.length_append, List.length_replicate, List.cons_append, List.nil_append, List.replicate_succ, List.replicate_zero, List.map_cons, List.map_nil, List.mapIdx_cons, List.mapIdx_nil, Option.getD_some, ite_true, ite_false, if_true, if_false, reduceIte, reduceCtorEq, Nat.reduceAdd, Nat.reduceSub, Nat.reduceLT, Nat.reduceLeDiff, Nat.reduceEqDiff, Nat.zero_add, Nat.zero_lt_succ, Nat.lt_add_one, true_and, and_true, and_self, Bool.not_true, Bool.not_false, Nat.succ_ne_zero, dT, dF, e_add, e_sub, e_lt, e_gt, e_ge, e_le, e_int, e_abs, c1]
def due (b : Bool) : List D := [.bl true, .bl b, .bl false, .bl false, .bl false, .bl false, .bl false, .bl false, .bl false, .bl false]
theorem q11_ok (X A B C E G T N : Sl) {p q r : Int × Int} (hp : Pr p) : q11 [X, .tr (L3 p q r), T, A, B, C, E, G, N, .no, .no] = some (.nx, [X, .tr (L3 p q r), T, A, B, C, E, G, N, .tr (.lst (due (decide (gc p.1 p.2 = 1)))), .no]) := by
  obtain ⟨_, e1⟩ := is_lowest (p := p) ⟨by have := hp.1; omega, by have := hp.2.1; omega, by have := hp.2.2.1; omega, by have := hp.2.2.2; omega⟩
  have c0 : gMulA (.lst [.bl false]) (.int 8) = some (.lst [.bl false, .bl false, .bl false, .bl false, .bl false, .bl false, .bl false, .bl false]) := rfl
  have c1 : ∀ b : Bool, gAdd (.lst [.bl true, .bl b]) (.lst [.bl false, .bl false, .bl false, .bl false, .bl false, .bl false, .bl false, .bl false]) = some (.lst (due b)) := fun _ => rfl
  unfold q11
  simp only [defF, defN, back, fSeq, fNx, fAsg, fOp, fUn, fV, fC, fgN, fgT, fgsC, fgs0, fCB, fCons, fNil, fIfS, fB, fTru, fNot, fAnd, fOr, fAndV, fOrV, fNotV, fIf, fRet, fRetN, fDrop, fPar, fSetO, fIxO, fTup, fLst, fCall, fCallO, fCallS, fChain, fFor, fLc, fiA, fiR1, fIsi, fYes, D.tyN, List.getElem?_cons_zero, List.getElem?_cons_succ, List.set_cons_zero, List.set_cons_succ, List.length_cons, List.length_nil, List.length_set, List.length_append, List.length_replicate, List.cons_append, List.nil_append, List.replicate_succ, List.replicate_zero, List.map_cons, List.map_nil, List.mapIdx_cons, List.mapIdx_nil, Option.getD_some, ite_true, ite_false, if_true, if_false, reduceIte, reduceCtorEq, Nat.reduceAdd, Nat.reduceSub, Nat.reduceLT, Nat.reduceLeDiff, Nat.reduceEqDiff, Nat.zero_add, Nat.zero_lt_succ, Nat.lt_add_one, true_and, and_true, and_self, Bool.not_true, Bool.not_false, Nat.succ_ne_zero, dT, dF, e_add, e_sub, e_lt, e_gt, e_ge, e_le, e_int, e_abs, x0, e1, c0, c1]

theorem q12_ok (X C E G R T : Sl) (z1 z2 : D) {p u : Int × Int} (hp : Pr p) (hu : Fr u) : ∃ s', q12 [X, R, T, .tr z1, .tr z2, C, E, G, .tr (.lst (near2 p u)), .tr (.lst (due (decide (gc p.1 p.2 = 1)))), .no] = some (.rt (.bl true), s') ∧ s'[0]? = some X := by
  obtain ⟨Dd, hD⟩ : ∃ Dd, Dd = Sl.tr (.lst (due (decide (gc p.1 p.2 = 1)))) := ⟨_, rfl⟩
  rw [← hD]
  obtain ⟨_, f1⟩ := is_frac u.1 u.2
  rw [decide_eq_true (show 1 ≤ u.2 by have := hu.1.2.2.1; omega), decide_eq_true hu.2] at f1
  have f1 : m_is_fraction [.tr (F u)] = some (.bl true, _) := f1
  obtain ⟨_, f2⟩ := is_frac p.1 p.2
  rw [decide_eq_true hp.2.2.1, Bool.true_and] at f2
  have f2 : m_is_fraction [.tr (F p)] = some (.bl (decide (gc p.1 p.2 = 1)), _) := f2
  obtain ⟨_, f3⟩ := is_frac u.1 0
  rw [decide_eq_false (show ¬ (1 : Int) ≤ 0 by decide), Bool.false_and] at f3
  obtain ⟨_, f4⟩ := is_frac u.1 (-1)
  rw [decide_eq_false (show ¬ (1 : Int) ≤ -1 by decide), Bool.false_and] at f4
  obtain ⟨_, f5⟩ := is_frac3 (.int u.1) (.int u.2) (.int 1)
  obtain ⟨_, f6⟩ := is_fracL [.int u.1, .int u.2]
  obtain ⟨_, f7⟩ := is_fracB1 true (.int 2)
  obtain ⟨_, f8⟩ := is_fracB2 1 true
  obtain ⟨_, f9⟩ := is_fracN
  obtain ⟨_, f10⟩ := is_fracI 3
  obtain ⟨_, f11⟩ := is_frac 0 2
  have g02 : decide (gc 0 2 = 1) = false := by decide
  rw [g02, Bool.and_false] at f11
  have l : fLc (fiA (fV 8)) (fgN 3) fYes (fCall 1 m_is_fraction (fCons (fV 3) fNil)) [3] [X, R, T, .tr z1, .tr z2, C, E, G, .tr (.lst (near2 p u)), Dd, .no] = some (.lst (due (decide (gc p.1 p.2 = 1))), [X, R, T, .tr z1, .tr z2, C, E, G, .tr (.lst (near2 p u)), Dd, .no]) :=
    lc_eq (ds := near2 p u) (s1 := [X, R, T, .tr z1, .tr z2, C, E, G, .tr (.lst (near2 p u)), Dd, .no]) rfl rfl (by show 10 ≤ 100000; decide) (lc_consS (s' := [X, R, T, .no, .tr z2, C, E, G, .tr (.lst (near2 p u)), Dd, .no]) (s1 := [X, R, T, .tr (F u), .tr z2, C, E, G, .tr (.lst (near2 p u)), Dd, .no]) rfl rfl (by simp only [defF, defN, back, fSeq, fNx, fAsg, fOp, fUn, fV, fC, fgN, fgT, fgsC, fgs0, fCB, fCons, fNil, fIfS, fB, fTru, fNot, fAnd, fOr, fAndV, fOrV, fNotV, fIf, fRet, fRetN, fDrop, fPar, fSetO, fIxO, fTup, fLst, fCall, fCallO, fCallS, fChain, fFor, fLc, fiA, fiR1, fIsi, fYes, D.tyN, List.getElem?_cons_zero, List.getElem?_cons_succ, List.set_cons_zero, List.set_cons_succ, List.length_cons, List.length_nil, List.length_set, List.length_append, List.length_replicate, List.cons_append, List.nil_append, List.replicate_succ, List.replicate_zero, List.map_cons, List.map_nil, List.mapIdx_cons, List.mapIdx_nil, Option.getD_some, ite_true, ite_false, if_true, if_false, reduceIte, reduceCtorEq, Nat.reduceAdd, Nat.reduceSub, Nat.reduceLT, Nat.reduceLeDiff, Nat.reduceEqDiff, Nat.zero_add, Nat.zero_lt_succ, Nat.lt_add_one, true_and, and_true, and_self, Bool.not_true, Bool.not_false, Nat.succ_ne_zero, dT, dF, e_add, e_sub, e_lt, e_gt, e_ge, e_le, e_int, e_abs, f1]; rfl) rfl rfl (lc_consS (s' := [X, R, T, .no, .tr z2, C, E, G, .tr (.lst (near2 p u)), Dd, .no]) (s1 := [X, R, T, .tr (F p), .tr z2, C, E, G, .tr (.lst (near2 p u)), Dd, .no]) rfl rfl (by simp only [defF, defN, back, fSeq, fNx, fAsg, fOp, fUn, fV, fC, fgN, fgT, fgsC, fgs0, fCB, fCons, fNil, fIfS, fB, fTru, fNot, fAnd, fOr, fAndV, fOrV, fNotV, fIf, fRet, fRetN, fDrop, fPar, fSetO, fIxO, fTup, fLst, fCall, fCallO, fCallS, fChain, fFor, fLc, fiA, fiR1, fIsi, fYes, D.tyN, List.getElem?_cons_zero, List.getElem?_cons_succ, List.set_cons_zero, List.set_cons_succ, List.length_cons, List.length_nil, List.length_set, List.length_append, List.length_replicate, List.cons_append, List.nil_append, List.replicate_succ, List.replicate_zero, List.map_cons, List.map_nil, List.mapIdx_cons, List.mapIdx_nil, Option.getD_some, ite_true, ite_false, if_true, if_false, reduceIte, reduceCtorEq, Nat.reduceAdd, Nat.reduceSub, Nat.reduceLT, Nat.reduceLeDiff, Nat.reduceEqDiff, Nat.zero_add, Nat.zero_lt_succ, Nat.lt_add_one, true_and, and_true, and_self, Bool.not_true, Bool.not_false, Nat.succ_ne_zero, dT, dF, e_add, e_sub, e_lt, e_gt, e_ge, e_le, e_int, e_abs, f2]; rfl) rfl rfl (lc_consS (s' := [X, R, T, .no, .tr z2, C, E, G, .tr (.lst (near2 p u)), Dd, .no]) (s1 := [X, R, T, .tr (.tup [.int u.1, .int 0]), .tr z2, C, E, G, .tr (.lst (near2 p u)), Dd, .no]) rfl rfl (by simp only [defF, defN, back, fSeq, fNx, fAsg, fOp, fUn, fV, fC, fgN, fgT, fgsC, fgs0, fCB, fCons, fNil, fIfS, fB, fTru, fNot, fAnd, fOr, fAndV, fOrV, fNotV, fIf, fRet, fRetN, fDrop, fPar, fSetO, fIxO, fTup, fLst, fCall, fCallO, fCallS, fChain, fFor, fLc, fiA, fiR1, fIsi, fYes, D.tyN, List.getElem?_cons_zero, List.getElem?_cons_succ, List.set_cons_zero, List.set_cons_succ, List.length_cons, List.length_nil, List.length_set, List.length_append, List.length_replicate, List.cons_append, List.nil_append, List.replicate_succ, List.replicate_zero, List.map_cons, List.map_nil, List.mapIdx_cons, List.mapIdx_nil, Option.getD_some, ite_true, ite_false, if_true, if_false, reduceIte, reduceCtorEq, Nat.reduceAdd, Nat.reduceSub, Nat.reduceLT, Nat.reduceLeDiff, Nat.reduceEqDiff, Nat.zero_add, Nat.zero_lt_succ, Nat.lt_add_one, true_and, and_true, and_self, Bool.not_true, Bool.not_false, Nat.succ_ne_zero, dT, dF, e_add, e_sub, e_lt, e_gt, e_ge, e_le, e_int, e_abs, f3]; rfl) rfl rfl (lc_consS (s' := [X, R, T, .no, .tr z2, C, E, G, .tr (.lst (near2 p u)), Dd, .no]) (s1 := [X, R, T, .tr (.tup [.int u.1, .int (-1)]), .tr z2, C, E, G, .tr (.lst (near2 p u)), Dd, .no]) rfl rfl (by simp only [defF, defN, back, fSeq, fNx, fAsg, fOp, fUn, fV, fC, fgN, fgT, fgsC, fgs0, fCB, fCons, fNil, fIfS, fB, fTru, fNot, fAnd, fOr, fAndV, fOrV, fNotV, fIf, fRet, fRetN, fDrop, fPar, fSetO, fIxO, fTup, fLst, fCall, fCallO, fCallS, fChain, fFor, fLc, fiA, fiR1, fIsi, fYes, D.tyN, List.getElem?_cons_zero, List.getElem?_cons_succ, List.set_cons_zero, List.set_cons_succ, List.length_cons, List.length_nil, List.length_set, List.length_append, List.length_replicate, List.cons_append, List.nil_append, List.replicate_succ, List.replicate_zero, List.map_cons, List.map_nil, List.mapIdx_cons, List.mapIdx_nil, Option.getD_some, ite_true, ite_false, if_true, if_false, reduceIte, reduceCtorEq, Nat.reduceAdd, Nat.reduceSub, Nat.reduceLT, Nat.reduceLeDiff, Nat.reduceEqDiff, Nat.zero_add, Nat.zero_lt_succ, Nat.lt_add_one, true_and, and_true, and_self, Bool.not_true, Bool.not_false, Nat.succ_ne_zero, dT, dF, e_add, e_sub, e_lt, e_gt, e_ge, e_le, e_int, e_abs, f4]; rfl) rfl rfl (lc_consS (s' := [X, R, T, .no, .tr z2, C, E, G, .tr (.lst (near2 p u)), Dd, .no]) (s1 := [X, R, T, .tr (.tup [.int u.1, .int u.2, .int 1]), .tr z2, C, E, G, .tr (.lst (near2 p u)), Dd, .no]) rfl rfl (by simp only [defF, defN, back, fSeq, fNx, fAsg, fOp, fUn, fV, fC, fgN, fgT, fgsC, fgs0, fCB, fCons, fNil, fIfS, fB, fTru, fNot, fAnd, fOr, fAndV, fOrV, fNotV, fIf, fRet, fRetN, fDrop, fPar, fSetO, fIxO, fTup, fLst, fCall, fCallO, fCallS, fChain, fFor, fLc, fiA, fiR1, fIsi, fYes, D.tyN, List.getElem?_cons_zero, List.getElem?_cons_succ, List.set_cons_zero, List.set_cons_succ, List.length_cons, List.length_nil, List.length_set, List.length_append, List.length_replicate, List.cons_append, List.nil_append, List.replicate_succ, List.replicate_zero, List.map_cons, List.map_nil, List.mapIdx_cons, List.mapIdx_nil, Option.getD_some, ite_true, ite_false, if_true, if_false, reduceIte, reduceCtorEq, Nat.reduceAdd, Nat.reduceSub, Nat.reduceLT, Nat.reduceLeDiff, Nat.reduceEqDiff, Nat.zero_add, Nat.zero_lt_succ, Nat.lt_add_one, true_and, and_true, and_self, Bool.not_true, Bool.not_false, Nat.succ_ne_zero, dT, dF, e_add, e_sub, e_lt, e_gt, e_ge, e_le, e_int, e_abs, f5]; rfl) rfl rfl (lc_consS (s' := [X, R, T, .no, .tr z2, C, E, G, .tr (.lst (near2 p u)), Dd, .no]) (s1 := [X, R, T, .tr (.lst [.int u.1, .int u.2]), .tr z2, C, E, G, .tr (.lst (near2 p u)), Dd, .no]) rfl rfl (by simp only [defF, defN, back, fSeq, fNx, fAsg, fOp, fUn, fV, fC, fgN, fgT, fgsC, fgs0, fCB, fCons, fNil, fIfS, fB, fTru, fNot, fAnd, fOr, fAndV, fOrV, fNotV, fIf, fRet, fRetN, fDrop, fPar, fSetO, fIxO, fTup, fLst, fCall, fCallO, fCallS, fChain, fFor, fLc, fiA, fiR1, fIsi, fYes, D.tyN, List.getElem?_cons_zero, List.getElem?_cons_succ, List.set_cons_zero, List.set_cons_succ, List.length_cons, List.length_nil, List.length_set, List.length_append, List.length_replicate, List.cons_append, List.nil_append, List.replicate_succ, List.replicate_zero, List.map_cons, List.map_nil, List.mapIdx_cons, List.mapIdx_nil, Option.getD_some, ite_true, ite_false, if_true, if_false, reduceIte, reduceCtorEq, Nat.reduceAdd, Nat.reduceSub, Nat.reduceLT, Nat.reduceLeDiff, Nat.reduceEqDiff, Nat.zero_add, Nat.zero_lt_succ, Nat.lt_add_one, true_and, and_true, and_self, Bool.not_true, Bool.not_false, Nat.succ_ne_zero, dT, dF, e_add, e_sub, e_lt, e_gt, e_ge, e_le, e_int, e_abs, f6]; rfl) rfl rfl (lc_consS (s' := [X, R, T, .no, .tr z2, C, E, G, .tr (.lst (near2 p u)), Dd, .no]) (s1 := [X, R, T, .tr (.tup [.bl true, .int 2]), .tr z2, C, E, G, .tr (.lst (near2 p u)), Dd, .no]) rfl rfl (by simp only [defF, defN, back, fSeq, fNx, fAsg, fOp, fUn, fV, fC, fgN, fgT, fgsC, fgs0, fCB, fCons, fNil, fIfS, fB, fTru, fNot, fAnd, fOr, fAndV, fOrV, fNotV, fIf, fRet, fRetN, fDrop, fPar, fSetO, fIxO, fTup, fLst, fCall, fCallO, fCallS, fChain, fFor, fLc, fiA, fiR1, fIsi, fYes, D.tyN, List.getElem?_cons_zero, List.getElem?_cons_succ, List.set_cons_zero, List.set_cons_succ, List.length_cons, List.length_nil, List.length_set, List.length_append, List.length_replicate, List.cons_append, List.nil_append, List.replicate_succ, List.replicate_zero, List.map_cons, List.map_nil, List.mapIdx_cons, List.mapIdx_nil, Option.getD_some, ite_true, ite_false, if_true, if_false, reduceIte, reduceCtorEq, Nat.reduceAdd, Nat.reduceSub, Nat.reduceLT, Nat.reduceLeDiff, Nat.reduceEqDiff, Nat.zero_add, Nat.zero_lt_succ, Nat.lt_add_one, true_and, and_true, and_self, Bool.not_true, Bool.not_false, Nat.succ_ne_zero, dT, dF, e_add, e_sub, e_lt, e_gt, e_ge, e_le, e_int, e_abs, f7]; rfl) rfl rfl (lc_consS (s' := [X, R, T, .no, .tr z2, C, E, G, .tr (.lst (near2 p u)), Dd, .no]) (s1 := [X, R, T, .tr (.tup [.int 1, .bl true]), .tr z2, C, E, G, .tr (.lst (near2 p u)), Dd, .no]) rfl rfl (by simp only [defF, defN, back, fSeq, fNx, fAsg, fOp, fUn, fV, fC, fgN, fgT, fgsC, fgs0, fCB, fCons, fNil, fIfS, fB, fTru, fNot, fAnd, fOr, fAndV, fOrV, fNotV, fIf, fRet, fRetN, fDrop, fPar, fSetO, fIxO, fTup, fLst, fCall, fCallO, fCallS, fChain, fFor, fLc, fiA, fiR1, fIsi, fYes, D.tyN, List.getElem?_cons_zero, List.getElem?_cons_succ, List.set_cons_zero, List.set_cons_succ, List.length_cons, List.length_nil, List.length_set, List.length_append, List.length_replicate, List.cons_append, List.nil_append, List.replicate_succ, List.replicate_zero, List.map_cons, List.map_nil, List.mapIdx_cons, List.mapIdx_nil, Option.getD_some, ite_true, ite_false, if_true, if_false, reduceIte, reduceCtorEq, Nat.reduceAdd, Nat.reduceSub, Nat.reduceLT, Nat.reduceLeDiff, Nat.reduceEqDiff, Nat.zero_add, Nat.zero_lt_succ, Nat.lt_add_one, true_and, and_true, and_self, Bool.not_true, Bool.not_false, Nat.succ_ne_zero, dT, dF, e_add, e_sub, e_lt, e_gt, e_ge, e_le, e_int, e_abs, f8]; rfl) rfl rfl (lc_consS (s' := [X, R, T, .no, .tr z2, C, E, G, .tr (.lst (near2 p u)), Dd, .no]) (s1 := [X, R, T, .tr (.non), .tr z2, C, E, G, .tr (.lst (near2 p u)), Dd, .no]) rfl rfl (by simp only [defF, defN, back, fSeq, fNx, fAsg, fOp, fUn, fV, fC, fgN, fgT, fgsC, fgs0, fCB, fCons, fNil, fIfS, fB, fTru, fNot, fAnd, fOr, fAndV, fOrV, fNotV, fIf, fRet, fRetN, fDrop, fPar, fSetO, fIxO, fTup, fLst, fCall, fCallO, fCallS, fChain, fFor, fLc, fiA, fiR1, fIsi, fYes, D.tyN, List.getElem?_cons_zero, List.getElem?_cons_succ, List.set_cons_zero, List.set_cons_succ, List.length_cons, List.length_nil, List.length_set, List.length_append, List.length_replicate, List.cons_append, List.nil_append, List.replicate_succ, List.replicate_zero, List.map_cons, List.map_nil, List.mapIdx_cons, List.mapIdx_nil, Option.getD_some, ite_true, ite_false, if_true, if_false, reduceIte, reduceCtorEq, Nat.reduceAdd, Nat.reduceSub, Nat.reduceLT, Nat.reduceLeDiff, Nat.reduceEqDiff, Nat.zero_add, Nat.zero_lt_succ, Nat.lt_add_one, true_and, and_true, and_self, Bool.not_true, Bool.not_false, Nat.succ_ne_zero, dT, dF, e_add, e_sub, e_lt, e_gt, e_ge, e_le, e_int, e_abs, f9]; rfl) rfl rfl (lc_consS (s' := [X, R, T, .no, .tr z2, C, E, G, .tr (.lst (near2 p u)), Dd, .no]) (s1 := [X, R, T, .tr (.int 3), .tr z2, C, E, G, .tr (.lst (near2 p u)), Dd, .no]) rfl rfl (by simp only [defF, defN, back, fSeq, fNx, fAsg, fOp, fUn, fV, fC, fgN, fgT, fgsC, fgs0, fCB, fCons, fNil, fIfS, fB, fTru, fNot, fAnd, fOr, fAndV, fOrV, fNotV, fIf, fRet, fRetN, fDrop, fPar, fSetO, fIxO, fTup, fLst, fCall, fCallO, fCallS, fChain, fFor, fLc, fiA, fiR1, fIsi, fYes, D.tyN, List.getElem?_cons_zero, List.getElem?_cons_succ, List.set_cons_zero, List.set_cons_succ, List.length_cons, List.length_nil, List.length_set, List.length_append, List.length_replicate, List.cons_append, List.nil_append, List.replicate_succ, List.replicate_zero, List.map_cons, List.map_nil, List.mapIdx_cons, List.mapIdx_nil, Option.getD_some, ite_true, ite_false, if_true, if_false, reduceIte, reduceCtorEq, Nat.reduceAdd, Nat.reduceSub, Nat.reduceLT, Nat.reduceLeDiff, Nat.reduceEqDiff, Nat.zero_add, Nat.zero_lt_succ, Nat.lt_add_one, true_and, and_true, and_self, Bool.not_true, Bool.not_false, Nat.succ_ne_zero, dT, dF, e_add, e_sub, e_lt, e_gt, e_ge, e_le, e_int, e_abs, f10]; rfl) rfl rfl lc_nil))))))))))
  have ee : gEqD (.lst (due (decide (gc p.1 p.2 = 1)))) (.lst (due (decide (gc p.1 p.2 = 1)))) = some (.bl true) := gEq_self rfl
  have bb : gIsB (.bl false) (.bl false) = some (.bl true) := rfl
  subst hD
  unfold q12
  simp only [defF, defN, back, fSeq, fNx, fAsg, fOp, fUn, fV, fC, fgN, fgT, fgsC, fgs0, fCB, fCons, fNil, fIfS, fB, fTru, fNot, fAnd, fOr, fAndV, fOrV, fNotV, fIf, fRet, fRetN, fDrop, fPar, fSetO, fIxO, fTup, fLst, fCall, fCallO, fCallS, fChain, fFor, fIsi, fYes, D.tyN, List.getElem?_cons_zero, List.getElem?_cons_succ, List.set_cons_zero, List.set_cons_succ, List.length_cons, List.length_nil, List.length_set, List.length_append, List.length_replicate, List.cons_append, List.nil_append, List.replicate_succ, List.replicate_zero, List.map_cons, List.map_nil, List.mapIdx_cons, List.mapIdx_nil, Option.getD_some, ite_true, ite_false, if_true, if_false, reduceIte, reduceCtorEq, Nat.reduceAdd, Nat.reduceSub, Nat.reduceLT, Nat.reduceLeDiff, Nat.reduceEqDiff, Nat.zero_add, Nat.zero_lt_succ, Nat.lt_add_one, true_and, and_true, and_self, Bool.not_true, Bool.not_false, Nat.succ_ne_zero, dT, dF, e_add, e_sub, e_lt, e_gt, e_ge, e_le, e_int, e_abs, l, ee, f11, bb]
  exact ⟨_, rfl, rfl⟩
theorem right (a b c : Int) : ∃ a' c', m_law_right [dc a b c] = some (.bl true, [dc a' b c']) := by
  obtain ⟨p, q, r, a1, c1, hp, hq, hr, e0⟩ := q0_ok a b c
  have hu := red_fr hp
  have hv := red_fr hq
  have hw := red_fr hr
  have e1 := q1_ok (dc a1 b c1) hp hq hr
  have e2 := q2_ok (dc a1 b c1) hp hq hr
  have e3 := q3_ok (dc a1 b c1) (.tr (L3 p q r)) hu hv hw
  have e4 := q4_ok (dc a1 b c1) (.tr (L3 p q r)) hu hv hw
  have e5 := q5_ok (dc a1 b c1) (.tr (L3 p q r)) (.tr (F (red r))) (.tr (F (red r))) hu hv hw
  obtain ⟨m1, m2, m3⟩ := gt3_max hu hv hw
  have e6 := q6_ok (dc a1 b c1) (.tr (L3 p q r)) (F (red r)) (F (red r)) hu hv hw (fr2 (fr2 hu hv) hw) (gt3_in _ _ _) m1 m2 m3
  obtain ⟨k, l, a2, c2, k0, k1, l0, l1, e7⟩ := q7_ok a1 b c1 (.tr (L3 p q r)) (.tr (L3 (red p) (red q) (red r))) (.tr (F (red r))) (.tr (F (red r))) (.tr (F (gt2 (gt2 (red p) (red q)) (red r))))
  have e8 := q8_ok (dc a2 b c2) (.tr (F (red r))) (.tr (F (red r))) (.tr (F (gt2 (gt2 (red p) (red q)) (red r)))) (q := q) (r := r) (v := red q) (w := red r) hp k0 k1 l0 l1
  have e9 := q9_ok (dc a2 b c2) (.tr (F (red r))) (.tr (F (red r))) (.tr (F (gt2 (gt2 (red p) (red q)) (red r)))) (.tr (.int k)) (.tr (.int l)) (p := p) (q := q) (r := r) (u := red p) (v := red q) (w := red r)
  have e10 := q10_ok (dc a2 b c2) (.tr (F (red r))) (.tr (F (red r))) (.tr (F (gt2 (gt2 (red p) (red q)) (red r)))) (.tr (.int k)) (.tr (.int l)) (.tr (L3 p q r)) (.tr (L3 (red p) (red q) (red r))) (p := p) (u := red p)
  have e11 := q11_ok (dc a2 b c2) (.tr (F (red r))) (.tr (F (red r))) (.tr (F (gt2 (gt2 (red p) (red q)) (red r)))) (.tr (.int k)) (.tr (.int l)) (.tr (L3 (red p) (red q) (red r))) (.tr (.lst (near2 p (red p)))) (q := q) (r := r) hp
  obtain ⟨s', e12, h0⟩ := q12_ok (dc a2 b c2) (.tr (F (gt2 (gt2 (red p) (red q)) (red r)))) (.tr (.int k)) (.tr (.int l)) (.tr (L3 p q r)) (.tr (L3 (red p) (red q) (red r))) (F (red r)) (F (red r)) hp hu
  have ed : ([dc a b c] ++ List.replicate (11 - 1) Sl.no : List Sl) = [dc a b c, .no, .no, .no, .no, .no, .no, .no, .no, .no, .no] := rfl
  refine ⟨a2, c2, ?_⟩
  unfold m_law_right
  rw [b_right]
  unfold defF
  rw [ed]
  simp only [fSeq, e0, e1, e2, e3, e4, e5, e6, e7, e8, e9, e10, e11, e12]
  have hb : back [dc a b c] s' = [dc a2 b c2] := by
    show [(s'[0]?).getD .no] = _
    rw [h0]
    rfl
  rw [hb]
end K01
namespace K01
open PySem L2 DL TL
/-! ### places -/
abbrev sg (c : Nat) : Str := ⟨#[c]⟩
theorem lit_a : (("a" : Str)) = sg 97 := by decide +kernel
theorem lit_b : (("b" : Str)) = sg 98 := by decide +kernel
theorem lit_z : (("z" : Str)) = sg 122 := by decide +kernel
theorem le1 (a c : Nat) : gLeA (.str (sg a)) (.str (sg c)) = some (.bl (decide (a ≤ c))) := by
  have e : gLeA (.str (sg a)) (.str (sg c)) = some (.bl (!decide ([c] < [a]))) := rfl
  rw [e]
  have h : ([c] < [a]) ↔ c < a := by
    constructor
    · intro z
      rcases List.cons_lt_cons_iff.mp z with y | ⟨_, y⟩
      · exact y
      · exact absurd y (List.not_lt_nil _)
    · intro z
      exact List.cons_lt_cons_iff.mpr (.inl z)
  by_cases c' : a ≤ c
  · rw [decide_eq_true c', decide_eq_false (fun z => by have := h.mp z; omega)]
    rfl
  · rw [decide_eq_false c', decide_eq_true (h.mpr (by omega))]
    rfl
def okc (c : Nat) : Bool := decide (97 ≤ c) && decide (c ≤ 122)
theorem chain (c : Nat) (X : Sl) : fChain gLeA gLeA (fC (.str ("a" : Str))) (fV 1) (fC (.str ("z" : Str))) [X, .tr (.str (sg c))] = some (.bl (okc c), [X, .tr (.str (sg c))]) := by
  unfold okc
  rw [lit_a, lit_z]
  cases h : decide (97 ≤ c) with
  | true => simp only [defF, defN, back, fSeq, fNx, fAsg, fOp, fUn, fV, fC, fgN, fgT, fgsC, fgs0, fCB, fCons, fNil, fIfS, fB, fTru, fNot, fAnd, fOr, fAndV, fOrV, fNotV, fIf, fRet, fRetN, fDrop, fPar, fSetO, fIxO, fTup, fLst, fCall, fCallO, fCallS, fChain, fFor, fLc, fiA, fiR1, fIsi, fYes, D.tyN, List.getElem?_cons_zero, List.getElem?_cons_succ, List.set_cons_zero, List.set_cons_succ, List.length_cons, List.length_nil, List.length_set, List.length_append, List.length_replicate, List.cons_append, List.nil_append, List.replicate_succ, List.replicate_zero, List.map_cons, List.map_nil, List.mapIdx_cons, List.mapIdx_nil, Option.getD_some, ite_true, ite_false, if_true, if_false, reduceIte, reduceCtorEq, Nat.reduceAdd, Nat.reduceSub, Nat.reduceLT, Nat.reduceLeDiff, Nat.reduceEqDiff, Nat.zero_add, Nat.zero_lt_succ, Nat.lt_add_one, true_and, and_true, and_self, Bool.not_true, Bool.not_false, Nat.succ_ne_zero, dT, dF, e_add, e_sub, e_lt, e_gt, e_ge, e_le, e_int, e_abs, le1, h]; rfl
  | false => simp only [defF, defN, back, fSeq, fNx, fAsg, fOp, fUn, fV, fC, fgN, fgT, fgsC, fgs0, fCB, fCons, fNil, fIfS, fB, fTru, fNot, fAnd, fOr, fAndV, fOrV, fNotV, fIf, fRet, fRetN, fDrop, fPar, fSetO, fIxO, fTup, fLst, fCall, fCallO, fCallS, fChain, fFor, fLc, fiA, fiR1, fIsi, fYes, D.tyN, List.getElem?_cons_zero, List.getElem?_cons_succ, List.set_cons_zero, List.set_cons_succ, List.length_cons, List.length_nil, List.length_set, List.length_append, List.length_replicate, List.cons_append, List.nil_append, List.replicate_succ, List.replicate_zero, List.map_cons, List.map_nil, List.mapIdx_cons, List.mapIdx_nil, Option.getD_some, ite_true, ite_false, if_true, if_false, reduceIte, reduceCtorEq, Nat.reduceAdd, Nat.reduceSub, Nat.reduceLT, Nat.reduceLeDiff, Nat.reduceEqDiff, Nat.zero_add, Nat.zero_lt_succ, Nat.lt_add_one, true_and, and_true, and_self, Bool.not_true, Bool.not_false, Nat.succ_ne_zero, dT, dF, e_add, e_sub, e_lt, e_gt, e_ge, e_le, e_int, e_abs, le1, h]; rfl
theorem lets (X : Sl) : ∀ cs : List Nat, lcF (fgN 1) fYes (fChain gLeA gLeA (fC (.str ("a" : Str))) (fV 1) (fC (.str ("z" : Str)))) [1] (cs.map fun c => D.str (sg c)) [.tr (.str x), .no] = some (cs.map fun c => D.bl (okc c), [.tr (.str x), .no])
  | [] => rfl
  | c :: r => lc_consS (s' := [.tr (.str x), .no]) (s1 := [.tr (.str x), .tr (.str (sg c))]) rfl rfl (chain c _) rfl rfl (lets X r)
theorem bools_map (f : Nat → Bool) : ∀ cs : List Nat, bools (cs.map fun c => D.bl (f c)) = some (cs.map f)
  | [] => rfl
  | c :: r => by
    show (match bools (r.map fun c => D.bl (f c)) with
      | some bs => some (f c :: bs)
      | none => none) = _
    rw [bools_map f r]
    rfl
def ok (x : Str) : Bool := (decide (1 ≤ (x.length : Int)) && decide ((x.length : Int) ≤ 8)) && (tl x).all okc
theorem is_pl (x : Str) (hx : x.length ≤ 1000) : ∃ as', m_is_place [.tr (.str x)] = some (.bl (ok x), as') := by
  have k := kb.2.2.2.2.2.2.2.2.1
  have hl : x.length ≤ sizeLine := Nat.le_trans hx (by decide)
  have gl : gLen [.str x] = some (.int (x.length : Int)) := by
    show (if x.length ≤ sizeLine then some (D.int (x.length : Int)) else none) = _
    rw [if_pos hl]
  have hs : (signs x).length ≤ 100000 := by
    unfold signs
    rw [List.length_map, Array.length_toList]
    exact Nat.le_trans hx (by decide)
  have l : fLc (fiA (fV 0)) (fgN 1) fYes (fChain gLeA gLeA (fC (.str ("a" : Str))) (fV 1) (fC (.str ("z" : Str)))) [1] [.tr (.str x), .no] = some (.lst ((tl x).map fun c => D.bl (okc c)), [.tr (.str x), .no]) :=
    lc_eq (ds := signs x) (s1 := [.tr (.str x), .no]) rfl rfl hs (lets .no (tl x))
  have ga : gAll [.lst ((tl x).map fun c => D.bl (okc c))] = some (.bl ((tl x).all okc)) := by
    show (match bools ((tl x).map fun c => D.bl (okc c)) with
      | some bs => some (D.bl (bs.all id))
      | none => none) = _
    rw [bools_map]
    show some (D.bl (((tl x).map okc).all id)) = _
    rw [List.all_map]
    rfl
  unfold m_is_place b_is_place
  unfold ok
  cases h1 : decide (1 ≤ (x.length : Int)) with
  | false =>
    simp only [defF, defN, back, fSeq, fNx, fAsg, fOp, fUn, fV, fC, fgN, fgT, fgsC, fgs0, fCB, fCons, fNil, fIfS, fB, fTru, fNot, fAnd, fOr, fAndV, fOrV, fNotV, fIf, fRet, fRetN, fDrop, fPar, fSetO, fIxO, fTup, fLst, fCall, fCallO, fCallS, fChain, fFor, fIsi, fYes, D.tyN, List.getElem?_cons_zero, List.getElem?_cons_succ, List.set_cons_zero, List.set_cons_succ, List.length_cons, List.length_nil, List.length_set, List.length_append, List.length_replicate, List.cons_append, List.nil_append, List.replicate_succ, List.replicate_zero, List.map_cons, List.map_nil, List.mapIdx_cons, List.mapIdx_nil, Option.getD_some, ite_true, ite_false, if_true, if_false, reduceIte, reduceCtorEq, Nat.reduceAdd, Nat.reduceSub, Nat.reduceLT, Nat.reduceLeDiff, Nat.reduceEqDiff, Nat.zero_add, Nat.zero_lt_succ, Nat.lt_add_one, true_and, and_true, and_self, Bool.not_true, Bool.not_false, Nat.succ_ne_zero, dT, dF, e_add, e_sub, e_lt, e_gt, e_ge, e_le, e_int, e_abs, k, gl, h1]
    exact ⟨_, rfl⟩
  | true =>
    cases h2 : decide ((x.length : Int) ≤ 8) with
    | false =>
      simp only [defF, defN, back, fSeq, fNx, fAsg, fOp, fUn, fV, fC, fgN, fgT, fgsC, fgs0, fCB, fCons, fNil, fIfS, fB, fTru, fNot, fAnd, fOr, fAndV, fOrV, fNotV, fIf, fRet, fRetN, fDrop, fPar, fSetO, fIxO, fTup, fLst, fCall, fCallO, fCallS, fChain, fFor, fIsi, fYes, D.tyN, List.getElem?_cons_zero, List.getElem?_cons_succ, List.set_cons_zero, List.set_cons_succ, List.length_cons, List.length_nil, List.length_set, List.length_append, List.length_replicate, List.cons_append, List.nil_append, List.replicate_succ, List.replicate_zero, List.map_cons, List.map_nil, List.mapIdx_cons, List.mapIdx_nil, Option.getD_some, ite_true, ite_false, if_true, if_false, reduceIte, reduceCtorEq, Nat.reduceAdd, Nat.reduceSub, Nat.reduceLT, Nat.reduceLeDiff, Nat.reduceEqDiff, Nat.zero_add, Nat.zero_lt_succ, Nat.lt_add_one, true_and, and_true, and_self, Bool.not_true, Bool.not_false, Nat.succ_ne_zero, dT, dF, e_add, e_sub, e_lt, e_gt, e_ge, e_le, e_int, e_abs, k, gl, h1, h2]
      exact ⟨_, rfl⟩
    | true =>
      simp only [defF, defN, back, fSeq, fNx, fAsg, fOp, fUn, fV, fC, fgN, fgT, fgsC, fgs0, fCB, fCons, fNil, fIfS, fB, fTru, fNot, fAnd, fOr, fAndV, fOrV, fNotV, fIf, fRet, fRetN, fDrop, fPar, fSetO, fIxO, fTup, fLst, fCall, fCallO, fCallS, fChain, fFor, fIsi, fYes, D.tyN, List.getElem?_cons_zero, List.getElem?_cons_succ, List.set_cons_zero, List.set_cons_succ, List.length_cons, List.length_nil, List.length_set, List.length_append, List.length_replicate, List.cons_append, List.nil_append, List.replicate_succ, List.replicate_zero, List.map_cons, List.map_nil, List.mapIdx_cons, List.mapIdx_nil, Option.getD_some, ite_true, ite_false, if_true, if_false, reduceIte, reduceCtorEq, Nat.reduceAdd, Nat.reduceSub, Nat.reduceLT, Nat.reduceLeDiff, Nat.reduceEqDiff, Nat.zero_add, Nat.zero_lt_succ, Nat.lt_add_one, true_and, and_true, and_self, Bool.not_true, Bool.not_false, Nat.succ_ne_zero, dT, dF, e_add, e_sub, e_lt, e_gt, e_ge, e_le, e_int, e_abs, k, gl, h1, h2, l, ga]
      exact ⟨_, rfl⟩
theorem no_pl {d : D} (h : kitB d.tyN "str" = some false) : ∃ as', m_is_place [.tr d] = some (.bl false, as') := by
  unfold m_is_place b_is_place
  have e : fIsi "str" (fV 0) ([.tr d, .no] : Sd) = some (.bl false, [.tr d, .no]) := by
    unfold fIsi fV
    show (match kitB d.tyN "str" with
      | some b => some (D.bl b, ([.tr d, .no] : Sd))
      | none => none) = _
    rw [h]
  have e0 : ([.tr d] ++ List.replicate (2 - 1) Sl.no : List Sl) = [.tr d, .no] := rfl
  unfold defF
  rw [e0]
  simp only [fSeq, fIfS, fOr, fNot, fTru, e, Bool.not_false, fRet, fC]
  exact ⟨_, rfl⟩
/-! ### the word -/
theorem wlc : ∀ (ds : List D) (a b c : Int), ∃ (cs : List Nat) (a' c' : Int), lcF (fgN 3) fYes (fCallO 2 m_law_one_of 0 (fCons (fLst (fCons (fC (.str ("a" : Str))) (fCons (fC (.str ("b" : Str))) (fCons (fC (.str ("z" : Str))) fNil)))) fNil)) [3] ds [dc a b c, .no, .no, .no, .no] =
    some (cs.map fun c => D.str (sg c), [dc a' b c', .no, .no, .no, .no]) ∧ cs.length = ds.length ∧ ∀ c ∈ cs, okc c = true
  | [], a, b, c => ⟨[], a, c, rfl, rfl, fun _ h => by cases h⟩
  | d :: r, a, b, c => by
    obtain ⟨x, a1, c1, hx, e1⟩ := one_of a b c [.str (sg 97), .str (sg 98), .str (sg 122)] (by simp) (by simp)
    obtain ⟨u, hu, ho⟩ : ∃ u : Nat, x = .str (sg u) ∧ okc u = true := by
      simp only [List.mem_cons, List.not_mem_nil, or_false] at hx
      rcases hx with h | h | h
      · exact ⟨97, h, rfl⟩
      · exact ⟨98, h, rfl⟩
      · exact ⟨122, h, rfl⟩
    subst hu
    obtain ⟨cs, a2, c2, e2, hl, hc⟩ := wlc r a1 b c1
    refine ⟨u :: cs, a2, c2, ?_, by rw [List.length_cons, List.length_cons, hl], fun c h => ?_⟩
    · refine lc_consS (s' := [dc a1 b c1, .no, .no, .no, .no]) (s1 := [dc a b c, .no, .no, .tr d, .no]) (s3 := [dc a1 b c1, .no, .no, .tr d, .no]) rfl rfl ?_ rfl rfl e2
      rw [lit_a, lit_b, lit_z]
      simp only [defF, defN, back, fSeq, fNx, fAsg, fOp, fUn, fV, fC, fgN, fgT, fgsC, fgs0, fCB, fCons, fNil, fIfS, fB, fTru, fNot, fAnd, fOr, fAndV, fOrV, fNotV, fIf, fRet, fRetN, fDrop, fPar, fSetO, fIxO, fTup, fLst, fCall, fCallO, fCallS, fChain, fFor, fLc, fiA, fiR1, fIsi, fYes, D.tyN, List.getElem?_cons_zero, List.getElem?_cons_succ, List.set_cons_zero, List.set_cons_succ, List.length_cons, List.length_nil, List.length_set, List.length_append, List.length_replicate, List.cons_append, List.nil_append, List.replicate_succ, List.replicate_zero, List.map_cons, List.map_nil, List.mapIdx_cons, List.mapIdx_nil, Option.getD_some, ite_true, ite_false, if_true, if_false, reduceIte, reduceCtorEq, Nat.reduceAdd, Nat.reduceSub, Nat.reduceLT, Nat.reduceLeDiff, Nat.reduceEqDiff, Nat.zero_add, Nat.zero_lt_succ, Nat.lt_add_one, true_and, and_true, and_self, Bool.not_true, Bool.not_false, Nat.succ_ne_zero, dT, dF, e_add, e_sub, e_lt, e_gt, e_ge, e_le, e_int, e_abs, e1]
    · rcases List.mem_cons.mp h with e | h
      · rw [e]; exact ho
      · exact hc c h
theorem txts_map : ∀ cs : List Nat, txts (cs.map fun c => D.str (sg c)) = some (cs.map sg)
  | [] => rfl
  | c :: r => by
    show (match txts (r.map fun c => D.str (sg c)) with
      | some bs => some (sg c :: bs)
      | none => none) = _
    rw [txts_map r]
    rfl
theorem joinL_one : ∀ cs : List Nat, joinL [] (cs.map fun c => [c]) = cs
  | [] => rfl
  | [_] => rfl
  | x :: y :: r => by
    show [x] ++ ([] ++ joinL [] ((y :: r).map fun c => [c])) = _
    rw [joinL_one (y :: r)]
    rfl
theorem join_tl (cs : List Nat) : tl (Txt.join ("" : Str) (cs.map sg)) = cs := by
  rw [join_eq, tl_join, List.map_map]
  have e0 : tl ("" : Str) = [] := by decide +kernel
  rw [e0]
  exact joinL_one cs
theorem sum_one : ∀ cs : List Nat, ((cs.map sg).map (·.length)).sum = cs.length
  | [] => rfl
  | c :: r => by
    show 1 + ((r.map sg).map (·.length)).sum = r.length + 1
    rw [sum_one r]
    omega
end K01
namespace K01
open PySem L2 DL TL
def w0 : FS := fAsg (fJoin (fC (.str ("" : Str))) (fCons (fLc (fiR1 (fCons (fOp gAdd (fC (.int 1)) (fCallO 2 m_law_roll 0 (fCons (fC (.int 8)) fNil))) fNil)) (fgN 3) (fYes) (fCallO 2 m_law_one_of 0 (fCons (fLst (fCons (fC (.str ("a" : Str))) (fCons (fC (.str ("b" : Str))) (fCons (fC (.str ("z" : Str))) fNil)))) fNil)) [3]) fNil)) (fgN 1)
def w1 : FS := fAsg (fLst (fCons (fV 1) (fCons (fOp gAdd (fV 1) (fC (.str ("qqqqqqqq" : Str)))) (fCons (fOp gAdd (fV 1) (fC (.str ("A" : Str)))) (fCons (fC (.str ("" : Str))) (fCons (fOp gAdd (fV 1) (fC (.str (" " : Str)))) (fCons (fTup (fCons (fV 1) fNil)) (fCons (fC .non) (fCons (fC (.int 0)) (fCons (fC (.bl true)) (fCons (fLst (fCons (fV 1) fNil)) (fCons (fun s => some (.dK [], s)) (fCons (fOp gAdd (fV 1) (fC (.str ("1" : Str)))) fNil))))))))))))) (fgN 2)
def w2 : FS := fRet (fOp gEqD (fLc (fiA (fV 2)) (fgN 4) (fYes) (fCall 1 m_is_place (fCons (fV 4) fNil)) [4]) (fOp gAdd (fLst (fCons (fC (.bl true)) fNil)) (fOp gMulA (fLst (fCons (fC (.bl false)) fNil)) (fC (.int 11)))))
theorem b_places : b_law_places_right = fSeq w0 (fSeq w1 w2) := rfl
def Wd (w : Str) : Prop := 1 ≤ (tl w).length ∧ (tl w).length ≤ 8 ∧ (tl w).all okc = true
theorem w0_ok (a b c : Int) : ∃ w a' c', Wd w ∧ w0 [dc a b c, .no, .no, .no, .no] = some (.nx, [dc a' b c', .tr (.str w), .no, .no, .no]) := by
  obtain ⟨k, a1, c1, k0, k1, e1⟩ := roll a b c 8 (by decide) (by decide)
  have hk : -(2 ^ 62) ≤ 1 + k ∧ 1 + k < 2 ^ 62 := by omega
  obtain ⟨ds, hds⟩ : ∃ ds, ds = rngD 0 (1 + k).toNat := ⟨_, rfl⟩
  have hl : ds.length = (1 + k).toNat := by rw [hds, rngD_length]
  have fr : fiR1 (fCons (fOp gAdd (fC (.int 1)) (fCallO 2 m_law_roll 0 (fCons (fC (.int 8)) fNil))) fNil) [dc a b c, .no, .no, .no, .no] = some (ds, [dc a1 b c1, .no, .no, .no, .no]) := by
    unfold fiR1
    simp only [defF, defN, back, fSeq, fNx, fAsg, fOp, fUn, fV, fC, fgN, fgT, fgsC, fgs0, fCB, fCons, fNil, fIfS, fB, fTru, fNot, fAnd, fOr, fAndV, fOrV, fNotV, fIf, fRet, fRetN, fDrop, fPar, fSetO, fIxO, fTup, fLst, fCall, fCallO, fCallS, fChain, fFor, fIsi, fYes, D.tyN, List.getElem?_cons_zero, List.getElem?_cons_succ, List.set_cons_zero, List.set_cons_succ, List.length_cons, List.length_nil, List.length_set, List.length_append, List.length_replicate, List.cons_append, List.nil_append, List.replicate_succ, List.replicate_zero, List.map_cons, List.map_nil, List.mapIdx_cons, List.mapIdx_nil, Option.getD_some, ite_true, ite_false, if_true, if_false, reduceIte, reduceCtorEq, Nat.reduceAdd, Nat.reduceSub, Nat.reduceLT, Nat.reduceLeDiff, Nat.reduceEqDiff, Nat.zero_add, Nat.zero_lt_succ, Nat.lt_add_one, true_and, and_true, and_self, Bool.not_true, Bool.not_false, Nat.succ_ne_zero, dT, dF, e_add, e_sub, e_lt, e_gt, e_ge, e_le, e_int, e_abs, e1, if_pos hk]
    rw [hds]
  obtain ⟨cs, a2, c2, e2, hc, ho⟩ := wlc ds a1 b c1
  have l := lc_eq (fi := fiR1 (fCons (fOp gAdd (fC (.int 1)) (fCallO 2 m_law_roll 0 (fCons (fC (.int 8)) fNil))) fNil)) (fg := fgN 3) (ft := fYes) (vs := [3]) (s := [dc a b c, .no, .no, .no, .no]) (s1 := [dc a1 b c1, .no, .no, .no, .no]) fr rfl (by omega) e2
  have rs : rst [dc a1 b c1, .no, .no, .no, .no] [dc a2 b c2, .no, .no, .no, .no] [3] = [dc a2 b c2, .no, .no, .no, .no] := rfl
  rw [rs] at l
  have cond : ((cs.map sg).map (·.length)).sum + (cs.map sg).length * (("" : Str)).length ≤ 16777216 := by
    have e0 : (("" : Str)).length = 0 := by decide +kernel
    rw [sum_one, e0, Nat.mul_zero]
    omega
  have jn : fJoin (fC (.str ("" : Str))) (fCons (fLc (fiR1 (fCons (fOp gAdd (fC (.int 1)) (fCallO 2 m_law_roll 0 (fCons (fC (.int 8)) fNil))) fNil)) (fgN 3) (fYes) (fCallO 2 m_law_one_of 0 (fCons (fLst (fCons (fC (.str ("a" : Str))) (fCons (fC (.str ("b" : Str))) (fCons (fC (.str ("z" : Str))) fNil)))) fNil)) [3]) fNil) [dc a b c, .no, .no, .no, .no] =
      some (.str (Txt.join ("" : Str) (cs.map sg)), [dc a2 b c2, .no, .no, .no, .no]) := by
    unfold fJoin fCons fNil
    rw [show fC (.str ("" : Str)) ([dc a b c, .no, .no, .no, .no] : Sd) = some (.str ("" : Str), [dc a b c, .no, .no, .no, .no]) from rfl]
    have l' := l
    unfold fCons fNil at l'
    simp only [l', txts_map, if_pos cond]
  refine ⟨Txt.join ("" : Str) (cs.map sg), a2, c2, ?_, ?_⟩
  · unfold Wd
    rw [join_tl]
    exact ⟨by omega, by omega, List.all_eq_true.mpr ho⟩
  · unfold w0 fAsg
    rw [jn]
    rfl
theorem e_adds {x y : Str} (h : x.length + y.length ≤ 1000) : gAdd (.str x) (.str y) = some (.str (x ++ y)) := by
  have c : decide (x.length + y.length ≤ sizeLine) = true := decide_eq_true (Nat.le_trans h (by decide))
  have e : gAdd (.str x) (.str y) = (if decide (x.length + y.length ≤ sizeLine) = true then some (D.str (x ++ y)) else none) := rfl
  rw [e, if_pos c]
theorem ok_wd {w : Str} (h : Wd w) : ok w = true := by
  obtain ⟨h1, h2, h3⟩ := h
  unfold ok
  rw [len_tl, h3, decide_eq_true (by omega), decide_eq_true (by omega)]
  rfl
theorem ok_bad {w s : Str} {c : Nat} (h : tl s = [c]) (hc : okc c = false) : ok (w ++ s) = false := by
  unfold ok
  rw [tl_append, h, List.all_append]
  have : ([c] : List Nat).all okc = false := by
    show (okc c && true) = false
    rw [hc]; rfl
  rw [this, Bool.and_false, Bool.and_false]
theorem ok_long {w s : Str} (h : Wd w) (hs : (tl s).length = 8) : ok (w ++ s) = false := by
  obtain ⟨h1, h2, h3⟩ := h
  unfold ok
  rw [len_tl, tl_append, List.length_append, hs, decide_eq_false (show ¬ ((((tl w).length + 8 : Nat) : Int) ≤ 8) by omega), Bool.and_false, Bool.false_and]

def wnear (w : Str) : List D := [.str w, .str (w ++ ("qqqqqqqq" : Str)), .str (w ++ ("A" : Str)), .str ("" : Str), .str (w ++ (" " : Str)), .tup [.str w], .non, .int 0, .bl true, .lst [.str w], .dK [], .str (w ++ ("1" : Str))]
def wdue : List D := [.bl true, .bl false, .bl false, .bl false, .bl false, .bl false, .bl false, .bl false, .bl false, .bl false, .bl false, .bl false]
theorem w1_ok (X : Sl) {w : Str} (h : Wd w) : w1 [X, .tr (.str w), .no, .no, .no] = some (.nx, [X, .tr (.str w), .tr (.lst (wnear w)), .no, .no]) := by
  have hw : w.length ≤ 8 := by rw [len_tl]; exact h.2.1
  have l8 : (("qqqqqqqq" : Str)).length = 8 := by decide +kernel
  have l1 : (("A" : Str)).length = 1 := by decide +kernel
  have l2 : ((" " : Str)).length = 1 := by decide +kernel
  have l3 : (("1" : Str)).length = 1 := by decide +kernel
  have a1 := e_adds (x := w) (y := ("qqqqqqqq" : Str)) (by omega)
  have a2 := e_adds (x := w) (y := ("A" : Str)) (by omega)
  have a3 := e_adds (x := w) (y := (" " : Str)) (by omega)
  have a4 := e_adds (x := w) (y := ("1" : Str)) (by omega)
  unfold w1
  simp only [defF, defN, back, fSeq, fNx, fAsg, fOp, fUn, fV, fC, fgN, fgT, fgsC, fgs0, fCB, fCons, fNil, fIfS, fB, fTru, fNot, fAnd, fOr, fAndV, fOrV, fNotV, fIf, fRet, fRetN, fDrop, fPar, fSetO, fIxO, fTup, fLst, fCall, fCallO, fCallS, fChain, fFor, fLc, fiA, fiR1, fIsi, fYes, D.tyN, List.getElem?_cons_zero, List.getElem?_cons_succ, List.set_cons_zero, List.set_cons_succ, List.length_cons, List.length_nil, List.length_set, List.length_append, List.length_replicate, List.cons_append, List.nil_append, List.replicate_succ, List.replicate_zero, List.map_cons, List.map_nil, List.mapIdx_cons, List.mapIdx_nil, Option.getD_some, ite_true, ite_false, if_true, if_false, reduceIte, reduceCtorEq, Nat.reduceAdd, Nat.reduceSub, Nat.reduceLT, Nat.reduceLeDiff, Nat.reduceEqDiff, Nat.zero_add, Nat.zero_lt_succ, Nat.lt_add_one, true_and, and_true, and_self, Bool.not_true, Bool.not_false, Nat.succ_ne_zero, dT, dF, e_add, e_sub, e_lt, e_gt, e_ge, e_le, e_int, e_abs, a1, a2, a3, a4]
  rfl
theorem w2_ok (X : Sl) {w : Str} (h : Wd w) : ∃ s', w2 [X, .tr (.str w), .tr (.lst (wnear w)), .no, .no] = some (.rt (.bl true), s') ∧ s'[0]? = some X := by
  have hw : w.length ≤ 8 := by rw [len_tl]; exact h.2.1
  obtain ⟨q8, hq8⟩ : ∃ s : Str, s = ("qqqqqqqq" : Str) := ⟨_, rfl⟩
  have l8 : (("qqqqqqqq" : Str)).length = 8 := by decide +kernel
  have l1 : (("A" : Str)).length = 1 := by decide +kernel
  have l2 : ((" " : Str)).length = 1 := by decide +kernel
  have l3 : (("1" : Str)).length = 1 := by decide +kernel
  have app : ∀ s : Str, s.length ≤ 8 → (w ++ s).length ≤ 1000 := fun s hs => by
    rw [len_tl, tl_append, List.length_append, ← len_tl, ← len_tl]; omega
  obtain ⟨_, f1⟩ := is_pl w (by omega)
  rw [ok_wd h] at f1
  obtain ⟨_, f2⟩ := is_pl (w ++ ("qqqqqqqq" : Str)) (app _ (by omega))
  rw [ok_long h (by decide +kernel)] at f2
  obtain ⟨_, f3⟩ := is_pl (w ++ ("A" : Str)) (app _ (by omega))
  rw [ok_bad (c := 65) (by decide +kernel) (by decide)] at f3
  obtain ⟨_, f4⟩ := is_pl ("" : Str) (by decide +kernel)
  rw [show ok ("" : Str) = false by decide +kernel] at f4
  obtain ⟨_, f5⟩ := is_pl (w ++ (" " : Str)) (app _ (by omega))
  rw [ok_bad (c := 32) (by decide +kernel) (by decide)] at f5
  obtain ⟨_, f6⟩ := no_pl (d := .tup [.str w]) kb.2.2.2.2.2.2.2.2.2.1
  obtain ⟨_, f7⟩ := no_pl (d := .non) kb.2.2.2.2.2.2.2.2.2.2.1
  obtain ⟨_, f8⟩ := no_pl (d := .int 0) kb.2.2.2.2.2.2.2.2.2.2.2.1
  obtain ⟨_, f9⟩ := no_pl (d := .bl true) kb.2.2.2.2.2.2.2.2.2.2.2.2.1
  obtain ⟨_, f10⟩ := no_pl (d := .lst [.str w]) kb.2.2.2.2.2.2.2.2.2.2.2.2.2.1
  obtain ⟨_, f11⟩ := no_pl (d := .dK []) kb.2.2.2.2.2.2.2.2.2.2.2.2.2.2
  obtain ⟨_, f12⟩ := is_pl (w ++ ("1" : Str)) (app _ (by omega))
  rw [ok_bad (c := 49) (by decide +kernel) (by decide)] at f12
  obtain ⟨Y, hY⟩ : ∃ Y, Y = Sl.tr (.str w) := ⟨_, rfl⟩
  obtain ⟨Z, hZ⟩ : ∃ Z, Z = Sl.tr (.lst (wnear w)) := ⟨_, rfl⟩
  have l : fLc (fiA (fV 2)) (fgN 4) fYes (fCall 1 m_is_place (fCons (fV 4) fNil)) [4] [X, .tr (.str w), .tr (.lst (wnear w)), .no, .no] = some (.lst wdue, [X, .tr (.str w), .tr (.lst (wnear w)), .no, .no]) :=
    lc_eq (ds := wnear w) (s1 := [X, .tr (.str w), .tr (.lst (wnear w)), .no, .no]) rfl rfl (by show 12 ≤ 100000; decide) (lc_consS (s' := [X, .tr (.str w), .tr (.lst (wnear w)), .no, .no]) (s1 := [X, .tr (.str w), .tr (.lst (wnear w)), .no, .tr (.str w)]) rfl rfl (by simp only [defF, defN, back, fSeq, fNx, fAsg, fOp, fUn, fV, fC, fgN, fgT, fgsC, fgs0, fCB, fCons, fNil, fIfS, fB, fTru, fNot, fAnd, fOr, fAndV, fOrV, fNotV, fIf, fRet, fRetN, fDrop, fPar, fSetO, fIxO, fTup, fLst, fCall, fCallO, fCallS, fChain, fFor, fLc, fiA, fiR1, fIsi, fYes, D.tyN, List.getElem?_cons_zero, List.getElem?_cons_succ, List.set_cons_zero, List.set_cons_succ, List.length_cons, List.length_nil, List.length_set, List.length_append, List.length_replicate, List.cons_append, List.nil_append, List.replicate_succ, List.replicate_zero, List.map_cons, List.map_nil, List.mapIdx_cons, List.mapIdx_nil, Option.getD_some, ite_true, ite_false, if_true, if_false, reduceIte, reduceCtorEq, Nat.reduceAdd, Nat.reduceSub, Nat.reduceLT, Nat.reduceLeDiff, Nat.reduceEqDiff, Nat.zero_add, Nat.zero_lt_succ, Nat.lt_add_one, true_and, and_true, and_self, Bool.not_true, Bool.not_false, Nat.succ_ne_zero, dT, dF, e_add, e_sub, e_lt, e_gt, e_ge, e_le, e_int, e_abs, f1]; rfl) rfl rfl (lc_consS (s' := [X, .tr (.str w), .tr (.lst (wnear w)), .no, .no]) (s1 := [X, .tr (.str w), .tr (.lst (wnear w)), .no, .tr (.str (w ++ ("qqqqqqqq" : Str)))]) rfl rfl (by simp only [defF, defN, back, fSeq, fNx, fAsg, fOp, fUn, fV, fC, fgN, fgT, fgsC, fgs0, fCB, fCons, fNil, fIfS, fB, fTru, fNot, fAnd, fOr, fAndV, fOrV, fNotV, fIf, fRet, fRetN, fDrop, fPar, fSetO, fIxO, fTup, fLst, fCall, fCallO, fCallS, fChain, fFor, fLc, fiA, fiR1, fIsi, fYes, D.tyN, List.getElem?_cons_zero, List.getElem?_cons_succ, List.set_cons_zero, List.set_cons_succ, List.length_cons, List.length_nil, List.length_set, List.length_append, List.length_replicate, List.cons_append, List.nil_append, List.replicate_succ, List.replicate_zero, List.map_cons, List.map_nil, List.mapIdx_cons, List.mapIdx_nil, Option.getD_some, ite_true, ite_false, if_true, if_false, reduceIte, reduceCtorEq, Nat.reduceAdd, Nat.reduceSub, Nat.reduceLT, Nat.reduceLeDiff, Nat.reduceEqDiff, Nat.zero_add, Nat.zero_lt_succ, Nat.lt_add_one, true_and, and_true, and_self, Bool.not_true, Bool.not_false, Nat.succ_ne_zero, dT, dF, e_add, e_sub, e_lt, e_gt, e_ge, e_le, e_int, e_abs, f2]; rfl) rfl rfl (lc_consS (s' := [X, .tr (.str w), .tr (.lst (wnear w)), .no, .no]) (s1 := [X, .tr (.str w), .tr (.lst (wnear w)), .no, .tr (.str (w ++ ("A" : Str)))]) rfl rfl (by simp only [defF, defN, back, fSeq, fNx, fAsg, fOp, fUn, fV, fC, fgN, fgT, fgsC, fgs0, fCB, fCons, fNil, fIfS, fB, fTru, fNot, fAnd, fOr, fAndV, fOrV, fNotV, fIf, fRet, fRetN, fDrop, fPar, fSetO, fIxO, fTup, fLst, fCall, fCallO, fCallS, fChain, fFor, fLc, fiA, fiR1, fIsi, fYes, D.tyN, List.getElem?_cons_zero, List.getElem?_cons_succ, List.set_cons_zero, List.set_cons_succ, List.length_cons, List.length_nil, List.length_set, List.length_append, List.length_replicate, List.cons_append, List.nil_append, List.replicate_succ, List.replicate_zero, List.map_cons, List.map_nil, List.mapIdx_cons, List.mapIdx_nil, Option.getD_some, ite_true, ite_false, if_true, if_false, reduceIte, reduceCtorEq, Nat.reduceAdd, Nat.reduceSub, Nat.reduceLT, Nat.reduceLeDiff, Nat.reduceEqDiff, Nat.zero_add, Nat.zero_lt_succ, Nat.lt_add_one, true_and, and_true, and_self, Bool.not_true, Bool.not_false, Nat.succ_ne_zero, dT, dF, e_add, e_sub, e_lt, e_gt, e_ge, e_le, e_int, e_abs, f3]; rfl) rfl rfl (lc_consS (s' := [X, .tr (.str w), .tr (.lst (wnear w)), .no, .no]) (s1 := [X, .tr (.str w), .tr (.lst (wnear w)), .no, .tr (.str ("" : Str))]) rfl rfl (by simp only [defF, defN, back, fSeq, fNx, fAsg, fOp, fUn, fV, fC, fgN, fgT, fgsC, fgs0, fCB, fCons, fNil, fIfS, fB, fTru, fNot, fAnd, fOr, fAndV, fOrV, fNotV, fIf, fRet, fRetN, fDrop, fPar, fSetO, fIxO, fTup, fLst, fCall, fCallO, fCallS, fChain, fFor, fLc, fiA, fiR1, fIsi, fYes, D.tyN, List.getElem?_cons_zero, List.getElem?_cons_succ, List.set_cons_zero, List.set_cons_succ, List.length_cons, List.length_nil, List.length_set, List.length_append, List.length_replicate, List.cons_append, List.nil_append, List.replicate_succ, List.replicate_zero, List.map_cons, List.map_nil, List.mapIdx_cons, List.mapIdx_nil, Option.getD_some, ite_true, ite_false, if_true, if_false, reduceIte, reduceCtorEq, Nat.reduceAdd, Nat.reduceSub, Nat.reduceLT, Nat.reduceLeDiff, Nat.reduceEqDiff, Nat.zero_add, Nat.zero_lt_succ, Nat.lt_add_one, true_and, and_true, and_self, Bool.not_true, Bool.not_false, Nat.succ_ne_zero, dT, dF, e_add, e_sub, e_lt, e_gt, e_ge, e_le, e_int, e_abs, f4]; rfl) rfl rfl (lc_consS (s' := [X, .tr (.str w), .tr (.lst (wnear w)), .no, .no]) (s1 := [X, .tr (.str w), .tr (.lst (wnear w)), .no, .tr (.str (w ++ (" " : Str)))]) rfl rfl (by simp only [defF, defN, back, fSeq, fNx, fAsg, fOp, fUn, fV, fC, fgN, fgT, fgsC, fgs0, fCB, fCons, fNil, fIfS, fB, fTru, fNot, fAnd, fOr, fAndV, fOrV, fNotV, fIf, fRet, fRetN, fDrop, fPar, fSetO, fIxO, fTup, fLst, fCall, fCallO, fCallS, fChain, fFor, fLc, fiA, fiR1, fIsi, fYes, D.tyN, List.getElem?_cons_zero, List.getElem?_cons_succ, List.set_cons_zero, List.set_cons_succ, List.length_cons, List.length_nil, List.length_set, List.length_append, List.length_replicate, List.cons_append, List.nil_append, List.replicate_succ, List.replicate_zero, List.map_cons, List.map_nil, List.mapIdx_cons, List.mapIdx_nil, Option.getD_some, ite_true, ite_false, if_true, if_false, reduceIte, reduceCtorEq, Nat.reduceAdd, Nat.reduceSub, Nat.reduceLT, Nat.reduceLeDiff, Nat.reduceEqDiff, Nat.zero_add, Nat.zero_lt_succ, Nat.lt_add_one, true_and, and_true, and_self, Bool.not_true, Bool.not_false, Nat.succ_ne_zero, dT, dF, e_add, e_sub, e_lt, e_gt, e_ge, e_le, e_int, e_abs, f5]; rfl) rfl rfl (lc_consS (s' := [X, .tr (.str w), .tr (.lst (wnear w)), .no, .no]) (s1 := [X, .tr (.str w), .tr (.lst (wnear w)), .no, .tr (.tup [.str w])]) rfl rfl (by simp only [defF, defN, back, fSeq, fNx, fAsg, fOp, fUn, fV, fC, fgN, fgT, fgsC, fgs0, fCB, fCons, fNil, fIfS, fB, fTru, fNot, fAnd, fOr, fAndV, fOrV, fNotV, fIf, fRet, fRetN, fDrop, fPar, fSetO, fIxO, fTup, fLst, fCall, fCallO, fCallS, fChain, fFor, fLc, fiA, fiR1, fIsi, fYes, D.tyN, List.getElem?_cons_zero, List.getElem?_cons_succ, List.set_cons_zero, List.set_cons_succ, List.length_cons, List.length_nil, List.length_set, List.length_append, List.length_replicate, List.cons_append, List.nil_append, List.replicate_succ, List.replicate_zero, List.map_cons, List.map_nil, List.mapIdx_cons, List.mapIdx_nil, Option.getD_some, ite_true, ite_false, if_true, if_false, reduceIte, reduceCtorEq, Nat.reduceAdd, Nat.reduceSub, Nat.reduceLT, Nat.reduceLeDiff, Nat.reduceEqDiff, Nat.zero_add, Nat.zero_lt_succ, Nat.lt_add_one, true_and, and_true, and_self, Bool.not_true, Bool.not_false, Nat.succ_ne_zero, dT, dF, e_add, e_sub, e_lt, e_gt, e_ge, e_le, e_int, e_abs, f6]; rfl) rfl rfl (lc_consS (s' := [X, .tr (.str w), .tr (.lst (wnear w)), .no, .no]) (s1 := [X, .tr (.str w), .tr (.lst (wnear w)), .no, .tr (.non)]) rfl rfl (by simp only [defF, defN, back, fSeq, fNx, fAsg, fOp, fUn, fV, fC, fgN, fgT, fgsC, fgs0, fCB, fCons, fNil, fIfS, fB, fTru, fNot, fAnd, fOr, fAndV, fOrV, fNotV, fIf, fRet, fRetN, fDrop, fPar, fSetO, fIxO, fTup, fLst, fCall, fCallO, fCallS, fChain, fFor, fLc, fiA, fiR1, fIsi, fYes, D.tyN, List.getElem?_cons_zero, List.getElem?_cons_succ, List.set_cons_zero, List.set_cons_succ, List.length_cons, List.length_nil, List.length_set, List.length_append, List.length_replicate, List.cons_append, List.nil_append, List.replicate_succ, List.replicate_zero, List.map_cons, List.map_nil, List.mapIdx_cons, List.mapIdx_nil, Option.getD_some, ite_true, ite_false, if_true, if_false, reduceIte, reduceCtorEq, Nat.reduceAdd, Nat.reduceSub, Nat.reduceLT, Nat.reduceLeDiff, Nat.reduceEqDiff, Nat.zero_add, Nat.zero_lt_succ, Nat.lt_add_one, true_and, and_true, and_self, Bool.not_true, Bool.not_false, Nat.succ_ne_zero, dT, dF, e_add, e_sub, e_lt, e_gt, e_ge, e_le, e_int, e_abs, f7]; rfl) rfl rfl (lc_consS (s' := [X, .tr (.str w), .tr (.lst (wnear w)), .no, .no]) (s1 := [X, .tr (.str w), .tr (.lst (wnear w)), .no, .tr (.int 0)]) rfl rfl (by simp only [defF, defN, back, fSeq, fNx, fAsg, fOp, fUn, fV, fC, fgN, fgT, fgsC, fgs0, fCB, fCons, fNil, fIfS, fB, fTru, fNot, fAnd, fOr, fAndV, fOrV, fNotV, fIf, fRet, fRetN, fDrop, fPar, fSetO, fIxO, fTup, fLst, fCall, fCallO, fCallS, fChain, fFor, fLc, fiA, fiR1, fIsi, fYes, D.tyN, List.getElem?_cons_zero, List.getElem?_cons_succ, List.set_cons_zero, List.set_cons_succ, List.length_cons, List.length_nil, List.length_set, List.length_append, List.length_replicate, List.cons_append, List.nil_append, List.replicate_succ, List.replicate_zero, List.map_cons, List.map_nil, List.mapIdx_cons, List.mapIdx_nil, Option.getD_some, ite_true, ite_false, if_true, if_false, reduceIte, reduceCtorEq, Nat.reduceAdd, Nat.reduceSub, Nat.reduceLT, Nat.reduceLeDiff, Nat.reduceEqDiff, Nat.zero_add, Nat.zero_lt_succ, Nat.lt_add_one, true_and, and_true, and_self, Bool.not_true, Bool.not_false, Nat.succ_ne_zero, dT, dF, e_add, e_sub, e_lt, e_gt, e_ge, e_le, e_int, e_abs, f8]; rfl) rfl rfl (lc_consS (s' := [X, .tr (.str w), .tr (.lst (wnear w)), .no, .no]) (s1 := [X, .tr (.str w), .tr (.lst (wnear w)), .no, .tr (.bl true)]) rfl rfl (by simp only [defF, defN, back, fSeq, fNx, fAsg, fOp, fUn, fV, fC, fgN, fgT, fgsC, fgs0, fCB, fCons, fNil, fIfS, fB, fTru, fNot, fAnd, fOr, fAndV, fOrV, fNotV, fIf, fRet, fRetN, fDrop, fPar, fSetO, fIxO, fTup, fLst, fCall, fCallO, fCallS, fChain, fFor, fLc, fiA, fiR1, fIsi, fYes, D.tyN, List.getElem?_cons_zero, List.getElem?_cons_succ, List.set_cons_zero, List.set_cons_succ, List.length_cons, List.length_nil, List.length_set, List.length_append, List.length_replicate, List.cons_append, List.nil_append, List.replicate_succ, List.replicate_zero, List.map_cons, List.map_nil, List.mapIdx_cons, List.mapIdx_nil, Option.getD_some, ite_true, ite_false, if_true, if_false, reduceIte, reduceCtorEq, Nat.reduceAdd, Nat.reduceSub, Nat.reduceLT, Nat.reduceLeDiff, Nat.reduceEqDiff, Nat.zero_add, Nat.zero_lt_succ, Nat.lt_add_one, true_and, and_true, and_self, Bool.not_true, Bool.not_false, Nat.succ_ne_zero, dT, dF, e_add, e_sub, e_lt, e_gt, e_ge, e_le, e_int, e_abs, f9]; rfl) rfl rfl (lc_consS (s' := [X, .tr (.str w), .tr (.lst (wnear w)), .no, .no]) (s1 := [X, .tr (.str w), .tr (.lst (wnear w)), .no, .tr (.lst [.str w])]) rfl rfl (by simp only [defF, defN, back, fSeq, fNx, fAsg, fOp, fUn, fV, fC, fgN, fgT, fgsC, fgs0, fCB, fCons, fNil, fIfS, fB, fTru, fNot, fAnd, fOr, fAndV, fOrV, fNotV, fIf, fRet, fRetN, fDrop, fPar, fSetO, fIxO, fTup, fLst, fCall, fCallO, fCallS, fChain, fFor, fLc, fiA, fiR1, fIsi, fYes, D.tyN, List.getElem?_cons_zero, List.getElem?_cons_succ, List.set_cons_zero, List.set_cons_succ, List.length_cons, List.length_nil, List.length_set, List.length_append, List.length_replicate, List.cons_append, List.nil_append, List.replicate_succ, List.replicate_zero, List.map_cons, List.map_nil, List.mapIdx_cons, List.mapIdx_nil, Option.getD_some, ite_true, ite_false, if_true, if_false, reduceIte, reduceCtorEq, Nat.reduceAdd, Nat.reduceSub, Nat.reduceLT, Nat.reduceLeDiff, Nat.reduceEqDiff, Nat.zero_add, Nat.zero_lt_succ, Nat.lt_add_one, true_and, and_true, and_self, Bool.not_true, Bool.not_false, Nat.succ_ne_zero, dT, dF, e_add, e_sub, e_lt, e_gt, e_ge, e_le, e_int, e_abs, f10]; rfl) rfl rfl (lc_consS (s' := [X, .tr (.str w), .tr (.lst (wnear w)), .no, .no]) (s1 := [X, .tr (.str w), .tr (.lst (wnear w)), .no, .tr (.dK [])]) rfl rfl (by simp only [defF, defN, back, fSeq, fNx, fAsg, fOp, fUn, fV, fC, fgN, fgT, fgsC, fgs0, fCB, fCons, fNil, fIfS, fB, fTru, fNot, fAnd, fOr, fAndV, fOrV, fNotV, fIf, fRet, fRetN, fDrop, fPar, fSetO, fIxO, fTup, fLst, fCall, fCallO, fCallS, fChain, fFor, fLc, fiA, fiR1, fIsi, fYes, D.tyN, List.getElem?_cons_zero, List.getElem?_cons_succ, List.set_cons_zero, List.set_cons_succ, List.length_cons, List.length_nil, List.length_set, List.length_append, List.length_replicate, List.cons_append, List.nil_append, List.replicate_succ, List.replicate_zero, List.map_cons, List.map_nil, List.mapIdx_cons, List.mapIdx_nil, Option.getD_some, ite_true, ite_false, if_true, if_false, reduceIte, reduceCtorEq, Nat.reduceAdd, Nat.reduceSub, Nat.reduceLT, Nat.reduceLeDiff, Nat.reduceEqDiff, Nat.zero_add, Nat.zero_lt_succ, Nat.lt_add_one, true_and, and_true, and_self, Bool.not_true, Bool.not_false, Nat.succ_ne_zero, dT, dF, e_add, e_sub, e_lt, e_gt, e_ge, e_le, e_int, e_abs, f11]; rfl) rfl rfl (lc_consS (s' := [X, .tr (.str w), .tr (.lst (wnear w)), .no, .no]) (s1 := [X, .tr (.str w), .tr (.lst (wnear w)), .no, .tr (.str (w ++ ("1" : Str)))]) rfl rfl (by simp only [defF, defN, back, fSeq, fNx, fAsg, fOp, fUn, fV, fC, fgN, fgT, fgsC, fgs0, fCB, fCons, fNil, fIfS, fB, fTru, fNot, fAnd, fOr, fAndV, fOrV, fNotV, fIf, fRet, fRetN, fDrop, fPar, fSetO, fIxO, fTup, fLst, fCall, fCallO, fCallS, fChain, fFor, fLc, fiA, fiR1, fIsi, fYes, D.tyN, List.getElem?_cons_zero, List.getElem?_cons_succ, List.set_cons_zero, List.set_cons_succ, List.length_cons, List.length_nil, List.length_set, List.length_append, List.length_replicate, List.cons_append, List.nil_append, List.replicate_succ, List.replicate_zero, List.map_cons, List.map_nil, List.mapIdx_cons, List.mapIdx_nil, Option.getD_some, ite_true, ite_false, if_true, if_false, reduceIte, reduceCtorEq, Nat.reduceAdd, Nat.reduceSub, Nat.reduceLT, Nat.reduceLeDiff, Nat.reduceEqDiff, Nat.zero_add, Nat.zero_lt_succ, Nat.lt_add_one, true_and, and_true, and_self, Bool.not_true, Bool.not_false, Nat.succ_ne_zero, dT, dF, e_add, e_sub, e_lt, e_gt, e_ge, e_le, e_int, e_abs, f12]; rfl) rfl rfl lc_nil))))))))))))
  have c0 : gMulA (.lst [.bl false]) (.int 11) = some (.lst [.bl false, .bl false, .bl false, .bl false, .bl false, .bl false, .bl false, .bl false, .bl false, .bl false, .bl false]) := rfl
  have c1 : gAdd (.lst [.bl true]) (.lst [.bl false, .bl false, .bl false, .bl false, .bl false, .bl false, .bl false, .bl false, .bl false, .bl false, .bl false]) = some (.lst wdue) := rfl
  have ee : gEqD (.lst wdue) (.lst wdue) = some (.bl true) := gEq_self rfl
  unfold w2
  simp only [defF, defN, back, fSeq, fNx, fAsg, fOp, fUn, fV, fC, fgN, fgT, fgsC, fgs0, fCB, fCons, fNil, fIfS, fB, fTru, fNot, fAnd, fOr, fAndV, fOrV, fNotV, fIf, fRet, fRetN, fDrop, fPar, fSetO, fIxO, fTup, fLst, fCall, fCallO, fCallS, fChain, fFor, fIsi, fYes, D.tyN, List.getElem?_cons_zero, List.getElem?_cons_succ, List.set_cons_zero, List.set_cons_succ, List.length_cons, List.length_nil, List.length_set, List.length_append, List.length_replicate, List.cons_append, List.nil_append, List.replicate_succ, List.replicate_zero, List.map_cons, List.map_nil, List.mapIdx_cons, List.mapIdx_nil, Option.getD_some, ite_true, ite_false, if_true, if_false, reduceIte, reduceCtorEq, Nat.reduceAdd, Nat.reduceSub, Nat.reduceLT, Nat.reduceLeDiff, Nat.reduceEqDiff, Nat.zero_add, Nat.zero_lt_succ, Nat.lt_add_one, true_and, and_true, and_self, Bool.not_true, Bool.not_false, Nat.succ_ne_zero, dT, dF, e_add, e_sub, e_lt, e_gt, e_ge, e_le, e_int, e_abs, l, c0, c1, ee]
  exact ⟨_, rfl, rfl⟩
theorem places (a b c : Int) : ∃ a' c', m_law_places_right [dc a b c] = some (.bl true, [dc a' b c']) := by
  obtain ⟨w, a1, c1, h, e0⟩ := w0_ok a b c
  have e1 := w1_ok (dc a1 b c1) h
  obtain ⟨s', e2, h0⟩ := w2_ok (dc a1 b c1) h
  have ed : ([dc a b c] ++ List.replicate (5 - 1) Sl.no : List Sl) = [dc a b c, .no, .no, .no, .no] := rfl
  refine ⟨a1, c1, ?_⟩
  unfold m_law_places_right
  rw [b_places]
  unfold defF
  rw [ed]
  simp only [fSeq, e0, e1, e2]
  have hb : back [dc a b c] s' = [dc a1 b c1] := by
    show [(s'[0]?).getD .no] = _
    rw [h0]
    rfl
  rw [hb]
end K01
namespace K01
open PySem L2 DL TL
def l1 : FI := (fiR1 (fCons (fCB gMax2 (fCons (fC (.int 1)) (fCons (fCB gMin2 (fCons (fC (.int 8)) (fCons (fCB gLen (fCons (fV 0) fNil)) fNil))) fNil))) fNil))
def lb : FS := (fSeq (fSetN 2 m_law_dice (fCons (fV 0) (fCons (fV 1) fNil)) 2)
    (fIfS (fOr (fNot (fTru (fCallO 1 m_law_right 2 fNil))) (fNot (fTru (fCallO 1 m_law_places_right 2 fNil)))) (fRet (fC (.bl false))) fNx))
def l2 : FS := fAsg (fLst (fCons (fCall 2 m_fraction (fCons (fC (.int 6)) (fCons (fC (.int 4)) fNil))) (fCons (fCall 2 m_fraction (fCons (fUn gNeg (fC (.int 2))) (fCons (fC (.int 6)) fNil))) (fCons (fCall 2 m_fraction (fCons (fC (.int 0)) (fCons (fC (.int 7)) fNil))) (fCons (fCallS m_greatest (fCons (fTup (fCons (fC (.int 1)) (fCons (fC (.int 2)) fNil))) (fCons (fTup (fCons (fC (.int 2)) (fCons (fC (.int 3)) fNil))) (fCons (fTup (fCons (fC (.int 3)) (fCons (fC (.int 5)) fNil))) fNil)))) (fCons (fC (.int 8)) fNil)))))) (fgN 3)
def l3 : FS := fRet (fOp gEqD (fV 3) (fLst (fCons (fTup (fCons (fC (.int 3)) (fCons (fC (.int 2)) fNil))) (fCons (fTup (fCons (fUn gNeg (fC (.int 1))) (fCons (fC (.int 3)) fNil))) (fCons (fTup (fCons (fC (.int 0)) (fCons (fC (.int 1)) fNil))) (fCons (fTup (fCons (fC (.int 2)) (fCons (fC (.int 3)) fNil))) (fCons (fC (.int 8)) fNil)))))))
theorem b_law_eq : b_law = fSeq (fFor l1 (fgN 1) lb) (fSeq l2 l3) := rfl
abbrev Rl (ns : List Int) : Sl := .tr (.rl (ns.map D.int))
def Ok1 (s : Sl) : Prop := s = .no ∨ ∃ d, s = .tr d
def Ok2 (s : Sl) : Prop := s = .no ∨ ∃ ds, s = .ol false ds
theorem lb_ok (ns : List Int) (k : Nat) (s : Sl) (h : Ok2 s) : ∃ ds, lb [Rl ns, .tr (.int (k : Int)), s, .no] = some (.nx, [Rl ns, .tr (.int (k : Int)), .ol false ds, .no]) := by
  obtain ⟨a, b, _, e0⟩ := dice ns k
  obtain ⟨a1, c1, e1⟩ := right a b 0
  obtain ⟨a2, c2, e2⟩ := places a1 b c1
  refine ⟨[.int a2, .int b, .int c2], ?_⟩
  have st : fSetN 2 m_law_dice (fCons (fV 0) (fCons (fV 1) fNil)) 2 [Rl ns, .tr (.int (k : Int)), s, .no] = some (.nx, [Rl ns, .tr (.int (k : Int)), .ol false [.int a, .int b, .int 0], .no]) := by
    have cnd : (2 : Nat) = 2 ∧ 2 < 4 := by decide
    rcases h with rfl | ⟨ds, rfl⟩
    · unfold fSetN
      simp only [defF, defN, back, fSeq, fNx, fAsg, fOp, fUn, fV, fC, fgN, fgT, fgsC, fgs0, fCB, fCons, fNil, fIfS, fB, fTru, fNot, fAnd, fOr, fAndV, fOrV, fNotV, fIf, fRet, fRetN, fDrop, fPar, fSetO, fIxO, fTup, fLst, fCall, fCallO, fCallS, fChain, fFor, fLc, fiA, fiR1, fIsi, fYes, D.tyN, List.getElem?_cons_zero, List.getElem?_cons_succ, List.set_cons_zero, List.set_cons_succ, List.length_cons, List.length_nil, List.length_set, List.length_append, List.length_replicate, List.cons_append, List.nil_append, List.replicate_succ, List.replicate_zero, List.map_cons, List.map_nil, List.mapIdx_cons, List.mapIdx_nil, Option.getD_some, ite_true, ite_false, if_true, if_false, reduceIte, reduceCtorEq, Nat.reduceAdd, Nat.reduceSub, Nat.reduceLT, Nat.reduceLeDiff, Nat.reduceEqDiff, Nat.zero_add, Nat.zero_lt_succ, Nat.lt_add_one, true_and, and_true, and_self, Bool.not_true, Bool.not_false, Nat.succ_ne_zero, dT, dF, e_add, e_sub, e_lt, e_gt, e_ge, e_le, e_int, e_abs, e0, if_pos cnd]
    · unfold fSetN
      simp only [defF, defN, back, fSeq, fNx, fAsg, fOp, fUn, fV, fC, fgN, fgT, fgsC, fgs0, fCB, fCons, fNil, fIfS, fB, fTru, fNot, fAnd, fOr, fAndV, fOrV, fNotV, fIf, fRet, fRetN, fDrop, fPar, fSetO, fIxO, fTup, fLst, fCall, fCallO, fCallS, fChain, fFor, fLc, fiA, fiR1, fIsi, fYes, D.tyN, List.getElem?_cons_zero, List.getElem?_cons_succ, List.set_cons_zero, List.set_cons_succ, List.length_cons, List.length_nil, List.length_set, List.length_append, List.length_replicate, List.cons_append, List.nil_append, List.replicate_succ, List.replicate_zero, List.map_cons, List.map_nil, List.mapIdx_cons, List.mapIdx_nil, Option.getD_some, ite_true, ite_false, if_true, if_false, reduceIte, reduceCtorEq, Nat.reduceAdd, Nat.reduceSub, Nat.reduceLT, Nat.reduceLeDiff, Nat.reduceEqDiff, Nat.zero_add, Nat.zero_lt_succ, Nat.lt_add_one, true_and, and_true, and_self, Bool.not_true, Bool.not_false, Nat.succ_ne_zero, dT, dF, e_add, e_sub, e_lt, e_gt, e_ge, e_le, e_int, e_abs, e0, if_pos cnd]
  unfold lb
  simp only [defF, defN, back, fSeq, fNx, fAsg, fOp, fUn, fV, fC, fgN, fgT, fgsC, fgs0, fCB, fCons, fNil, fIfS, fB, fTru, fNot, fAnd, fOr, fAndV, fOrV, fNotV, fIf, fRet, fRetN, fDrop, fPar, fSetO, fIxO, fTup, fLst, fCall, fCallO, fCallS, fChain, fFor, fLc, fiA, fiR1, fIsi, fYes, D.tyN, List.getElem?_cons_zero, List.getElem?_cons_succ, List.set_cons_zero, List.set_cons_succ, List.length_cons, List.length_nil, List.length_set, List.length_append, List.length_replicate, List.cons_append, List.nil_append, List.replicate_succ, List.replicate_zero, List.map_cons, List.map_nil, List.mapIdx_cons, List.mapIdx_nil, Option.getD_some, ite_true, ite_false, if_true, if_false, reduceIte, reduceCtorEq, Nat.reduceAdd, Nat.reduceSub, Nat.reduceLT, Nat.reduceLeDiff, Nat.reduceEqDiff, Nat.zero_add, Nat.zero_lt_succ, Nat.lt_add_one, true_and, and_true, and_self, Bool.not_true, Bool.not_false, Nat.succ_ne_zero, dT, dF, e_add, e_sub, e_lt, e_gt, e_ge, e_le, e_int, e_abs, st, e1, e2]
theorem loop_ok (ns : List Int) : ∀ (ds : List D), (∀ d ∈ ds, ∃ k : Nat, d = .int (k : Int)) → ∀ (s1 s2 : Sl), Ok1 s1 → Ok2 s2 → ∃ s1' s2', loopF (fgN 1) lb ds [Rl ns, s1, s2, .no] = some (.nx, [Rl ns, s1', s2', .no])
  | [], _, s1, s2, _, _ => ⟨s1, s2, rfl⟩
  | d :: r, h, s1, s2, h1, h2 => by
    obtain ⟨k, rfl⟩ := h d List.mem_cons_self
    obtain ⟨ds, e⟩ := lb_ok ns k s2 h2
    obtain ⟨t1, t2, e2⟩ := loop_ok ns r (fun x hx => h x (List.mem_cons_of_mem _ hx)) (.tr (.int (k : Int))) (.ol false ds) (.inr ⟨_, rfl⟩) (.inr ⟨_, rfl⟩)
    refine ⟨t1, t2, ?_⟩
    have eg : fgN 1 (.int (k : Int)) [Rl ns, s1, s2, .no] = some [Rl ns, .tr (.int (k : Int)), s2, .no] := by
      rcases h1 with rfl | ⟨d, rfl⟩
      · rfl
      · rfl
    simp only [loopF, eg, e, e2]
theorem fr_of {p : Int × Int} (h1 : -1000 ≤ p.1 ∧ p.1 ≤ 1000 ∧ 0 < p.2 ∧ p.2 ≤ 1000) (h2 : gc p.1 p.2 = 1) : Fr p := ⟨h1, h2⟩
theorem l2_ok (X Y Z : Sl) : l2 [X, Y, Z, .no] = some (.nx, [X, Y, Z, .tr (.lst [.tup [.int 3, .int 2], .tup [.int (-1), .int 3], .tup [.int 0, .int 1], .tup [.int 2, .int 3], .int 8])]) := by
  obtain ⟨_, e1⟩ := fraction (n := 6) (d := 4) (by decide) (by decide)
  obtain ⟨_, e2⟩ := fraction (n := -2) (d := 6) (by decide) (by decide)
  obtain ⟨_, e3⟩ := fraction (n := 0) (d := 7) (by decide) (by decide)
  rw [show gc 6 4 = 2 by decide, show (6 : Int) / 2 = 3 by decide, show (4 : Int) / 2 = 2 by decide] at e1
  rw [show gc (-2) 6 = 2 by decide, show (-2 : Int) / 2 = -1 by decide, show (6 : Int) / 2 = 3 by decide] at e2
  rw [show gc 0 7 = 7 by decide, show (0 : Int) / 7 = 0 by decide, show (7 : Int) / 7 = 1 by decide] at e3
  obtain ⟨_, e4⟩ := greatest3 (p := (1, 2)) (q := (2, 3)) (r := (3, 5)) (fr_of (by decide) (by decide)) (fr_of (by decide) (by decide)) (fr_of (by decide) (by decide))
  have hg : gt2 (gt2 (1, 2) (2, 3)) (3, 5) = (2, 3) := by decide
  rw [hg] at e4
  have e4 : m_greatest [.tr (.tup [.tup [.int 1, .int 2], .tup [.int 2, .int 3], .tup [.int 3, .int 5]])] = some (.tup [.int 2, .int 3], _) := e4
  have c3 : gNeg (.int 2) = some (.int (-2)) := rfl
  unfold l2
  simp only [defF, defN, back, fSeq, fNx, fAsg, fOp, fUn, fV, fC, fgN, fgT, fgsC, fgs0, fCB, fCons, fNil, fIfS, fB, fTru, fNot, fAnd, fOr, fAndV, fOrV, fNotV, fIf, fRet, fRetN, fDrop, fPar, fSetO, fIxO, fTup, fLst, fCall, fCallO, fCallS, fChain, fFor, fLc, fiA, fiR1, fIsi, fYes, D.tyN, List.getElem?_cons_zero, List.getElem?_cons_succ, List.set_cons_zero, List.set_cons_succ, List.length_cons, List.length_nil, List.length_set, List.length_append, List.length_replicate, List.cons_append, List.nil_append, List.replicate_succ, List.replicate_zero, List.map_cons, List.map_nil, List.mapIdx_cons, List.mapIdx_nil, Option.getD_some, ite_true, ite_false, if_true, if_false, reduceIte, reduceCtorEq, Nat.reduceAdd, Nat.reduceSub, Nat.reduceLT, Nat.reduceLeDiff, Nat.reduceEqDiff, Nat.zero_add, Nat.zero_lt_succ, Nat.lt_add_one, true_and, and_true, and_self, Bool.not_true, Bool.not_false, Nat.succ_ne_zero, dT, dF, e_add, e_sub, e_lt, e_gt, e_ge, e_le, e_int, e_abs, e1, e2, e3, e4, c3]
theorem l3_ok (X Y Z : Sl) : ∃ s', l3 [X, Y, Z, .tr (.lst [.tup [.int 3, .int 2], .tup [.int (-1), .int 3], .tup [.int 0, .int 1], .tup [.int 2, .int 3], .int 8])] = some (.rt (.bl true), s') := by
  have c3 : gNeg (.int 1) = some (.int (-1)) := rfl
  have ee : gEqD (.lst [.tup [.int 3, .int 2], .tup [.int (-1), .int 3], .tup [.int 0, .int 1], .tup [.int 2, .int 3], .int 8]) (.lst [.tup [.int 3, .int 2], .tup [.int (-1), .int 3], .tup [.int 0, .int 1], .tup [.int 2, .int 3], .int 8]) = some (.bl true) := gEq_self rfl
  unfold l3
  simp only [defF, defN, back, fSeq, fNx, fAsg, fOp, fUn, fV, fC, fgN, fgT, fgsC, fgs0, fCB, fCons, fNil, fIfS, fB, fTru, fNot, fAnd, fOr, fAndV, fOrV, fNotV, fIf, fRet, fRetN, fDrop, fPar, fSetO, fIxO, fTup, fLst, fCall, fCallO, fCallS, fChain, fFor, fLc, fiA, fiR1, fIsi, fYes, D.tyN, List.getElem?_cons_zero, List.getElem?_cons_succ, List.set_cons_zero, List.set_cons_succ, List.length_cons, List.length_nil, List.length_set, List.length_append, List.length_replicate, List.cons_append, List.nil_append, List.replicate_succ, List.replicate_zero, List.map_cons, List.map_nil, List.mapIdx_cons, List.mapIdx_nil, Option.getD_some, ite_true, ite_false, if_true, if_false, reduceIte, reduceCtorEq, Nat.reduceAdd, Nat.reduceSub, Nat.reduceLT, Nat.reduceLeDiff, Nat.reduceEqDiff, Nat.zero_add, Nat.zero_lt_succ, Nat.lt_add_one, true_and, and_true, and_self, Bool.not_true, Bool.not_false, Nat.succ_ne_zero, dT, dF, e_add, e_sub, e_lt, e_gt, e_ge, e_le, e_int, e_abs, c3, ee]
  exact ⟨_, rfl⟩
theorem math (ns : List Int) (hl : ns.length ≤ 63) : ∃ as', m_law [.tr (.rl (ns.map D.int))] = some (.bl true, as') := by
  obtain ⟨n, hn⟩ : ∃ n : Int, n = (if (if (ns.length : Int) < 8 then (ns.length : Int) else 8) > 1 then (if (ns.length : Int) < 8 then (ns.length : Int) else 8) else 1) := ⟨_, rfl⟩
  have hb : -(2 ^ 62) ≤ n ∧ n < 2 ^ 62 := by
    rw [hn]; split <;> (try split) <;> omega
  have e1 : l1 [Rl ns, .no, .no, .no] = some (rngD 0 n.toNat, [Rl ns, .no, .no, .no]) := by
    have c1 : gMin2 [.int 8, .int (ns.length : Int)] = some (.int (if (ns.length : Int) < 8 then (ns.length : Int) else 8)) := rfl
    have c2 : ∀ x : Int, gMax2 [.int 1, .int x] = some (.int (if x > 1 then x else 1)) := fun _ => rfl
    unfold l1
    simp only [defF, defN, back, fSeq, fNx, fAsg, fOp, fUn, fV, fC, fgN, fgT, fgsC, fgs0, fCB, fCons, fNil, fIfS, fB, fTru, fNot, fAnd, fOr, fAndV, fOrV, fNotV, fIf, fRet, fRetN, fDrop, fPar, fSetO, fIxO, fTup, fLst, fCall, fCallO, fCallS, fChain, fFor, fLc, fiA, fiR1, fIsi, fYes, D.tyN, List.getElem?_cons_zero, List.getElem?_cons_succ, List.set_cons_zero, List.set_cons_succ, List.length_cons, List.length_nil, List.length_set, List.length_append, List.length_replicate, List.cons_append, List.nil_append, List.replicate_succ, List.replicate_zero, List.map_cons, List.map_nil, List.mapIdx_cons, List.mapIdx_nil, Option.getD_some, ite_true, ite_false, if_true, if_false, reduceIte, reduceCtorEq, Nat.reduceAdd, Nat.reduceSub, Nat.reduceLT, Nat.reduceLeDiff, Nat.reduceEqDiff, Nat.zero_add, Nat.zero_lt_succ, Nat.lt_add_one, true_and, and_true, and_self, Bool.not_true, Bool.not_false, Nat.succ_ne_zero, dT, dF, e_add, e_sub, e_lt, e_gt, e_ge, e_le, e_int, e_abs, gl_rl, c1, c2, ← hn, if_pos hb]
  obtain ⟨s1, s2, e2⟩ := loop_ok ns (rngD 0 n.toNat) (fun d hd => by
    unfold rngD at hd
    obtain ⟨i, _, rfl⟩ := List.mem_map.mp hd
    exact ⟨i, by rw [Int.zero_add]⟩) .no .no (.inl rfl) (.inl rfl)
  have e3 := l2_ok (Rl ns) s1 s2
  obtain ⟨s', e4⟩ := l3_ok (Rl ns) s1 s2
  have ed : ([Rl ns] ++ List.replicate (4 - 1) Sl.no : List Sl) = [Rl ns, .no, .no, .no] := rfl
  unfold m_law
  rw [b_law_eq]
  unfold defF
  rw [ed]
  simp only [fSeq, fFor, e1, e2, e3, e4]
  exact ⟨_, rfl⟩
end K01
namespace K01
open PySem PySem.Spec PyProof.Rows L2 DL
/-! ### the end -/
theorem all_mk {l : PySem.W.OpenLaw} {w : World} {K : PySem.W.Frag} {h : Heap} {mg : Str → Option Value} {fa : Addr} (X : K.In h) (G : h.Ns mainGlobals mg) (hfa : mg "law" = some (.ref fa))
    {f0 : Addr} {od0 an0 : Option Addr} {sl0 : Array (Option Value)} {oc0 kV0 dc0 pm0 cd0 ct0 : Value} {f1 : Addr} {od1 an1 : Option Addr} {sl1 : Array (Option Value)} {oc1 kV1 dc1 pm1 cd1 ct1 : Value} {f2 : Addr} {od2 an2 : Option Addr} {sl2 : Array (Option Value)} {oc2 kV2 dc2 pm2 cd2 ct2 : Value} {f3 : Addr} {od3 an3 : Option Addr} {sl3 : Array (Option Value)} {oc3 kV3 dc3 pm3 cd3 ct3 : Value} {f4 : Addr} {od4 an4 : Option Addr} {sl4 : Array (Option Value)} {oc4 kV4 dc4 pm4 cd4 ct4 : Value} {f5 : Addr} {od5 an5 : Option Addr} {sl5 : Array (Option Value)} {oc5 kV5 dc5 pm5 cd5 ct5 : Value} {f6 : Addr} {od6 an6 : Option Addr} {sl6 : Array (Option Value)} {oc6 kV6 dc6 pm6 cd6 ct6 : Value} {f7 : Addr} {od7 an7 : Option Addr} {sl7 : Array (Option Value)} {oc7 kV7 dc7 pm7 cd7 ct7 : Value} {f8 : Addr} {od8 an8 : Option Addr} {sl8 : Array (Option Value)} {oc8 kV8 dc8 pm8 cd8 ct8 : Value} {f9 : Addr} {od9 an9 : Option Addr} {sl9 : Array (Option Value)} {oc9 kV9 dc9 pm9 cd9 ct9 : Value} {f10 : Addr} {od10 an10 : Option Addr} {sl10 : Array (Option Value)} {oc10 kV10 dc10 pm10 cd10 ct10 : Value} {f11 : Addr} {od11 an11 : Option Addr} {sl11 : Array (Option Value)} {oc11 kV11 dc11 pm11 cd11 ct11 : Value} {f12 : Addr} {od12 an12 : Option Addr} {sl12 : Array (Option Value)} {oc12 kV12 dc12 pm12 cd12 ct12 : Value} {f13 : Addr} {od13 an13 : Option Addr} {sl13 : Array (Option Value)} {oc13 kV13 dc13 pm13 cd13 ct13 : Value} {f14 : Addr} {od14 an14 : Option Addr} {sl14 : Array (Option Value)} {oc14 kV14 dc14 pm14 cd14 ct14 : Value} {f15 : Addr} {od15 an15 : Option Addr} {sl15 : Array (Option Value)} {oc15 kV15 dc15 pm15 cd15 ct15 : Value} {f16 : Addr} {od16 an16 : Option Addr} {sl16 : Array (Option Value)} {oc16 kV16 dc16 pm16 cd16 ct16 : Value}
    (a0 : PySem.W.nsIn K mainGlobals "_law_dice" = some (some (.ref f0))) (l0 : K.lookup f0 = some ⟨oc0, od0, .func (PySem.W.fnOf "_law_dice" "_law_dice" (defArgs s_law_dice) (defBody s_law_dice) (defScope s_law_dice) .none kV0 dc0 pm0 an0 cd0 ct0), sl0⟩) (c0 : PySem.W.codeIn K cd0 "_law_dice" = true) (k0 : PySem.W.keepIn K (.ref f0) = true)
    (a1 : PySem.W.nsIn K mainGlobals "_law_roll" = some (some (.ref f1))) (l1 : K.lookup f1 = some ⟨oc1, od1, .func (PySem.W.fnOf "_law_roll" "_law_roll" (defArgs s_law_roll) (defBody s_law_roll) (defScope s_law_roll) .none kV1 dc1 pm1 an1 cd1 ct1), sl1⟩) (c1 : PySem.W.codeIn K cd1 "_law_roll" = true) (k1 : PySem.W.keepIn K (.ref f1) = true)
    (a2 : PySem.W.nsIn K mainGlobals "_law_one_of" = some (some (.ref f2))) (l2 : K.lookup f2 = some ⟨oc2, od2, .func (PySem.W.fnOf "_law_one_of" "_law_one_of" (defArgs s_law_one_of) (defBody s_law_one_of) (defScope s_law_one_of) .none kV2 dc2 pm2 an2 cd2 ct2), sl2⟩) (c2 : PySem.W.codeIn K cd2 "_law_one_of" = true) (k2 : PySem.W.keepIn K (.ref f2) = true)
    (a3 : PySem.W.nsIn K mainGlobals "is_place" = some (some (.ref f3))) (l3 : K.lookup f3 = some ⟨oc3, od3, .func (PySem.W.fnOf "is_place" "is_place" (defArgs s_is_place) (defBody s_is_place) (defScope s_is_place) .none kV3 dc3 pm3 an3 cd3 ct3), sl3⟩) (c3 : PySem.W.codeIn K cd3 "is_place" = true) (k3 : PySem.W.keepIn K (.ref f3) = true)
    (a4 : PySem.W.nsIn K mainGlobals "_law_places_right" = some (some (.ref f4))) (l4 : K.lookup f4 = some ⟨oc4, od4, .func (PySem.W.fnOf "_law_places_right" "_law_places_right" (defArgs s_law_places_right) (defBody s_law_places_right) (defScope s_law_places_right) .none kV4 dc4 pm4 an4 cd4 ct4), sl4⟩) (c4 : PySem.W.codeIn K cd4 "_law_places_right" = true) (k4 : PySem.W.keepIn K (.ref f4) = true)
    (a5 : PySem.W.nsIn K mainGlobals "_law_drawn" = some (some (.ref f5))) (l5 : K.lookup f5 = some ⟨oc5, od5, .func (PySem.W.fnOf "_law_drawn" "_law_drawn" (defArgs s_law_drawn) (defBody s_law_drawn) (defScope s_law_drawn) .none kV5 dc5 pm5 an5 cd5 ct5), sl5⟩) (c5 : PySem.W.codeIn K cd5 "_law_drawn" = true) (k5 : PySem.W.keepIn K (.ref f5) = true)
    (a6 : PySem.W.nsIn K mainGlobals "_law_is_lowest" = some (some (.ref f6))) (l6 : K.lookup f6 = some ⟨oc6, od6, .func (PySem.W.fnOf "_law_is_lowest" "_law_is_lowest" (defArgs s_law_is_lowest) (defBody s_law_is_lowest) (defScope s_law_is_lowest) .none kV6 dc6 pm6 an6 cd6 ct6), sl6⟩) (c6 : PySem.W.codeIn K cd6 "_law_is_lowest" = true) (k6 : PySem.W.keepIn K (.ref f6) = true)
    (a7 : PySem.W.nsIn K mainGlobals "_law_less" = some (some (.ref f7))) (l7 : K.lookup f7 = some ⟨oc7, od7, .func (PySem.W.fnOf "_law_less" "_law_less" (defArgs s_law_less) (defBody s_law_less) (defScope s_law_less) .none kV7 dc7 pm7 an7 cd7 ct7), sl7⟩) (c7 : PySem.W.codeIn K cd7 "_law_less" = true) (k7 : PySem.W.keepIn K (.ref f7) = true)
    (a8 : PySem.W.nsIn K mainGlobals "_law_lowest" = some (some (.ref f8))) (l8 : K.lookup f8 = some ⟨oc8, od8, .func (PySem.W.fnOf "_law_lowest" "_law_lowest" (defArgs s_law_lowest) (defBody s_law_lowest) (defScope s_law_lowest) .none kV8 dc8 pm8 an8 cd8 ct8), sl8⟩) (c8 : PySem.W.codeIn K cd8 "_law_lowest" = true) (k8 : PySem.W.keepIn K (.ref f8) = true)
    (a9 : PySem.W.nsIn K mainGlobals "is_integer" = some (some (.ref f9))) (l9 : K.lookup f9 = some ⟨oc9, od9, .func (PySem.W.fnOf "is_integer" "is_integer" (defArgs s_is_integer) (defBody s_is_integer) (defScope s_is_integer) .none kV9 dc9 pm9 an9 cd9 ct9), sl9⟩) (c9 : PySem.W.codeIn K cd9 "is_integer" = true) (k9 : PySem.W.keepIn K (.ref f9) = true)
    (a10 : PySem.W.nsIn K mainGlobals "fraction" = some (some (.ref f10))) (l10 : K.lookup f10 = some ⟨oc10, od10, .func (PySem.W.fnOf "fraction" "fraction" (defArgs s_fraction) (defBody s_fraction) (defScope s_fraction) .none kV10 dc10 pm10 an10 cd10 ct10), sl10⟩) (c10 : PySem.W.codeIn K cd10 "fraction" = true) (k10 : PySem.W.keepIn K (.ref f10) = true)
    (a11 : PySem.W.nsIn K mainGlobals "is_fraction" = some (some (.ref f11))) (l11 : K.lookup f11 = some ⟨oc11, od11, .func (PySem.W.fnOf "is_fraction" "is_fraction" (defArgs s_is_fraction) (defBody s_is_fraction) (defScope s_is_fraction) .none kV11 dc11 pm11 an11 cd11 ct11), sl11⟩) (c11 : PySem.W.codeIn K cd11 "is_fraction" = true) (k11 : PySem.W.keepIn K (.ref f11) = true)
    (a12 : PySem.W.nsIn K mainGlobals "_check_fraction" = some (some (.ref f12))) (l12 : K.lookup f12 = some ⟨oc12, od12, .func (PySem.W.fnOf "_check_fraction" "_check_fraction" (defArgs s_check_fraction) (defBody s_check_fraction) (defScope s_check_fraction) .none kV12 dc12 pm12 an12 cd12 ct12), sl12⟩) (c12 : PySem.W.codeIn K cd12 "_check_fraction" = true) (k12 : PySem.W.keepIn K (.ref f12) = true)
    (a13 : PySem.W.nsIn K mainGlobals "is_lower" = some (some (.ref f13))) (l13 : K.lookup f13 = some ⟨oc13, od13, .func (PySem.W.fnOf "is_lower" "is_lower" (defArgs s_is_lower) (defBody s_is_lower) (defScope s_is_lower) .none kV13 dc13 pm13 an13 cd13 ct13), sl13⟩) (c13 : PySem.W.codeIn K cd13 "is_lower" = true) (k13 : PySem.W.keepIn K (.ref f13) = true)
    (a14 : PySem.W.nsIn K mainGlobals "greatest" = some (some (.ref f14))) (l14 : K.lookup f14 = some ⟨oc14, od14, .func (PySem.W.fnOf "greatest" "greatest" (defArgs s_greatest) (defBody s_greatest) (defScope s_greatest) .none kV14 dc14 pm14 an14 cd14 ct14), sl14⟩) (c14 : PySem.W.codeIn K cd14 "greatest" = true) (k14 : PySem.W.keepIn K (.ref f14) = true)
    (a15 : PySem.W.nsIn K mainGlobals "_law_right" = some (some (.ref f15))) (l15 : K.lookup f15 = some ⟨oc15, od15, .func (PySem.W.fnOf "_law_right" "_law_right" (defArgs s_law_right) (defBody s_law_right) (defScope s_law_right) .none kV15 dc15 pm15 an15 cd15 ct15), sl15⟩) (c15 : PySem.W.codeIn K cd15 "_law_right" = true) (k15 : PySem.W.keepIn K (.ref f15) = true)
    (a16 : PySem.W.nsIn K mainGlobals "law" = some (some (.ref f16))) (l16 : K.lookup f16 = some ⟨oc16, od16, .func (PySem.W.fnOf "law" "law" (defArgs s_law) (defBody s_law) (defScope s_law) .none kV16 dc16 pm16 an16 cd16 ct16), sl16⟩) (c16 : PySem.W.codeIn K cd16 "law" = true) (k16 : PySem.W.keepIn K (.ref f16) = true)
    (z0 : PySem.W.nsIn K mainGlobals "range" = some none)
    (z1 : PySem.W.nsIn K mainGlobals "max" = some none)
    (z2 : PySem.W.nsIn K mainGlobals "min" = some none)
    (z3 : PySem.W.nsIn K mainGlobals "len" = some none)
    (z4 : PySem.W.nsIn K mainGlobals "int" = some none)
    (z5 : PySem.W.nsIn K mainGlobals "abs" = some none)
    (z6 : PySem.W.nsIn K mainGlobals "all" = some none)
    (z7 : PySem.W.nsIn K mainGlobals "isinstance" = some none)
    (z8 : PySem.W.nsIn K mainGlobals "str" = some none)
    (z9 : PySem.W.nsIn K mainGlobals "list" = some none)
    (z10 : PySem.W.nsIn K mainGlobals "bool" = some none)
    (z11 : PySem.W.nsIn K mainGlobals "tuple" = some none)
    (y0 : PySem.W.nsIn K mainGlobals "gcd" = some (some (.builtin "math.gcd")))
    {t0 : Tok} (x0 : PySem.W.nsIn K mainGlobals "MAX_LETTERS" = some (some (.int 8 t0)))
    : ∃ fd : FuncData, (∀ (s : Shared) (v : Value), BindsTo s fd ⟨[v], []⟩ [("_law_script", v)]) ∧ ∀ base : Heap, K.In base → base.Ns mainGlobals mg → FnOk l.prog w K mg base CX0 7 fa fd ["_law_script"] (spF K 1 m_law) := by
  have e := hfa.symm.trans (PySem.W.mg_of X G a16)
  cases e
  have F0 := fun_mk (st := s_law_dice) l0 c0 k0
  have b0 := F0.binds (ps := ["_law_script", "_law_at"]) fun _ _ _ _ _ _ us hl => match us, hl with | [_, _], _ => rfl
  have F1 := fun_mk (st := s_law_roll) l1 c1 k1
  have b1 := F1.binds (ps := ["_law_dice_here", "_law_total"]) fun _ _ _ _ _ _ us hl => match us, hl with | [_, _], _ => rfl
  have F2 := fun_mk (st := s_law_one_of) l2 c2 k2
  have b2 := F2.binds (ps := ["_law_dice_here", "_law_items"]) fun _ _ _ _ _ _ us hl => match us, hl with | [_, _], _ => rfl
  have F3 := fun_mk (st := s_is_place) l3 c3 k3
  have b3 := F3.binds (ps := ["value"]) fun _ _ _ _ _ _ us hl => match us, hl with | [_], _ => rfl
  have F4 := fun_mk (st := s_law_places_right) l4 c4 k4
  have b4 := F4.binds (ps := ["_law_dice_here"]) fun _ _ _ _ _ _ us hl => match us, hl with | [_], _ => rfl
  have F5 := fun_mk (st := s_law_drawn) l5 c5 k5
  have b5 := F5.binds (ps := ["_law_dice_here"]) fun _ _ _ _ _ _ us hl => match us, hl with | [_], _ => rfl
  have F6 := fun_mk (st := s_law_is_lowest) l6 c6 k6
  have b6 := F6.binds (ps := ["_law_one"]) fun _ _ _ _ _ _ us hl => match us, hl with | [_], _ => rfl
  have F7 := fun_mk (st := s_law_less) l7 c7 k7
  have b7 := F7.binds (ps := ["_law_one", "_law_other"]) fun _ _ _ _ _ _ us hl => match us, hl with | [_, _], _ => rfl
  have F8 := fun_mk (st := s_law_lowest) l8 c8 k8
  have b8 := F8.binds (ps := ["_law_numerator", "_law_denominator"]) fun _ _ _ _ _ _ us hl => match us, hl with | [_, _], _ => rfl
  have F9 := fun_mk (st := s_is_integer) l9 c9 k9
  have b9 := F9.binds (ps := ["value"]) fun _ _ _ _ _ _ us hl => match us, hl with | [_], _ => rfl
  have F10 := fun_mk (st := s_fraction) l10 c10 k10
  have b10 := F10.binds (ps := ["numerator", "denominator"]) fun _ _ _ _ _ _ us hl => match us, hl with | [_, _], _ => rfl
  have F11 := fun_mk (st := s_is_fraction) l11 c11 k11
  have b11 := F11.binds (ps := ["value"]) fun _ _ _ _ _ _ us hl => match us, hl with | [_], _ => rfl
  have F12 := fun_mk (st := s_check_fraction) l12 c12 k12
  have b12 := F12.binds (ps := ["value"]) fun _ _ _ _ _ _ us hl => match us, hl with | [_], _ => rfl
  have F13 := fun_mk (st := s_is_lower) l13 c13 k13
  have b13 := F13.binds (ps := ["one", "other"]) fun _ _ _ _ _ _ us hl => match us, hl with | [_, _], _ => rfl
  have F14 := fun_mk (st := s_greatest) l14 c14 k14
  have F15 := fun_mk (st := s_law_right) l15 c15 k15
  have b15 := F15.binds (ps := ["_law_dice_here"]) fun _ _ _ _ _ _ us hl => match us, hl with | [_], _ => rfl
  have F16 := fun_mk (st := s_law) l16 c16 k16
  have b16 := F16.binds (ps := ["_law_script"]) fun _ _ _ _ _ _ us hl => match us, hl with | [_], _ => rfl
  have T : Tx K mg (fun i => match i with | 0 => f0 | 1 => f1 | 2 => f2 | 3 => f3 | 4 => f4 | 5 => f5 | 6 => f6 | 7 => f7 | 8 => f8 | 9 => f9 | 10 => f10 | 11 => f11 | 12 => f12 | 13 => f13 | 14 => f14 | 15 => f15 | _ => fa) (fun i => match i with | 0 => PySem.W.fnOf "_law_dice" "_law_dice" (defArgs s_law_dice) (defBody s_law_dice) (defScope s_law_dice) .none kV0 dc0 pm0 an0 cd0 ct0 | 1 => PySem.W.fnOf "_law_roll" "_law_roll" (defArgs s_law_roll) (defBody s_law_roll) (defScope s_law_roll) .none kV1 dc1 pm1 an1 cd1 ct1 | 2 => PySem.W.fnOf "_law_one_of" "_law_one_of" (defArgs s_law_one_of) (defBody s_law_one_of) (defScope s_law_one_of) .none kV2 dc2 pm2 an2 cd2 ct2 | 3 => PySem.W.fnOf "is_place" "is_place" (defArgs s_is_place) (defBody s_is_place) (defScope s_is_place) .none kV3 dc3 pm3 an3 cd3 ct3 | 4 => PySem.W.fnOf "_law_places_right" "_law_places_right" (defArgs s_law_places_right) (defBody s_law_places_right) (defScope s_law_places_right) .none kV4 dc4 pm4 an4 cd4 ct4 | 5 => PySem.W.fnOf "_law_drawn" "_law_drawn" (defArgs s_law_drawn) (defBody s_law_drawn) (defScope s_law_drawn) .none kV5 dc5 pm5 an5 cd5 ct5 | 6 => PySem.W.fnOf "_law_is_lowest" "_law_is_lowest" (defArgs s_law_is_lowest) (defBody s_law_is_lowest) (defScope s_law_is_lowest) .none kV6 dc6 pm6 an6 cd6 ct6 | 7 => PySem.W.fnOf "_law_less" "_law_less" (defArgs s_law_less) (defBody s_law_less) (defScope s_law_less) .none kV7 dc7 pm7 an7 cd7 ct7 | 8 => PySem.W.fnOf "_law_lowest" "_law_lowest" (defArgs s_law_lowest) (defBody s_law_lowest) (defScope s_law_lowest) .none kV8 dc8 pm8 an8 cd8 ct8 | 9 => PySem.W.fnOf "is_integer" "is_integer" (defArgs s_is_integer) (defBody s_is_integer) (defScope s_is_integer) .none kV9 dc9 pm9 an9 cd9 ct9 | 10 => PySem.W.fnOf "fraction" "fraction" (defArgs s_fraction) (defBody s_fraction) (defScope s_fraction) .none kV10 dc10 pm10 an10 cd10 ct10 | 11 => PySem.W.fnOf "is_fraction" "is_fraction" (defArgs s_is_fraction) (defBody s_is_fraction) (defScope s_is_fraction) .none kV11 dc11 pm11 an11 cd11 ct11 | 12 => PySem.W.fnOf "_check_fraction" "_check_fraction" (defArgs s_check_fraction) (defBody s_check_fraction) (defScope s_check_fraction) .none kV12 dc12 pm12 an12 cd12 ct12 | 13 => PySem.W.fnOf "is_lower" "is_lower" (defArgs s_is_lower) (defBody s_is_lower) (defScope s_is_lower) .none kV13 dc13 pm13 an13 cd13 ct13 | 14 => PySem.W.fnOf "greatest" "greatest" (defArgs s_greatest) (defBody s_greatest) (defScope s_greatest) .none kV14 dc14 pm14 an14 cd14 ct14 | 15 => PySem.W.fnOf "_law_right" "_law_right" (defArgs s_law_right) (defBody s_law_right) (defScope s_law_right) .none kV15 dc15 pm15 an15 cd15 ct15 | _ => PySem.W.fnOf "law" "law" (defArgs s_law) (defBody s_law) (defScope s_law) .none kV16 dc16 pm16 an16 cd16 ct16) (fun i => match i with  | _ => t0) := { F_law_dice := F0, B_law_dice := b0, G_law_dice := PySem.W.mg_of X G a0, F_law_roll := F1, B_law_roll := b1, G_law_roll := PySem.W.mg_of X G a1, F_law_one_of := F2, B_law_one_of := b2, G_law_one_of := PySem.W.mg_of X G a2, F_is_place := F3, B_is_place := b3, G_is_place := PySem.W.mg_of X G a3, F_law_places_right := F4, B_law_places_right := b4, G_law_places_right := PySem.W.mg_of X G a4, F_law_drawn := F5, B_law_drawn := b5, G_law_drawn := PySem.W.mg_of X G a5, F_law_is_lowest := F6, B_law_is_lowest := b6, G_law_is_lowest := PySem.W.mg_of X G a6, F_law_less := F7, B_law_less := b7, G_law_less := PySem.W.mg_of X G a7, F_law_lowest := F8, B_law_lowest := b8, G_law_lowest := PySem.W.mg_of X G a8, F_is_integer := F9, B_is_integer := b9, G_is_integer := PySem.W.mg_of X G a9, F_fraction := F10, B_fraction := b10, G_fraction := PySem.W.mg_of X G a10, F_is_fraction := F11, B_is_fraction := b11, G_is_fraction := PySem.W.mg_of X G a11, F_check_fraction := F12, B_check_fraction := b12, G_check_fraction := PySem.W.mg_of X G a12, F_is_lower := F13, B_is_lower := b13, G_is_lower := PySem.W.mg_of X G a13, F_greatest := F14, G_greatest := PySem.W.mg_of X G a14, F_law_right := F15, B_law_right := b15, G_law_right := PySem.W.mg_of X G a15, F_law := F16, B_law := b16, G_law := PySem.W.mg_of X G a16, n_range := PySem.W.mg_none_of X G z0, n_max := PySem.W.mg_none_of X G z1, n_min := PySem.W.mg_none_of X G z2, n_len := PySem.W.mg_none_of X G z3, n_int := PySem.W.mg_none_of X G z4, n_abs := PySem.W.mg_none_of X G z5, n_all := PySem.W.mg_none_of X G z6, n_isinstance := PySem.W.mg_none_of X G z7, n_str := PySem.W.mg_none_of X G z8, n_list := PySem.W.mg_none_of X G z9, n_bool := PySem.W.mg_none_of X G z10, n_tuple := PySem.W.mg_none_of X G z11, b_gcd := PySem.W.mg_of X G y0, c_MAX_LETTERS := PySem.W.mg_of X G x0 }
  exact ⟨PySem.W.fnOf "law" "law" (defArgs s_law) (defBody s_law) (defScope s_law) .none kV16 dc16 pm16 an16 cd16 ct16, fun s v => .of_eq rfl, fun base _ _ => ok_law T⟩
end K01
open PySem PySem.W PyProof.Rows
set_option maxRecDepth 100000 in
set_option maxHeartbeats 0 in
theorem PySem.Challenge.cw_holdsfast_k01_whole_fractions_in_lowest_holds : PySem.Challenge.rw_holdsfast_k01_whole_fractions_in_lowest.Holds := by
  w_on; o_law; k_head; (case hw => w_witness2)
  k_fill
  refine L2.walk_of (l := PySem.Challenge.rw_holdsfast_k01_whole_fractions_in_lowest) (n := 63) (k := 7) (x := "_law_script") (CX := fun _ => L2.CX0) (sp := fun w => DL.spF _ 1 K01.m_law) rfl (by decide) rfl ⟨rfl, by decide, by decide⟩ (fun w h Y => PySem.W.kIn_of Y) ?F (fun _ _ a ns hl _ hS => DL.law_sp (K01.math ns hl) hS fun _ => rfl) (fun _ _ _ _ _ h => h)
  case F =>
    intro w mg fa h KX G hmg
    refine' K01.all_mk KX G hmg ?a0 ?l0 ?c0 ?k0 ?a1 ?l1 ?c1 ?k1 ?a2 ?l2 ?c2 ?k2 ?a3 ?l3 ?c3 ?k3 ?a4 ?l4 ?c4 ?k4 ?a5 ?l5 ?c5 ?k5 ?a6 ?l6 ?c6 ?k6 ?a7 ?l7 ?c7 ?k7 ?a8 ?l8 ?c8 ?k8 ?a9 ?l9 ?c9 ?k9 ?a10 ?l10 ?c10 ?k10 ?a11 ?l11 ?c11 ?k11 ?a12 ?l12 ?c12 ?k12 ?a13 ?l13 ?c13 ?k13 ?a14 ?l14 ?c14 ?k14 ?a15 ?l15 ?c15 ?k15 ?a16 ?l16 ?c16 ?k16 ?z0 ?z1 ?z2 ?z3 ?z4 ?z5 ?z6 ?z7 ?z8 ?z9 ?z10 ?z11 ?y0 ?x0
    (case a0 => k_is)
    (case l0 => k_is)
    (case c0 => k_is)
    (case k0 => k_is)
    (case a1 => k_is)
    (case l1 => k_is)
    (case c1 => k_is)
    (case k1 => k_is)
    (case a2 => k_is)
    (case l2 => k_is)
    (case c2 => k_is)
    (case k2 => k_is)
    (case a3 => k_is)
    (case l3 => k_is)
    (case c3 => k_is)
    (case k3 => k_is)
    (case a4 => k_is)
    (case l4 => k_is)
    (case c4 => k_is)
    (case k4 => k_is)
    (case a5 => k_is)
    (case l5 => k_is)
    (case c5 => k_is)
    (case k5 => k_is)
    (case a6 => k_is)
    (case l6 => k_is)
    (case c6 => k_is)
    (case k6 => k_is)
    (case a7 => k_is)
    (case l7 => k_is)
    (case c7 => k_is)
    (case k7 => k_is)
    (case a8 => k_is)
    (case l8 => k_is)
    (case c8 => k_is)
    (case k8 => k_is)
    (case a9 => k_is)
    (case l9 => k_is)
    (case c9 => k_is)
    (case k9 => k_is)
    (case a10 => k_is)
    (case l10 => k_is)
    (case c10 => k_is)
    (case k10 => k_is)
    (case a11 => k_is)
    (case l11 => k_is)
    (case c11 => k_is)
    (case k11 => k_is)
    (case a12 => k_is)
    (case l12 => k_is)
    (case c12 => k_is)
    (case k12 => k_is)
    (case a13 => k_is)
    (case l13 => k_is)
    (case c13 => k_is)
    (case k13 => k_is)
    (case a14 => k_is)
    (case l14 => k_is)
    (case c14 => k_is)
    (case k14 => k_is)
    (case a15 => k_is)
    (case l15 => k_is)
    (case c15 => k_is)
    (case k15 => k_is)
    (case a16 => k_is)
    (case l16 => k_is)
    (case c16 => k_is)
    (case k16 => k_is)
    (case z0 => k_is)
    (case z1 => k_is)
    (case z2 => k_is)
    (case z3 => k_is)
    (case z4 => k_is)
    (case z5 => k_is)
    (case z6 => k_is)
    (case z7 => k_is)
    (case z8 => k_is)
    (case z9 => k_is)
    (case z10 => k_is)
    (case z11 => k_is)
    (case y0 => k_is)
    (case x0 => k_is)
