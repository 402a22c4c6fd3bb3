import PyProof.Rows.All
import Wide.All
import OpenK.AllK
import Wide.FinOn
import HandS.ForMost
import HandS.IsInst
import HandS.Gcd
import HandS.Wide
import HandS.Deep
import HandS.Flow
import HandS.Star
import HandS.Conv
import HandS.ExcInit
import HandS.ExcValue
import HandS.TupLe
import HandS.Words
import KE.KExcIs
import KE.KExcInit
import HandS.ClsMeth
import HandS.Ends
import HandS.HeadEnd
import PySem.Challenge.RW_holdsfast_k00_errors_and_what_they_keep
set_option Elab.async false
set_option linter.all false
set_option maxRecDepth 100000
set_option maxHeartbeats 4000000
/-! DL: Python data as trees, what a frame holds as slots, what a piece of a def computes as a function of the slots; one rule a construct, its function told by the rule. -/
namespace DL
open PySem PySem.Spec PyProof.Rows L2

inductive D where
  | non
  | bl (b : Bool)
  | int (i : Int)
  | str (s : Str)
  | tup (xs : List D)
  | lst (xs : List D)
  /-- a list that is only read: the script -/
  | rl (xs : List D)
  /-- a dict by ints and texts, one by tuples of such -/
  | dK (kvs : List (Key × D))
  | dT (kvs : List (List Key × D))
  /-- an own exception that keeps nothing told, one that keeps d as f -/
  | ex (C : Addr)
  | exf (C : Addr) (f : Str) (d : D)

mutual
inductive Dt (K : PySem.W.Frag) (H : Hp) : V → D → Prop
  | non : Dt K H .non .non
  | bl (b : Bool) : Dt K H (.bl b) (.bl b)
  | int (i : Int) : Dt K H (.int i) (.int i)
  | str (x : Str) : Dt K H (.str x) (.str x)
  | lst {a : Addr} {xs : List V} {ds : List D} : H a = some (.lst xs) → DtA K H xs ds → Dt K H (.ref a) (.lst ds)
  | rl {a : Addr} {xs : List V} {ds : List D} : SqL K H a xs → DtA K H xs ds → Dt K H (.ref a) (.rl ds)
  | tup {a : Addr} {xs : List V} {ds : List D} : SqT K H a xs → DtA K H xs ds → Dt K H (.ref a) (.tup ds)
  | dK {a : Addr} {kvs : List (Key × V)} {kds : List (Key × D)} : H a = some (.dK kvs) → DtK K H kvs kds → Dt K H (.ref a) (.dK kds)
  | dT {a : Addr} {kvs : List (List Key × V)} {kds : List (List Key × D)} : H a = some (.dT kvs) → DtT K H kvs kds → Dt K H (.ref a) (.dT kds)
  | ex {a C : Addr} : H a = some (ExO (.ref C) a) → Dt K H (.ref a) (.ex C)
  | exf {a C dx : Addr} {f : Str} {y : V} {d : D} : H a = some (exo a C (some dx)) → H dx = some (exd dx [(f, y)]) → Dt K H y d → Dt K H (.ref a) (.exf C f d)
inductive DtA (K : PySem.W.Frag) (H : Hp) : List V → List D → Prop
  | nil : DtA K H [] []
  | cons {v : V} {vs : List V} {d : D} {ds : List D} : Dt K H v d → DtA K H vs ds → DtA K H (v :: vs) (d :: ds)
inductive DtK (K : PySem.W.Frag) (H : Hp) : List (Key × V) → List (Key × D) → Prop
  | nil : DtK K H [] []
  | cons {k : Key} {v : V} {vs : List (Key × V)} {d : D} {ds : List (Key × D)} : Dt K H v d → DtK K H vs ds → DtK K H ((k, v) :: vs) ((k, d) :: ds)
inductive DtT (K : PySem.W.Frag) (H : Hp) : List (List Key × V) → List (List Key × D) → Prop
  | nil : DtT K H [] []
  | cons {k : List Key} {v : V} {vs : List (List Key × V)} {d : D} {ds : List (List Key × D)} : Dt K H v d → DtT K H vs ds → DtT K H ((k, v) :: vs) ((k, d) :: ds)
end

theorem same_t {K : PySem.W.Frag} {H H' : Hp} {a : Addr} {xs : List V} (e : Same H H') (h : SqT K H a xs) : SqT K H' a xs := by
  rcases h with (h | ⟨o, h⟩) | h
  · exact .inl (.inl (e _ _ h))
  · exact .inl (.inr ⟨o, e _ _ h⟩)
  · exact .inr h
section
variable {K : PySem.W.Frag} {H H' : Hp}
mutual
theorem Dt.mono (e : Same H H') : ∀ {v : V} {d : D}, Dt K H v d → Dt K H' v d
  | _, _, .non => .non
  | _, _, .bl b => .bl b
  | _, _, .int i => .int i
  | _, _, .str x => .str x
  | _, _, .lst h a => .lst (e _ _ h) (DtA.mono e a)
  | _, _, .rl h a => .rl (e.seq h) (DtA.mono e a)
  | _, _, .tup h a => .tup (same_t e h) (DtA.mono e a)
  | _, _, .dK h a => .dK (e _ _ h) (DtK.mono e a)
  | _, _, .dT h a => .dT (e _ _ h) (DtT.mono e a)
  | _, _, .ex h => .ex (e _ _ h)
  | _, _, .exf h1 h2 a => .exf (e _ _ h1) (e _ _ h2) (Dt.mono e a)
theorem DtA.mono (e : Same H H') : ∀ {vs : List V} {ds : List D}, DtA K H vs ds → DtA K H' vs ds
  | _, _, .nil => .nil
  | _, _, .cons h a => .cons (Dt.mono e h) (DtA.mono e a)
theorem DtK.mono (e : Same H H') : ∀ {vs : List (Key × V)} {ds : List (Key × D)}, DtK K H vs ds → DtK K H' vs ds
  | _, _, .nil => .nil
  | _, _, .cons h a => .cons (Dt.mono e h) (DtK.mono e a)
theorem DtT.mono (e : Same H H') : ∀ {vs : List (List Key × V)} {ds : List (List Key × D)}, DtT K H vs ds → DtT K H' vs ds
  | _, _, .nil => .nil
  | _, _, .cons h a => .cons (Dt.mono e h) (DtT.mono e a)
end
theorem DtA.length : ∀ {vs : List V} {ds : List D}, DtA K H vs ds → vs.length = ds.length
  | _, _, .nil => rfl
  | _, _, .cons _ a => by rw [List.length_cons, List.length_cons, DtA.length a]
theorem DtA.app : ∀ {vs ws : List V} {ds es : List D}, DtA K H vs ds → DtA K H ws es → DtA K H (vs ++ ws) (ds ++ es)
  | _, _, _, _, .nil, b => b
  | _, _, _, _, .cons h a, b => .cons h (DtA.app a b)
theorem DtA.get : ∀ {vs : List V} {ds : List D} {i : Nat} {d : D}, DtA K H vs ds → ds[i]? = some d → ∃ v, vs[i]? = some v ∧ Dt K H v d
  | _, _, i, d, .nil, h => by simp at h
  | _, _, 0, d, .cons h a, e => ⟨_, rfl, by have := Option.some.inj (show some _ = some d from e); rw [← this]; exact h⟩
  | _, _, i + 1, d, .cons h a, e => by
    obtain ⟨v, e1, h1⟩ := DtA.get a (show _ = some d from e)
    exact ⟨v, e1, h1⟩
theorem DtA.drop : ∀ {vs : List V} {ds : List D} (n : Nat), DtA K H vs ds → DtA K H (vs.drop n) (ds.drop n)
  | _, _, 0, h => h
  | _, _, n + 1, .nil => by simp; exact .nil
  | _, _, n + 1, .cons h a => by simpa using DtA.drop n a
theorem DtA.take : ∀ {vs : List V} {ds : List D} (n : Nat), DtA K H vs ds → DtA K H (vs.take n) (ds.take n)
  | _, _, 0, h => by simp; exact .nil
  | _, _, n + 1, .nil => by simp; exact .nil
  | _, _, n + 1, .cons h a => by simpa using DtA.cons h (DtA.take n a)
theorem DtA.set : ∀ {vs : List V} {ds : List D} {v : V} {d : D} (n : Nat), DtA K H vs ds → Dt K H v d → DtA K H (vs.set n v) (ds.set n d)
  | _, _, _, _, _, .nil, _ => by simp; exact .nil
  | _, _, _, _, 0, .cons h a, k => by simpa using DtA.cons k a
  | _, _, _, _, n + 1, .cons h a, k => by simpa using DtA.cons h (DtA.set n a k)
end

/-! ### slots -/
/-- what an object of one's own holds: a list, a dict -/
inductive OD where
  | l (ds : List D)
  | k (kvs : List (Key × D))
  | t (kvs : List (List Key × D))
inductive OdR (K : PySem.W.Frag) (S : Hp) : HO → OD → Prop
  | l {vs : List V} {ds : List D} : DtA K S vs ds → OdR K S (.lst vs) (.l ds)
  | k {vs : List (Key × V)} {ds : List (Key × D)} : DtK K S vs ds → OdR K S (.dK vs) (.k ds)
  | t {vs : List (List Key × V)} {ds : List (List Key × D)} : DtT K S vs ds → OdR K S (.dT vs) (.t ds)
theorem OdR.mono {K : PySem.W.Frag} {S S' : Hp} {o : HO} {od : OD} (e : Same S S') (h : OdR K S o od) : OdR K S' o od := by
  cases h with
  | l h => exact .l (h.mono e)
  | k h => exact .k (h.mono e)
  | t h => exact .t (h.mono e)
def OD.d : OD → D
  | .l ds => .lst ds
  | .k kvs => .dK kvs
  | .t kvs => .dT kvs
theorem OdR.data {K : PySem.W.Frag} {S : Hp} {o : HO} {od : OD} {a : Addr} (h : OdR K S o od) (ha : S a = some o) : Dt K S (.ref a) od.d := by
  cases h with
  | l h => exact .lst ha h
  | k h => exact .dK ha h
  | t h => exact .dT ha h
inductive Sl where
  | no
  | tr (d : D)
  /-- an object that the frame alone may change; p: a parameter -/
  | ow (p : Bool) (o : OD)
abbrev Sd := List Sl

structure Rep (K : PySem.W.Frag) (S H : Hp) (s : Sd) (σ : L2.St) : Prop where
  sub : Same S H
  len : σ.length = s.length
  tr : ∀ (i : Nat) (d : D), s[i]? = some (.tr d) → ∃ v, σ[i]? = some (some v) ∧ Dt K S v d
  ow : ∀ (i : Nat) (p : Bool) (ds : OD), s[i]? = some (.ow p ds) → ∃ a o, σ[i]? = some (some (.ref a)) ∧ H a = some o ∧ S a = none ∧ OdR K S o ds
  ne : ∀ (i j : Nat) (p q : Bool) (ds es : OD) (a : Addr), s[i]? = some (.ow p ds) → s[j]? = some (.ow q es) → σ[i]? = some (some (.ref a)) → σ[j]? = some (some (.ref a)) → i = j
def Own (s : Sd) (σ : L2.St) (a : Addr) : Prop := ∃ (i : Nat) (p : Bool) (ds : OD), s[i]? = some (Sl.ow p ds) ∧ σ[i]? = some (some (V.ref a))
structure Go (K : PySem.W.Frag) (S H : Hp) (s : Sd) (σ : L2.St) (S' H' : Hp) (s' : Sd) (σ' : L2.St) : Prop where
  rep : Rep K S' H' s' σ'
  ext : Same S S'
  keep : ∀ a o, H a = some o → ¬ Own s σ a → H' a = some o
  own : ∀ a, Own s' σ' a → Own s σ a ∨ H a = none
  live : ∀ a, H' a = none → H a = none
  grow : ∀ a, S' a ≠ none → S a ≠ none ∨ H a = none ∨ Own s σ a
  stay : ∀ (i : Nat) (ds : OD), s[i]? = some (.ow true ds) → ∃ ds', s'[i]? = some (.ow true ds') ∧ σ'[i]? = σ[i]?
  lens : s'.length = s.length
section
variable {K : PySem.W.Frag} {S H S' H' S'' H'' : Hp} {s s' s'' : Sd} {σ σ' σ'' : L2.St}
theorem Go.refl (r : Rep K S H s σ) : Go K S H s σ S H s σ :=
  ⟨r, Same.refl S, fun _ _ h _ => h, fun _ h => .inl h, fun _ h => h, fun _ h => .inl h, fun _ ds h => ⟨ds, h, rfl⟩, rfl⟩
theorem Go.trans (a : Go K S H s σ S' H' s' σ') (b : Go K S' H' s' σ' S'' H'' s'' σ'') : Go K S H s σ S'' H'' s'' σ'' := by
  refine ⟨b.rep, a.ext.trans b.ext, fun x o h n => b.keep x o (a.keep x o h n) fun y => ?_, fun x y => ?_, fun x y => a.live x (b.live x y), fun x y => ?_, fun i ds h => ?_, b.lens.trans a.lens⟩
  · rcases a.own x y with z | z
    · exact n z
    · rw [h] at z; cases z
  · rcases b.own x y with z | z
    · exact a.own x z
    · exact .inr (a.live x z)
  · rcases b.grow x y with z | z | z
    · exact a.grow x z
    · exact .inr (.inl (a.live x z))
    · rcases a.own x z with z | z
      · exact .inr (.inr z)
      · exact .inr (.inl z)
  · obtain ⟨ds', e1, e2⟩ := a.stay i ds h
    obtain ⟨ds'', e3, e4⟩ := b.stay i ds' e1
    exact ⟨ds'', e3, e4.trans e2⟩

/-- only new objects -/
structure Al (S H S' H' : Hp) : Prop where
  ext : Same S S'
  same : Same H H'
  sub : Same S' H'
  grow : ∀ a, S' a ≠ none → S a ≠ none ∨ H a = none
theorem Al.refl (h : Same S H) : Al S H S H := ⟨Same.refl _, Same.refl _, h, fun _ h => .inl h⟩
theorem Al.trans (a : Al S H S' H') (b : Al S' H' S'' H'') : Al S H S'' H'' := ⟨a.ext.trans b.ext, a.same.trans b.same, b.sub, fun x y => by
  rcases b.grow x y with z | z
  · exact a.grow x z
  · exact .inr (a.same.free z)⟩
theorem same_upd {H : Hp} {p : Addr} {o : HO} (h : H p = none) : Same H (upd H p o) := fun b x e => by
  rw [upd_ne (ne_of_none e h)]
  exact e
theorem Al.new {p : Addr} {o : HO} (h : Same S H) (hp : H p = none) : Al S H (upd S p o) (upd H p o) := by
  refine ⟨same_upd (h.free hp), same_upd hp, fun b x e => ?_, fun b e => ?_⟩
  · by_cases hb : b = p
    · subst hb; rw [upd_same] at e ⊢; exact e
    · rw [upd_ne hb] at e ⊢; exact h b x e
  · by_cases hb : b = p
    · subst hb; exact .inr hp
    · rw [upd_ne hb] at e; exact .inl e
theorem not_none {α : Type} {o : Option α} {x : α} (h : o = some x) : o ≠ none := by rw [h]; exact fun z => nomatch z
theorem none_of {α : Type} {o : Option α} (h : ¬ o ≠ none) : o = none := by
  cases o with
  | none => rfl
  | some x => exact absurd (fun z => nomatch z) h
theorem Al.go (r : Rep K S H s σ) (a : Al S H S' H') : Go K S H s σ S' H' s σ := by
  refine ⟨⟨a.sub, r.len, fun i d h => ?_, fun i p ds h => ?_, r.ne⟩, a.ext, fun x o h _ => a.same x o h, fun x h => .inl h, fun x h => a.same.free h, fun x h => ?_, fun i ds h => ⟨ds, h, rfl⟩, rfl⟩
  · obtain ⟨v, e, q⟩ := r.tr i d h
    exact ⟨v, e, q.mono a.ext⟩
  · obtain ⟨x, vs, e, e1, e2, q⟩ := r.ow i p ds h
    refine ⟨x, vs, e, a.same x _ e1, none_of fun z => ?_, q.mono a.ext⟩
    rcases a.grow x z with z | z
    · exact z e2
    · rw [e1] at z; cases z
  · rcases a.grow x h with z | z
    · exact .inl z
    · exact .inr (.inl z)

theorem getElem?_lt {α : Type} {l : List α} {i : Nat} {x : α} (h : l[i]? = some x) : i < l.length := (List.getElem?_eq_some_iff.mp h).1
/-- the content of an own list changes, S grows by nothing -/
theorem Rep.put (r : Rep K S H s σ) {i : Nat} {p : Bool} {ds ds' : OD} {a : Addr} {vs : HO} (hs : s[i]? = some (.ow p ds)) (hσ : σ[i]? = some (some (.ref a))) (q : OdR K S vs ds') :
    Go K S H s σ S (upd H a vs) (s.set i (.ow p ds')) σ := by
  have hi := getElem?_lt hs
  obtain ⟨a0, vs0, e0, e1, e2, _⟩ := r.ow i p ds hs
  have ea : a0 = a := by rw [hσ] at e0; injection e0 with e0; injection e0 with e0; injection e0 with e0; exact e0.symm
  subst ea
  have own : Own s σ a0 := ⟨i, p, ds, hs, hσ⟩
  have hx : ∀ (j : Nat) (x : Sl), (s.set i (.ow p ds'))[j]? = some x → (j = i ∧ x = .ow p ds') ∨ (j ≠ i ∧ s[j]? = some x) := fun j x h => by
    by_cases hj : i = j
    · subst hj
      rw [List.getElem?_set_self hi] at h
      exact .inl ⟨rfl, (Option.some.inj h).symm⟩
    · rw [List.getElem?_set_ne hj] at h
      exact .inr ⟨fun z => hj z.symm, h⟩
  refine ⟨⟨fun b o h => ?_, by rw [List.length_set]; exact r.len, fun j d h => ?_, fun j p' es h => ?_, fun j k p1 p2 es fs b h1 h2 h3 h4 => ?_⟩, Same.refl _, fun b o h n => ?_, fun b h => ?_, fun b h => ?_, fun b h => .inl h, fun j es h => ?_, List.length_set⟩
  · have : b ≠ a0 := fun z => by subst z; rw [e2] at h; cases h
    rw [upd_ne this]; exact r.sub b o h
  · rcases hx j _ h with ⟨_, z⟩ | ⟨_, z⟩
    · cases z
    · exact r.tr j d z
  · rcases hx j _ h with ⟨z1, z⟩ | ⟨z1, z⟩
    · cases z
      subst z1
      exact ⟨a0, vs, hσ, upd_same, e2, q⟩
    · obtain ⟨b, ws, e3, e4, e5, e6⟩ := r.ow j p' es z
      have : b ≠ a0 := fun y => by subst y; exact z1 (r.ne j i p' p es ds b z hs e3 hσ)
      exact ⟨b, ws, e3, by rw [upd_ne this]; exact e4, e5, e6⟩
  · have g : ∀ (m : Nat) (p3 : Bool) (gs : OD), (s.set i (.ow p ds'))[m]? = some (.ow p3 gs) → ∃ p4 gs', s[m]? = some (.ow p4 gs') := fun m p3 gs h => by
      rcases hx m _ h with ⟨z1, z⟩ | ⟨_, z⟩
      · subst z1; exact ⟨_, _, hs⟩
      · exact ⟨_, _, z⟩
    obtain ⟨_, _, g1⟩ := g j p1 es h1
    obtain ⟨_, _, g2⟩ := g k p2 fs h2
    exact r.ne j k _ _ _ _ b g1 g2 h3 h4
  · have : b ≠ a0 := fun z => by subst z; exact n own
    rw [upd_ne this]; exact h
  · obtain ⟨j, p3, gs, h1, h2⟩ := h
    rcases hx j _ h1 with ⟨z1, z⟩ | ⟨_, z⟩
    · subst z1; exact .inl ⟨j, p, ds, hs, h2⟩
    · exact .inl ⟨j, p3, gs, z, h2⟩
  · by_cases hb : b = a0
    · subst hb; rw [upd_same] at h; cases h
    · rw [upd_ne hb] at h; exact h
  · by_cases hj : i = j
    · subst hj
      rw [hs] at h; cases h
      exact ⟨ds', List.getElem?_set_self hi, rfl⟩
    · exact ⟨es, by rw [List.getElem?_set_ne hj]; exact h, rfl⟩

/-- an own list becomes data -/
theorem Rep.frz (r : Rep K S H s σ) {i : Nat} {ds : OD} (hs : s[i]? = some (.ow false ds)) :
    ∃ a vs, σ[i]? = some (some (.ref a)) ∧ Dt K (upd S a vs) (.ref a) ds.d ∧ Go K S H s σ (upd S a vs) H (s.set i (.tr ds.d)) σ := by
  have hi := getElem?_lt hs
  obtain ⟨a, vs, e0, e1, e2, e3⟩ := r.ow i false ds hs
  have hx : ∀ (j : Nat) (x : Sl), (s.set i (.tr ds.d))[j]? = some x → (j = i ∧ x = .tr ds.d) ∨ (j ≠ i ∧ s[j]? = some x) := fun j x h => by
    by_cases hj : i = j
    · subst hj
      rw [List.getElem?_set_self hi] at h
      exact .inl ⟨rfl, (Option.some.inj h).symm⟩
    · rw [List.getElem?_set_ne hj] at h
      exact .inr ⟨fun z => hj z.symm, h⟩
  have sm : Same S (upd S a vs) := same_upd e2
  have dt : Dt K (upd S a vs) (.ref a) ds.d := (e3.mono sm).data upd_same
  refine ⟨a, vs, e0, dt, ⟨fun b o h => ?_, by rw [List.length_set]; exact r.len, fun j d h => ?_, fun j p' es h => ?_, fun j k p1 p2 es fs b h1 h2 h3 h4 => ?_⟩, sm, fun b o h n => h, fun b h => ?_, fun b h => h, fun b h => ?_, fun j es h => ?_, List.length_set⟩
  · by_cases hb : b = a
    · subst hb; rw [upd_same] at h; rw [e1]; exact h
    · rw [upd_ne hb] at h; exact r.sub b o h
  · rcases hx j _ h with ⟨z1, z⟩ | ⟨_, z⟩
    · cases z
      subst z1
      exact ⟨_, e0, dt⟩
    · obtain ⟨v, q1, q2⟩ := r.tr j d z
      exact ⟨v, q1, q2.mono sm⟩
  · rcases hx j _ h with ⟨z1, z⟩ | ⟨z1, z⟩
    · cases z
    · obtain ⟨b, ws, f3, f4, f5, f6⟩ := r.ow j p' es z
      have : b ≠ a := fun y => by subst y; exact z1 (r.ne j i p' false es ds b z hs f3 e0)
      exact ⟨b, ws, f3, f4, by rw [upd_ne this]; exact f5, f6.mono sm⟩
  · rcases hx j _ h1 with ⟨_, z⟩ | ⟨_, z⟩
    · cases z
    · rcases hx k _ h2 with ⟨_, y⟩ | ⟨_, y⟩
      · cases y
      · exact r.ne j k _ _ _ _ b z y h3 h4
  · obtain ⟨j, p3, gs, h1, h2⟩ := h
    rcases hx j _ h1 with ⟨_, z⟩ | ⟨_, z⟩
    · cases z
    · exact .inl ⟨j, p3, gs, z, h2⟩
  · by_cases hb : b = a
    · subst hb; exact .inr (.inr ⟨i, false, ds, hs, e0⟩)
    · rw [upd_ne hb] at h; exact .inl h
  · have hj : i ≠ j := fun z => by subst z; rw [hs] at h; cases h
    exact ⟨es, by rw [List.getElem?_set_ne hj]; exact h, rfl⟩

/-- a slot that is no parameter's list is given data -/
theorem Rep.set (r : Rep K S H s σ) {i : Nat} {v : V} {d : D} (hi : i < s.length) (hn : ∀ ds, s[i]? ≠ some (.ow true ds)) (q : Dt K S v d) : Go K S H s σ S H (s.set i (.tr d)) (σ.set i (some v)) := by
  have hi' : i < σ.length := by rw [r.len]; exact hi
  have hx : ∀ (j : Nat) (x : Sl), (s.set i (.tr d))[j]? = some x → (j = i ∧ x = .tr d) ∨ (i ≠ j ∧ s[j]? = some x) := fun j x h => by
    by_cases hj : i = j
    · subst hj
      rw [List.getElem?_set_self hi] at h
      exact .inl ⟨rfl, (Option.some.inj h).symm⟩
    · rw [List.getElem?_set_ne hj] at h
      exact .inr ⟨hj, h⟩
  refine ⟨⟨r.sub, by rw [List.length_set, List.length_set]; exact r.len, fun j e h => ?_, fun j p' es h => ?_, fun j k p1 p2 es fs b h1 h2 h3 h4 => ?_⟩, Same.refl _, fun b o h n => h, fun b h => ?_, fun b h => h, fun b h => .inl h, fun j es h => ?_, List.length_set⟩
  · rcases hx j _ h with ⟨z1, z⟩ | ⟨z1, z⟩
    · cases z
      subst z1
      exact ⟨v, List.getElem?_set_self hi', q⟩
    · obtain ⟨w, q1, q2⟩ := r.tr j e z
      exact ⟨w, by rw [List.getElem?_set_ne z1]; exact q1, q2⟩
  · rcases hx j _ h with ⟨z1, z⟩ | ⟨z1, z⟩
    · cases z
    · obtain ⟨b, ws, f3, f4⟩ := r.ow j p' es z
      exact ⟨b, ws, by rw [List.getElem?_set_ne z1]; exact f3, f4⟩
  · rcases hx j _ h1 with ⟨_, z⟩ | ⟨z1, z⟩
    · cases z
    · rcases hx k _ h2 with ⟨_, y⟩ | ⟨y1, y⟩
      · cases y
      · rw [List.getElem?_set_ne z1] at h3
        rw [List.getElem?_set_ne y1] at h4
        exact r.ne j k _ _ _ _ b z y h3 h4
  · obtain ⟨j, p3, gs, h1, h2⟩ := h
    rcases hx j _ h1 with ⟨_, z⟩ | ⟨z1, z⟩
    · cases z
    · rw [List.getElem?_set_ne z1] at h2
      exact .inl ⟨j, p3, gs, z, h2⟩
  · have hj : i ≠ j := fun z => by subst z; exact hn es h
    exact ⟨es, by rw [List.getElem?_set_ne hj]; exact h, List.getElem?_set_ne hj⟩
/-- a slot is given a new own list -/
theorem Rep.setO (r : Rep K S H s σ) {i : Nat} {a : Addr} {vs : HO} {ds : OD} (hi : i < s.length) (hn : ∀ ds, s[i]? ≠ some (.ow true ds)) (ha : H a = none) (q : OdR K S vs ds) :
    Go K S H s σ S (upd H a vs) (s.set i (.ow false ds)) (σ.set i (some (.ref a))) := by
  have hi' : i < σ.length := by rw [r.len]; exact hi
  have sa : S a = none := r.sub.free ha
  have hx : ∀ (j : Nat) (x : Sl), (s.set i (.ow false ds))[j]? = some x → (j = i ∧ x = .ow false ds) ∨ (i ≠ j ∧ s[j]? = some x) := fun j x h => by
    by_cases hj : i = j
    · subst hj
      rw [List.getElem?_set_self hi] at h
      exact .inl ⟨rfl, (Option.some.inj h).symm⟩
    · rw [List.getElem?_set_ne hj] at h
      exact .inr ⟨hj, h⟩
  have sm : Same H (upd H a vs) := same_upd ha
  have no : ∀ (j : Nat) (p : Bool) (es : OD), s[j]? = some (.ow p es) → σ[j]? ≠ some (some (.ref a)) := fun j p es h z => by
    obtain ⟨b, ws, f3, f4, _⟩ := r.ow j p es h
    rw [z] at f3; injection f3 with f3; injection f3 with f3; injection f3 with f3
    subst f3; rw [ha] at f4; cases f4
  refine ⟨⟨r.sub.trans sm, by rw [List.length_set, List.length_set]; exact r.len, fun j e h => ?_, fun j p' es h => ?_, fun j k p1 p2 es fs b h1 h2 h3 h4 => ?_⟩, Same.refl _, fun b o h n => sm b o h, fun b h => ?_, fun b h => sm.free h, fun b h => .inl h, fun j es h => ?_, List.length_set⟩
  · rcases hx j _ h with ⟨z1, z⟩ | ⟨z1, z⟩
    · cases z
    · obtain ⟨w, q1, q2⟩ := r.tr j e z
      exact ⟨w, by rw [List.getElem?_set_ne z1]; exact q1, q2⟩
  · rcases hx j _ h with ⟨z1, z⟩ | ⟨z1, z⟩
    · cases z
      subst z1
      exact ⟨a, vs, List.getElem?_set_self hi', upd_same, sa, q⟩
    · obtain ⟨b, ws, f3, f4, f5⟩ := r.ow j p' es z
      exact ⟨b, ws, by rw [List.getElem?_set_ne z1]; exact f3, sm _ _ f4, f5⟩
  · rcases hx j _ h1 with ⟨z1, z⟩ | ⟨z1, z⟩
    · rcases hx k _ h2 with ⟨y1, y⟩ | ⟨y1, y⟩
      · rw [z1, y1]
      · subst z1
        rw [List.getElem?_set_self hi'] at h3
        rw [List.getElem?_set_ne y1] at h4
        injection h3 with h3; injection h3 with h3; injection h3 with h3
        subst h3
        exact absurd h4 (no k _ _ y)
    · rcases hx k _ h2 with ⟨y1, y⟩ | ⟨y1, y⟩
      · subst y1
        rw [List.getElem?_set_self hi'] at h4
        rw [List.getElem?_set_ne z1] at h3
        injection h4 with h4; injection h4 with h4; injection h4 with h4
        subst h4
        exact absurd h3 (no j _ _ z)
      · rw [List.getElem?_set_ne z1] at h3
        rw [List.getElem?_set_ne y1] at h4
        exact r.ne j k _ _ _ _ b z y h3 h4
  · obtain ⟨j, p3, gs, h1, h2⟩ := h
    rcases hx j _ h1 with ⟨z1, z⟩ | ⟨z1, z⟩
    · subst z1
      rw [List.getElem?_set_self hi'] at h2
      injection h2 with h2; injection h2 with h2; injection h2 with h2
      subst h2
      exact .inr ha
    · rw [List.getElem?_set_ne z1] at h2
      exact .inl ⟨j, p3, gs, z, h2⟩
  · have hj : i ≠ j := fun z => by subst z; exact hn es h
    exact ⟨es, by rw [List.getElem?_set_ne hj]; exact h, List.getElem?_set_ne hj⟩
theorem Rep.ol (r : Rep K S H s σ) (i : Nat) (p : Bool) (ds : List D) (h : s[i]? = some (.ow p (.l ds))) : ∃ a vs, σ[i]? = some (some (.ref a)) ∧ H a = some (.lst vs) ∧ S a = none ∧ DtA K S vs ds := by
  obtain ⟨a, o, e1, e2, e3, e4⟩ := r.ow i p _ h
  cases e4 with
  | l q => exact ⟨a, _, e1, e2, e3, q⟩
end
end DL
namespace DL
open PySem PySem.Spec PyProof.Rows L2

/-! ### data as the library's -/
mutual
def D.py : D → PyData
  | .non => .none
  | .bl b => .bool b
  | .int i => .int i
  | .str s => .str s
  | .tup xs => .tuple (D.pys xs)
  | .lst xs => .list (D.pys xs)
  | .rl xs => .list (D.pys xs)
  | .dK _ => .dict []
  | .dT _ => .dict []
  | .ex _ => .dict []
  | .exf _ _ _ => .dict []
def D.pys : List D → List PyData
  | [] => []
  | x :: r => D.py x :: D.pys r
end
section
variable {K : PySem.W.Frag} {H : Hp}
mutual
theorem Dt.dp : ∀ {v : V} {d : D}, Dt K H v d → d.py.canLay0 = true → Dp K H v d.py
  | _, _, .non, _ => .non
  | _, _, .bl b, _ => .bl b
  | _, _, .int i, _ => .int i
  | _, _, .str x, _ => .str x
  | _, _, .lst h a, c => .lst (.inl (.inl h)) (DtA.dp a (by simpa [D.py, PyData.canLay0] using c))
  | _, _, .rl h a, c => .lst h (DtA.dp a (by simpa [D.py, PyData.canLay0] using c))
  | _, _, .tup h a, c => .tup h (DtA.dp a (by simpa [D.py, PyData.canLay0] using c))
  | _, _, .dK _ _, c => by simp [D.py, PyData.canLay0] at c
  | _, _, .dT _ _, c => by simp [D.py, PyData.canLay0] at c
  | _, _, .ex _, c => by simp [D.py, PyData.canLay0] at c
  | _, _, .exf _ _ _, c => by simp [D.py, PyData.canLay0] at c
theorem DtA.dp : ∀ {vs : List V} {ds : List D}, DtA K H vs ds → PyData.canLayAll0 (D.pys ds) = true → DpAll K H vs (D.pys ds)
  | _, _, .nil, _ => .nil
  | _ :: _, d :: ds, .cons h a, c => by
    have c : (PyData.canLay0 (D.py d) && PyData.canLayAll0 (D.pys ds)) = true := by simpa [D.pys, PyData.canLayAll0] using c
    obtain ⟨c1, c2⟩ := Bool.and_eq_true_iff.mp c
    exact .cons (Dt.dp h c1) (DtA.dp a c2)
end
end

/-! ### what a piece computes -/
abbrev FE := Sd → Option (D × Sd)
abbrev FT := Sd → Option (Bool × Sd)
abbrev FA := Sd → Option (List D × Sd)
def QE (K : PySem.W.Frag) (r : Option (D × Sd)) (S H : Hp) (s : Sd) (σ : L2.St) (Q : VK) : Prop := match r with
  | some (d, s') => ∀ v S' H', Go K S H s σ S' H' s' σ → Dt K S' v d → Q v H'
  | none => False
def QT (K : PySem.W.Frag) (r : Option (Bool × Sd)) (S H : Hp) (s : Sd) (σ : L2.St) (Q : Bool → Hp → Prop) : Prop := match r with
  | some (b, s') => ∀ S' H', Go K S H s σ S' H' s' σ → Q b H'
  | none => False
def QA (K : PySem.W.Frag) (r : Option (List D × Sd)) (S H : Hp) (s : Sd) (σ : L2.St) (Q : List V → Hp → Prop) : Prop := match r with
  | some (ds, s') => ∀ vs S' H', Go K S H s σ S' H' s' σ → DtA K S' vs ds → Q vs H'
  | none => False
def SE (K : PySem.W.Frag) (t : TE) (f : FE) : Prop := ∀ S H s σ Q, Rep K S H s σ → QE K (f s) S H s σ Q → t σ H Q
def ST (K : PySem.W.Frag) (t : TT) (f : FT) : Prop := ∀ S H s σ Q, Rep K S H s σ → QT K (f s) S H s σ Q → t σ H Q
def SA (K : PySem.W.Frag) (t : TA) (f : FA) : Prop := ∀ S H s σ Q, Rep K S H s σ → QA K (f s) S H s σ Q → t σ H Q
section
variable {K : PySem.W.Frag} {S H : Hp} {s s1 : Sd} {σ : L2.St}
theorem SE.use {t : TE} {f : FE} {Q : VK} {d : D} (h : SE K t f) (r : Rep K S H s σ) (e : f s = some (d, s1)) (q : ∀ v S' H', Go K S H s σ S' H' s1 σ → Dt K S' v d → Q v H') : t σ H Q :=
  h S H s σ Q r (by rw [e]; exact q)
theorem ST.use {t : TT} {f : FT} {Q : Bool → Hp → Prop} {b : Bool} (h : ST K t f) (r : Rep K S H s σ) (e : f s = some (b, s1)) (q : ∀ S' H', Go K S H s σ S' H' s1 σ → Q b H') : t σ H Q :=
  h S H s σ Q r (by rw [e]; exact q)
theorem SA.use {t : TA} {f : FA} {Q : List V → Hp → Prop} {ds : List D} (h : SA K t f) (r : Rep K S H s σ) (e : f s = some (ds, s1)) (q : ∀ vs S' H', Go K S H s σ S' H' s1 σ → DtA K S' vs ds → Q vs H') : t σ H Q :=
  h S H s σ Q r (by rw [e]; exact q)
end
structure PD (X : Cx) (e : Expr) (t : TE) (f : FE) : Prop where
  pe : PE X e t
  ok : SE X.K t f
structure PDt (X : Cx) (e : Expr) (t : TT) (f : FT) : Prop where
  pe : PT X e t
  ok : ST X.K t f
structure PDw (X : Cx) (e : Expr) (t : TT) (f : FT) : Prop where
  pe : PW X e t
  ok : ST X.K t f
structure PDa (X : Cx) (es : List Expr) (t : TA) (f : FA) : Prop where
  pe : PA X es t
  ok : SA X.K t f

/-! ### names, constants -/
def fV (i : Nat) : FE := fun s => match s[i]? with
  | some (.tr d) => some (d, s)
  | some (.ow false od) => some (od.d, s.set i (.tr od.d))
  | _ => none
def fC (d : D) : FE := fun s => some (d, s)
section
variable {X : Cx} {K : PySem.W.Frag}
theorem se_var {i : Nat} : SE K (tVar i) (fV i) := by
  intro S H s σ Q r h
  unfold fV at h
  cases e : s[i]? with
  | none => rw [e] at h; exact h.elim
  | some x =>
    rw [e] at h
    cases x with
    | no => exact h.elim
    | tr d =>
      obtain ⟨v, e1, q⟩ := r.tr i d e
      exact ⟨v, e1, h v S H (Go.refl r) q⟩
    | ow p ds =>
      cases p with
      | true => exact h.elim
      | false =>
        obtain ⟨a, vs, e1, q, g⟩ := r.frz e
        exact ⟨.ref a, e1, h _ _ _ g q⟩
theorem se_c {v : V} {d : D} (q : ∀ S, Dt K S v d) : SE K (tC v) (fC d) := fun S H s σ Q r h => h v S H (Go.refl r) (q S)
theorem pd_v (i : Nat) {x : Str} {pos : Pos} (hN : X.N[i]? = some x := by rfl) (hv : Vis X.env.scope x := by first | exact Or.inl rfl | exact Or.inr (Or.inl rfl) | exact Or.inr (Or.inr rfl)) (hd : (x == ("__debug__" : Str)) = false := by decide)
    (hcd : (x == ("__classdict__" : Str)) = false := by decide) : PD X (.Name x pos) (tVar i) (fV i) := ⟨pe_var hN hv hd hcd, se_var⟩
theorem pd_int {i : Int} {j pos} : PD X (.Constant (.int i) j pos) (tC (.int i)) (fC (.int i)) := ⟨pe_int, se_c fun _ => .int i⟩
theorem pd_str {x : Str} {j pos} : PD X (.Constant (.str x) j pos) (tC (.str x)) (fC (.str x)) := ⟨pe_str, se_c fun _ => .str x⟩
theorem pd_bl {b : Bool} {j pos} : PD X (.Constant (.bool b) j pos) (tC (.bl b)) (fC (.bl b)) := ⟨pe_bl, se_c fun _ => .bl b⟩
theorem pd_non {j pos} : PD X (.Constant .none j pos) (tC .non) (fC .non) := ⟨pe_non, se_c fun _ => .non⟩
end

/-! ### operators -/
def OpS (K : PySem.W.Frag) (r : R2) (g : D → D → Option D) : Prop := ∀ S H x y a b z Q, Same S H → Dt K S x a → Dt K S y b → g a b = some z → (∀ v S' H', Al S H S' H' → Dt K S' v z → Q v H') → r x y H Q
def fOp (g : D → D → Option D) (fa fb : FE) : FE := fun s => match fa s with
  | none => none
  | some (a, s1) => match fb s1 with
    | none => none
    | some (b, s2) => match g a b with
      | none => none
      | some z => some (z, s2)
def UnS (K : PySem.W.Frag) (r : V → Hp → VK → Prop) (g : D → Option D) : Prop := ∀ S H x a z Q, Same S H → Dt K S x a → g a = some z → (∀ v S' H', Al S H S' H' → Dt K S' v z → Q v H') → r x H Q
def fUn (g : D → Option D) (fa : FE) : FE := fun s => match fa s with
  | none => none
  | some (a, s1) => match g a with
    | none => none
    | some z => some (z, s1)
section
variable {X : Cx} {K : PySem.W.Frag} {ta tb tc te : TE} {fa fb fc : FE} {r r' : R2} {g g' : D → D → Option D}
theorem se_op (ha : SE K ta fa) (hb : SE K tb fb) (hr : OpS K r g) : SE K (tOp r ta tb) (fOp g fa fb) := by
  intro S H s σ Q r0 h
  unfold fOp at h
  cases e : fa s with
  | none => rw [e] at h; exact h.elim
  | some x =>
    obtain ⟨a, s1⟩ := x
    rw [e] at h
    refine ha.use r0 e fun x S1 H1 g1 d1 => ?_
    simp only at h
    cases e2 : fb s1 with
    | none => rw [e2] at h; exact h.elim
    | some y =>
      obtain ⟨b, s2⟩ := y
      rw [e2] at h
      simp only at h
      refine hb.use g1.rep e2 fun y S2 H2 g2 d2 => ?_
      cases e3 : g a b with
      | none => rw [e3] at h; exact h.elim
      | some z =>
        rw [e3] at h
        exact hr S2 H2 x y a b z Q g2.rep.sub (d1.mono g2.ext) d2 e3 fun v S' H' al q => h v S' H' ((g1.trans g2).trans (al.go g2.rep)) q
theorem se_un {r : V → Hp → VK → Prop} {g : D → Option D} (ha : SE K ta fa) (hr : UnS K r g) : SE K (tUn r ta) (fUn g fa) := by
  intro S H s σ Q r0 h
  unfold fUn at h
  cases e : fa s with
  | none => rw [e] at h; exact h.elim
  | some x =>
    obtain ⟨a, s1⟩ := x
    rw [e] at h
    refine ha.use r0 e fun x S1 H1 g1 d1 => ?_
    simp only at h
    cases e3 : g a with
    | none => rw [e3] at h; exact h.elim
    | some z =>
      rw [e3] at h
      exact hr S1 H1 x a z Q g1.rep.sub d1 e3 fun v S' H' al q => h v S' H' (g1.trans (al.go g1.rep)) q
theorem pd_op {a b : Expr} {op : Operator} {pos : Pos} (ho : OpR X (binaryOp op) r) (hs : OpS X.K r g) (ha : PD X a ta fa) (hb : PD X b tb fb) : PD X (.BinOp a op b pos) (tOp r ta tb) (fOp g fa fb) := ⟨pe_op ho ha.pe hb.pe, se_op ha.ok hb.ok hs⟩
theorem pd_cmp {a b : Expr} {op : CmpOp} {pos : Pos} (ho : OpR X (compareOp op) r) (hs : OpS X.K r g) (ha : PD X a ta fa) (hb : PD X b tb fb) (hm : behindInMarks op b = false) : PD X (.Compare a [op] [b] pos) (tOp r ta tb) (fOp g fa fb) := ⟨pe_cmpR ho ha.pe hb.pe hm, se_op ha.ok hb.ok hs⟩
theorem pd_un {a : Expr} {op : UnaryOp} {pos : Pos} {r : V → Hp → VK → Prop} {g : D → Option D} (ho : UnR X (unaryOp op) r) (hs : UnS X.K r g) (ha : PD X a ta fa) : PD X (.UnaryOp op a pos) (tUn r ta) (fUn g fa) := ⟨pe_un ho ha.pe, se_un ha.ok hs⟩
theorem pd_ix {a b : Expr} {pos : Pos} (hr : IxR X r) (hs : OpS X.K r g) (ha : PD X a ta fa) (hb : PD X b tb fb) (hp : PlainIx b) : PD X (.Subscript a b pos) (tOp r ta tb) (fOp g fa fb) := ⟨pe_ix hr ha.pe hb.pe hp, se_op ha.ok hb.ok hs⟩

/-! ### the operators on data -/
def gI (C : Int → Int → Bool) (g : Int → Int → D) : D → D → Option D
  | .int i, .int j => if C i j = true then some (g i j) else none
  | _, _ => none
theorem os_rI {P : Int → Int → Prop} {C : Int → Int → Bool} {gv : Int → Int → V} {g : Int → Int → D} (hc : ∀ i j, C i j = true → P i j) (hv : ∀ S i j, Dt K S (gv i j) (g i j)) : OpS K (rI P gv) (gI C g) := by
  intro S H x y a b z Q sm dx dy e q
  unfold gI at e
  split at e
  · rename_i i j
    cases dx
    cases dy
    split at e
    · rename_i c
      cases e
      exact ⟨i, j, rfl, rfl, hc i j c, q _ S H (Al.refl sm) (hv S i j)⟩
    · cases e
  · cases e
def gI0 (g : Int → Int → D) : D → D → Option D
  | .int i, .int j => some (g i j)
  | _, _ => none
theorem os_rI0 {gv : Int → Int → V} {g : Int → Int → D} (hv : ∀ S i j, Dt K S (gv i j) (g i j)) : OpS K (rI0 gv) (gI0 g) := by
  intro S H x y a b z Q sm dx dy e q
  unfold gI0 at e
  split at e
  · rename_i i j
    cases dx
    cases dy
    cases e
    exact ⟨i, j, rfl, rfl, q _ S H (Al.refl sm) (hv S i j)⟩
  · cases e
def gAddI := gI0 fun i j => .int (i + j)
def gSubI := gI0 fun i j => .int (i - j)
def gLt := gI0 fun i j => .bl (decide (i < j))
def gLe := gI0 fun i j => .bl (decide (i ≤ j))
def gGt := gI0 fun i j => .bl (decide (j < i))
def gGe := gI0 fun i j => .bl (decide (j ≤ i))
/-- a factor below 2 ^ 64 -/
def small64 (i : Int) : Bool := decide (-(2 ^ 64) < i ∧ i < 2 ^ 64)
def gMul := gI (fun i j => small64 i || small64 j) fun i j => .int (i * j)
def gMod := gI (fun _ j => decide (j ≠ 0)) fun i j => .int (i.fmod j)
def gDiv := gI (fun _ j => decide (j ≠ 0 ∧ j.natAbs < 1073741824)) fun i j => .int (i.fdiv j)
/-- // by a positive number below 2 ^ 9000 -/
def gDivW := gI (fun _ j => decide (0 < j ∧ j.natAbs.log2 < 9000)) fun i j => .int (i / j)
theorem os_add : OpS K (rI0 fun i j => .int (i + j)) gAddI := os_rI0 fun _ i j => .int _
theorem os_sub : OpS K (rI0 fun i j => .int (i - j)) gSubI := os_rI0 fun _ i j => .int _
theorem os_lt : OpS K (rI0 fun i j => .bl (decide (i < j))) gLt := os_rI0 fun _ i j => .bl _
theorem os_le : OpS K (rI0 fun i j => .bl (decide (i ≤ j))) gLe := os_rI0 fun _ i j => .bl _
theorem os_gt : OpS K (rI0 fun i j => .bl (decide (j < i))) gGt := os_rI0 fun _ i j => .bl _
theorem os_ge : OpS K (rI0 fun i j => .bl (decide (j ≤ i))) gGe := os_rI0 fun _ i j => .bl _
theorem os_mul : OpS K (rI CMul fun i j => .int (i * j)) gMul := os_rI (fun i j h => by
  rcases Bool.or_eq_true_iff.mp h with z | z
  · exact .inl (of_decide_eq_true z)
  · exact .inr (of_decide_eq_true z)) fun _ i j => .int _
theorem os_mod : OpS K (rI (fun _ j => j ≠ 0) fun i j => .int (i.fmod j)) gMod := os_rI (fun i j h => by have z := of_decide_eq_true h; exact z) fun _ i j => .int _
theorem os_div : OpS K (rI CDivN fun i j => .int (i.fdiv j)) gDiv := os_rI (fun i j h => by have z := of_decide_eq_true h; exact z) fun _ i j => .int _
theorem os_divW : OpS K (rI CDivW fun i j => .int (i / j)) gDivW := os_rI (fun i j h => by have z := of_decide_eq_true h; exact z) fun _ i j => .int _
/-- a power of not too large size -/
def CPowB (i j : Int) : Prop := 0 ≤ j ∧ (Builtin.Int.intBits i : Int) * j ≤ 2 ^ 27
theorem op_powB : OpR X (binaryOp .Pow) (rI CPowB fun i j => .int (i ^ j.toNat)) := opI fun _ _ _ _ _ _ _ hc q => pow_int hc.1 hc.2 q
def gPow := gI (fun i j => decide (0 ≤ j ∧ (Builtin.Int.intBits i : Int) * j ≤ 2 ^ 27)) fun i j => .int (i ^ j.toNat)
theorem os_pow : OpS K (rI CPowB fun i j => .int (i ^ j.toNat)) gPow := os_rI (fun i j h => by have z := of_decide_eq_true h; exact z) fun _ i j => .int _
/-- == and != of data -/
def gEqD : D → D → Option D := fun a b => if SeqAt.shaped a.py && SeqAt.shaped b.py then some (.bl (PyData.eqv a.py b.py)) else none
def gNeD : D → D → Option D := fun a b => if SeqAt.shaped a.py && SeqAt.shaped b.py then some (.bl (!PyData.eqv a.py b.py)) else none
theorem os_eqD : OpS K (rEqD K) gEqD := by
  intro S H x y a b z Q sm dx dy e q
  unfold gEqD at e
  split at e
  · rename_i c
    cases e
    obtain ⟨c1, c2⟩ := Bool.and_eq_true_iff.mp c
    exact ⟨_, _, (dx.mono sm).dp (SeqAt.canLay_of_shaped c1), (dy.mono sm).dp (SeqAt.canLay_of_shaped c2), c1, c2, q _ S H (Al.refl sm) (.bl _)⟩
  · cases e
theorem os_neD : OpS K (rNeD K) gNeD := by
  intro S H x y a b z Q sm dx dy e q
  unfold gNeD at e
  split at e
  · rename_i c
    cases e
    obtain ⟨c1, c2⟩ := Bool.and_eq_true_iff.mp c
    exact ⟨_, _, (dx.mono sm).dp (SeqAt.canLay_of_shaped c1), (dy.mono sm).dp (SeqAt.canLay_of_shaped c2), c1, c2, q _ S H (Al.refl sm) (.bl _)⟩
  · cases e
/-- x in xs, a list -/
def gInD : D → D → Option D
  | a, .lst ds => if SeqAt.shaped a.py && SeqAt.shaped (D.lst ds).py then some (.bl ((D.pys ds).any fun z => PyData.eqv z a.py)) else none
  | _, _ => none
def gNotInD : D → D → Option D
  | a, .lst ds => if SeqAt.shaped a.py && SeqAt.shaped (D.lst ds).py then some (.bl (!(D.pys ds).any fun z => PyData.eqv z a.py)) else none
  | _, _ => none
theorem os_inD : OpS K (rInD K) gInD := by
  intro S H x y a b z Q sm dx dy e q
  unfold gInD at e
  split at e
  · rename_i ds
    split at e
    · rename_i c
      cases e
      obtain ⟨c1, c2⟩ := Bool.and_eq_true_iff.mp c
      refine ⟨_, D.pys ds, (dx.mono sm).dp (SeqAt.canLay_of_shaped c1), ?_, c1, ?_, q _ S H (Al.refl sm) (.bl _)⟩
      · have := (dy.mono sm).dp (SeqAt.canLay_of_shaped c2)
        simpa [D.py] using this
      · simpa [D.py] using c2
    · cases e
  · cases e
theorem os_notInD : OpS K (rNotInD K) gNotInD := by
  intro S H x y a b z Q sm dx dy e q
  unfold gNotInD at e
  split at e
  · rename_i ds
    split at e
    · rename_i c
      cases e
      obtain ⟨c1, c2⟩ := Bool.and_eq_true_iff.mp c
      refine ⟨_, D.pys ds, (dx.mono sm).dp (SeqAt.canLay_of_shaped c1), ?_, c1, ?_, q _ S H (Al.refl sm) (.bl _)⟩
      · have := (dy.mono sm).dp (SeqAt.canLay_of_shaped c2)
        simpa [D.py] using this
      · simpa [D.py] using c2
    · cases e
  · cases e
/-- texts -/
def gS (C : Str → Str → Bool) (g : Str → Str → D) : D → D → Option D
  | .str i, .str j => if C i j = true then some (g i j) else none
  | _, _ => none
def gAddS := gS (fun i j => decide (i.length + j.length ≤ sizeLine)) fun i j => .str (i ++ j)
theorem os_addS : OpS K (fun x y H Q => ∃ i j, x = .str i ∧ y = .str j ∧ i.length + j.length ≤ sizeLine ∧ Q (.str (i ++ j)) H) gAddS := by
  intro S H x y a b z Q sm dx dy e q
  unfold gAddS gS at e
  split at e
  · rename_i i j
    cases dx
    cases dy
    split at e
    · rename_i c
      cases e
      exact ⟨i, j, rfl, rfl, of_decide_eq_true c, q _ S H (Al.refl sm) (.str _)⟩
    · cases e
  · cases e
def gLeS := gS (fun _ _ => true) fun i j => .bl (!decide (j.cps.toList < i.cps.toList))
theorem os_leS : OpS K (fun x y H Q => ∃ i j, x = .str i ∧ y = .str j ∧ Q (.bl (!decide (j.cps.toList < i.cps.toList))) H) gLeS := by
  intro S H x y a b z Q sm dx dy e q
  unfold gLeS gS at e
  split at e
  · rename_i i j
    cases dx
    cases dy
    cases e
    exact ⟨i, j, rfl, rfl, q _ S H (Al.refl sm) (.bl _)⟩
  · cases e
/-- list + list, tuple + tuple, list * n -/
def gCat : D → D → Option D
  | .lst a, .lst b => if a.length + b.length ≤ sizeLine then some (.lst (a ++ b)) else none
  | _, _ => none
theorem os_cat : OpS K rCat gCat := by
  intro S H x y a b z Q sm dx dy e q
  unfold gCat at e
  split at e
  · cases dx with
    | lst ha da =>
      cases dy with
      | lst hb db =>
        split at e
        · rename_i c
          cases e
          rw [← da.length, ← db.length] at c
          refine ⟨_, _, _, _, rfl, rfl, sm _ _ ha, sm _ _ hb, c, fun p hp => ?_⟩
          exact q _ _ _ (Al.new sm hp) (.lst upd_same ((da.app db).mono (Al.new sm hp).ext))
        · cases e
  · cases e
def gCatT : D → D → Option D
  | .tup (x :: a), .tup (y :: b) => if (x :: a).length + (y :: b).length ≤ sizeLine then some (.tup ((x :: a) ++ (y :: b))) else none
  | _, _ => none
theorem os_catT : OpS K (rCatT K) gCatT := by
  intro S H x y a b z Q sm dx dy e q
  unfold gCatT at e
  split at e
  · cases dx with
    | tup ha da =>
      cases dy with
      | tup hb db =>
        split at e
        · rename_i c
          cases e
          rw [← da.length, ← db.length] at c
          cases da with
          | cons d1 da =>
            cases db with
            | cons d2 db =>
              refine ⟨_, _, _, _, rfl, rfl, same_t sm ha, same_t sm hb, List.cons_ne_nil _ _, c, (fun z => nomatch z), fun _ p hp => ?_⟩
              exact q _ _ _ (Al.new sm hp) (.tup (.inl (.inl upd_same)) (((DtA.cons d1 da).app (DtA.cons d2 db)).mono (Al.new sm hp).ext))
        · cases e
  · cases e
theorem DtA.rep {S : Hp} : ∀ {vs : List V} {ds : List D} (n : Nat), DtA K S vs ds → DtA K S (List.replicate n vs).flatten (List.replicate n ds).flatten
  | _, _, 0, _ => by simp; exact .nil
  | _, _, n + 1, h => by
    rw [List.replicate_succ, List.replicate_succ, List.flatten_cons, List.flatten_cons]
    exact h.app (DtA.rep n h)
def gRep : D → D → Option D
  | .lst a, .int k => if -(2 ^ 63) ≤ k ∧ k < 2 ^ 63 ∧ a.length * k.toNat ≤ sizeLine then some (.lst (List.replicate k.toNat a).flatten) else none
  | _, _ => none
theorem os_rep : OpS K rRep gRep := by
  intro S H x y a b z Q sm dx dy e q
  unfold gRep at e
  split at e
  · cases dx with
    | lst ha da =>
      cases dy
      split at e
      · rename_i c
        cases e
        obtain ⟨c1, c2, c3⟩ := c
        rw [← da.length] at c3
        refine ⟨_, _, _, rfl, rfl, sm _ _ ha, c1, c2, c3, fun p hp => ?_⟩
        exact q _ _ _ (Al.new sm hp) (.lst upd_same ((da.rep _).mono (Al.new sm hp).ext))
      · cases e
  · cases e
/-- t[i], xs[i] -/
theorem DtA.atI {S : Hp} {vs : List V} {ds : List D} {i : Int} {d : D} (h : DtA K S vs ds) (e : L2.atI ds i = some d) : ∃ v, L2.atI vs i = some v ∧ Dt K S v d := by
  unfold L2.atI at e ⊢
  rw [h.length]
  cases ej : ixN ds.length i with
  | none => rw [ej] at e; cases e
  | some j =>
    rw [ej] at e
    exact h.get e
def gIxT : D → D → Option D
  | .tup xs, .int i => atI xs i
  | _, _ => none
def gIxL : D → D → Option D
  | .lst xs, .int i => atI xs i
  | .rl xs, .int i => atI xs i
  | _, _ => none
theorem os_ixT : OpS K (rIxT K) gIxT := by
  intro S H x y a b z Q sm dx dy e q
  unfold gIxT at e
  split at e
  · cases dx with
    | tup ha da =>
      cases dy
      obtain ⟨v, e1, h1⟩ := da.atI e
      exact ⟨_, _, _, v, rfl, rfl, same_t sm ha, e1, q v S H (Al.refl sm) h1⟩
  · cases e
theorem os_ixL : OpS K (rIxL K) gIxL := by
  intro S H x y a b z Q sm dx dy e q
  unfold gIxL at e
  split at e
  · cases dx with
    | lst ha da =>
      cases dy
      obtain ⟨v, e1, h1⟩ := da.atI e
      exact ⟨_, _, _, v, rfl, rfl, .inl (.inl (sm _ _ ha)), e1, q v S H (Al.refl sm) h1⟩
  · cases dx with
    | rl ha da =>
      cases dy
      obtain ⟨v, e1, h1⟩ := da.atI e
      exact ⟨_, _, _, v, rfl, rfl, sm.seq ha, e1, q v S H (Al.refl sm) h1⟩
  · cases e
def gIsB : D → D → Option D
  | .bl a, .bl b => some (.bl (decide (a = b)))
  | _, _ => none
theorem os_isB : OpS K (fun x y H Q => ∃ a b, x = .bl a ∧ y = .bl b ∧ Q (.bl (decide (a = b))) H) gIsB := by
  intro S H x y a b z Q sm dx dy e q
  unfold gIsB at e
  split at e
  · cases dx
    cases dy
    cases e
    exact ⟨_, _, rfl, rfl, q _ S H (Al.refl sm) (.bl _)⟩
  · cases e
def gNeg : D → Option D
  | .int i => some (.int (-i))
  | _ => none

/-! ### tests -/
def fB (f : FE) : FT := fun s => match f s with
  | some (.bl b, s1) => some (b, s1)
  | _ => none
def fNot (f : FT) : FT := fun s => match f s with
  | some (b, s1) => some (!b, s1)
  | none => none
def fAnd (f g : FT) : FT := fun s => match f s with
  | some (true, s1) => g s1
  | some (false, s1) => some (false, s1)
  | none => none
def fOr (f g : FT) : FT := fun s => match f s with
  | some (true, s1) => some (true, s1)
  | some (false, s1) => g s1
  | none => none
def fAndV (f g : FE) : FE := fun s => match f s with
  | some (.bl true, s1) => g s1
  | some (.bl false, s1) => some (.bl false, s1)
  | _ => none
def fOrV (f g : FE) : FE := fun s => match f s with
  | some (.bl true, s1) => some (.bl true, s1)
  | some (.bl false, s1) => g s1
  | _ => none
def fNotV (f : FE) : FE := fun s => match f s with
  | some (.bl b, s1) => some (.bl (!b), s1)
  | _ => none
def fIf (c : FT) (f g : FE) : FE := fun s => match c s with
  | some (true, s1) => f s1
  | some (false, s1) => g s1
  | none => none
variable {tA tB' : TT} {fA gB : FT}
theorem st_B (h : SE K ta fa) : ST K (tB ta) (fB fa) := by
  intro S H s σ Q r q
  unfold fB at q
  split at q
  · rename_i b s1 e
    refine h.use r e fun v S' H' g d => ?_
    cases d
    exact ⟨b, rfl, q S' H' g⟩
  · exact q.elim
theorem st_test (h : SE K ta fa) : ST K (tTest ta) (fB fa) := by
  intro S H s σ Q r q
  unfold fB at q
  split at q
  · rename_i b s1 e
    refine h.use r e fun v S' H' g d => ?_
    cases d
    exact ⟨b, rfl, q S' H' g⟩
  · exact q.elim
theorem st_not (h : ST K tA fA) : ST K (tNot tA) (fNot fA) := by
  intro S H s σ Q r q
  unfold fNot at q
  split at q
  · rename_i b s1 e
    exact h.use r e fun S' H' g => q S' H' g
  · exact q.elim
theorem qt_go {r : Option (Bool × Sd)} {S H S1 H1 : Hp} {s s1 : Sd} {σ : L2.St} {Q : Bool → Hp → Prop} (g : Go K S H s σ S1 H1 s1 σ) (h : QT K r S H s σ Q) : QT K r S1 H1 s1 σ Q := by
  cases r with
  | none => exact h
  | some x => exact fun S' H' g' => h S' H' (g.trans g')
theorem qe_go {r : Option (D × Sd)} {S H S1 H1 : Hp} {s s1 : Sd} {σ : L2.St} {Q : VK} (g : Go K S H s σ S1 H1 s1 σ) (h : QE K r S H s σ Q) : QE K r S1 H1 s1 σ Q := by
  cases r with
  | none => exact h
  | some x => exact fun v S' H' g' d => h v S' H' (g.trans g') d
theorem st_and (h : ST K tA fA) (k : ST K tB' gB) : ST K (tAnd tA tB') (fAnd fA gB) := by
  intro S H s σ Q r q
  unfold fAnd at q
  split at q
  · rename_i s1 e
    refine h.use r e fun S' H' g => ?_
    exact iteT (k S' H' s1 σ Q g.rep (qt_go g q))
  · rename_i s1 e
    exact h.use r e fun S' H' g => iteF (q S' H' g)
  · exact q.elim
theorem st_or (h : ST K tA fA) (k : ST K tB' gB) : ST K (tOr tA tB') (fOr fA gB) := by
  intro S H s σ Q r q
  unfold fOr at q
  split at q
  · rename_i s1 e
    exact h.use r e fun S' H' g => iteT (q S' H' g)
  · rename_i s1 e
    refine h.use r e fun S' H' g => ?_
    exact iteF (k S' H' s1 σ Q g.rep (qt_go g q))
  · exact q.elim
theorem se_andV (h : SE K ta fa) (k : SE K tb fb) : SE K (tAndV ta tb) (fAndV fa fb) := by
  intro S H s σ Q r q
  unfold fAndV at q
  split at q
  · rename_i s1 e
    refine h.use r e fun v S' H' g d => ?_
    cases d
    exact ⟨true, rfl, iteT (k S' H' s1 σ Q g.rep (qe_go g q))⟩
  · rename_i s1 e
    refine h.use r e fun v S' H' g d => ?_
    cases d
    exact ⟨false, rfl, iteF (q _ S' H' g (.bl _))⟩
  · exact q.elim
theorem se_orV (h : SE K ta fa) (k : SE K tb fb) : SE K (tOrV ta tb) (fOrV fa fb) := by
  intro S H s σ Q r q
  unfold fOrV at q
  split at q
  · rename_i s1 e
    refine h.use r e fun v S' H' g d => ?_
    cases d
    exact ⟨true, rfl, iteT (q _ S' H' g (.bl _))⟩
  · rename_i s1 e
    refine h.use r e fun v S' H' g d => ?_
    cases d
    exact ⟨false, rfl, iteF (k S' H' s1 σ Q g.rep (qe_go g q))⟩
  · exact q.elim
theorem se_notV (h : SE K ta fa) : SE K (tNotV ta) (fNotV fa) := by
  intro S H s σ Q r q
  unfold fNotV at q
  split at q
  · rename_i b s1 e
    refine h.use r e fun v S' H' g d => ?_
    cases d
    exact ⟨b, rfl, q _ S' H' g (.bl _)⟩
  · exact q.elim
theorem se_if (h : ST K tA fA) (k1 : SE K ta fa) (k2 : SE K tb fb) : SE K (tIf tA ta tb) (fIf fA fa fb) := by
  intro S H s σ Q r q
  unfold fIf at q
  split at q
  · rename_i s1 e
    refine h.use r e fun S' H' g => ?_
    exact iteT (k1 S' H' s1 σ Q g.rep (qe_go g q))
  · rename_i s1 e
    refine h.use r e fun S' H' g => ?_
    exact iteF (k2 S' H' s1 σ Q g.rep (qe_go g q))
  · exact q.elim
variable {a b c e : Expr} {rest : List Expr} {pos : Pos} {tU tW : TT} {fU fW : FT}
theorem pdt_val (h : PD X a ta fa) (he : ∀ whole, isTrue a X.env whole = (do let v ← whole; standAt a.pos; holding [v] (truthy v)) := by intro _; rfl) : PDt X a (tB ta) (fB fa) := ⟨pt_val h.pe he, st_B h.ok⟩
theorem pdt_cmp {op : CmpOp} (ho : OpR X (compareOp op) r) (hs : OpS X.K r g) (ha : PD X a ta fa) (hb : PD X b tb fb) (hm : behindInMarks op b = false) : PDt X (.Compare a [op] [b] pos) (tTest (tOp r ta tb)) (fB (fOp g fa fb)) := ⟨pt_cmpR ho ha.pe hb.pe hm, st_test (se_op ha.ok hb.ok hs)⟩
theorem pdt_not (h : PDt X a tU fU) : PDt X (.UnaryOp .Not a pos) (tNot tU) (fNot fU) := ⟨pt_not h.pe, st_not h.ok⟩
theorem pdw_and1 (h : PDt X a tU fU) : PDw X (.BoolOp .And [a] pos) tU fU := ⟨pw_and1 h.pe, h.ok⟩
theorem pdw_or1 (h : PDt X a tU fU) : PDw X (.BoolOp .Or [a] pos) tU fU := ⟨pw_or1 h.pe, h.ok⟩
theorem pdw_and (h : PDt X a tU fU) (k : PDw X (.BoolOp .And (b :: rest) pos) tW fW) : PDw X (.BoolOp .And (a :: b :: rest) pos) (tAnd tU tW) (fAnd fU fW) := ⟨pw_and h.pe k.pe, st_and h.ok k.ok⟩
theorem pdw_or (h : PDt X a tU fU) (k : PDw X (.BoolOp .Or (b :: rest) pos) tW fW) : PDw X (.BoolOp .Or (a :: b :: rest) pos) (tOr tU tW) (fOr fU fW) := ⟨pw_or h.pe k.pe, st_or h.ok k.ok⟩
theorem pdt_w (h : PDw X e tU fU) : PDt X e tU fU := ⟨h.pe.pt, h.ok⟩
theorem pd_one {op} (h : PD X a ta fa) : PD X (.BoolOp op [a] pos) ta fa := ⟨pe_one h.pe, h.ok⟩
theorem pd_and (h : PD X a ta fa) (k : PD X (.BoolOp .And (b :: rest) pos) tb fb) : PD X (.BoolOp .And (a :: b :: rest) pos) (tAndV ta tb) (fAndV fa fb) := ⟨pe_and h.pe k.pe, se_andV h.ok k.ok⟩
theorem pd_or (h : PD X a ta fa) (k : PD X (.BoolOp .Or (b :: rest) pos) tb fb) : PD X (.BoolOp .Or (a :: b :: rest) pos) (tOrV ta tb) (fOrV fa fb) := ⟨pe_or h.pe k.pe, se_orV h.ok k.ok⟩
theorem pd_not (h : PD X a ta fa) : PD X (.UnaryOp .Not a pos) (tNotV ta) (fNotV fa) := ⟨pe_not h.pe, se_notV h.ok⟩
theorem pd_if (h : PDt X c tU fU) (ha : PD X a ta fa) (hb : PD X b tb fb) : PD X (.IfExp c a b pos) (tIf tU ta tb) (fIf fU fa fb) := ⟨pe_ifExp h.pe ha.pe hb.pe, se_if h.ok ha.ok hb.ok⟩
/-- a < b < c -/
def fChain (g g' : D → D → Option D) (fa fb fc : FE) : FE := fun s => match fa s with
  | none => none
  | some (a, s1) => match fb s1 with
    | none => none
    | some (b, s2) => match g a b with
      | some (.bl true) => match fc s2 with
        | none => none
        | some (c, s3) => match g' b c with
          | none => none
          | some z => some (z, s3)
      | some (.bl false) => some (.bl false, s2)
      | _ => none
theorem se_chain (ha : SE K ta fa) (hb : SE K tb fb) (hc : SE K tc fc) (hr : OpS K r g) (hr' : OpS K r' g') : SE K (tChain r r' ta tb tc) (fChain g g' fa fb fc) := by
  intro S H s σ Q r0 h
  unfold fChain at h
  cases e : fa s with
  | none => rw [e] at h; exact h.elim
  | some x =>
    obtain ⟨a, s1⟩ := x
    rw [e] at h
    refine ha.use r0 e fun x S1 H1 g1 d1 => ?_
    simp only at h
    cases e2 : fb s1 with
    | none => rw [e2] at h; exact h.elim
    | some y =>
      obtain ⟨b, s2⟩ := y
      rw [e2] at h
      simp only at h
      refine hb.use g1.rep e2 fun y S2 H2 g2 d2 => ?_
      have g12 := g1.trans g2
      split at h
      · rename_i e3
        refine hr S2 H2 x y a b _ _ g2.rep.sub (d1.mono g2.ext) d2 e3 fun v S3 H3 al dv => ?_
        cases dv
        refine ⟨true, rfl, iteT ?_⟩
        have g3 := g12.trans (al.go g2.rep)
        cases e4 : fc s2 with
        | none => rw [e4] at h; exact h.elim
        | some w =>
          obtain ⟨c, s3⟩ := w
          rw [e4] at h
          simp only at h
          refine hc.use g3.rep e4 fun w S4 H4 g4 d4 => ?_
          cases e5 : g' b c with
          | none => rw [e5] at h; exact h.elim
          | some z =>
            rw [e5] at h
            exact hr' S4 H4 y w b c z Q g4.rep.sub ((d2.mono al.ext).mono g4.ext) d4 e5 fun v S' H' al q => h v S' H' ((g3.trans g4).trans (al.go g4.rep)) q
      · rename_i e3
        refine hr S2 H2 x y a b _ _ g2.rep.sub (d1.mono g2.ext) d2 e3 fun v S3 H3 al dv => ?_
        cases dv
        exact ⟨false, rfl, iteF (h _ _ _ (g12.trans (al.go g2.rep)) (.bl _))⟩
      · exact h.elim
theorem pd_chain {op op' : CmpOp} (ho : OpR X (compareOp op) r) (hs : OpS X.K r g) (ho' : OpR X (compareOp op') r') (hs' : OpS X.K r' g') (ha : PD X a ta fa) (hb : PD X b tb fb) (hc : PD X c tc fc)
    (hm : lastMarks [op, op'] [b, c] = false := by with_unfolding_all rfl) : PD X (.Compare a [op, op'] [b, c] pos) (tChain r r' ta tb tc) (fChain g g' fa fb fc) := ⟨pe_chain ho ho' ha.pe hb.pe hc.pe hm, se_chain ha.ok hb.ok hc.ok hs hs'⟩
theorem pdt_chain {op op' : CmpOp} (ho : OpR X (compareOp op) r) (hs : OpS X.K r g) (ho' : OpR X (compareOp op') r') (hs' : OpS X.K r' g') (ha : PD X a ta fa) (hb : PD X b tb fb) (hc : PD X c tc fc)
    (hm : lastMarks [op, op'] [b, c] = false := by with_unfolding_all rfl) : PDt X (.Compare a [op, op'] [b, c] pos) (tTest (tChain r r' ta tb tc)) (fB (fChain g g' fa fb fc)) := ⟨pt_chain ho ho' ha.pe hb.pe hc.pe hm, st_test (se_chain ha.ok hb.ok hc.ok hs hs')⟩

/-! ### argument lists, displays -/
def fNil : FA := fun s => some ([], s)
def fCons (f : FE) (g : FA) : FA := fun s => match f s with
  | none => none
  | some (d, s1) => match g s1 with
    | none => none
    | some (ds, s2) => some (d :: ds, s2)
variable {es : List Expr} {tr : TA} {fr : FA}
theorem sa_nil : SA K tNil fNil := fun S H s σ Q r h => h [] S H (Go.refl r) .nil
theorem sa_cons (h : SE K te fa) (k : SA K tr fr) : SA K (tCons te tr) (fCons fa fr) := by
  intro S H s σ Q r q
  unfold fCons at q
  cases e : fa s with
  | none => rw [e] at q; exact q.elim
  | some x =>
    obtain ⟨d, s1⟩ := x
    rw [e] at q
    simp only at q
    refine h.use r e fun v S1 H1 g1 d1 => ?_
    cases e2 : fr s1 with
    | none => rw [e2] at q; exact q.elim
    | some y =>
      obtain ⟨ds, s2⟩ := y
      rw [e2] at q
      exact k.use g1.rep e2 fun vs S2 H2 g2 d2 => q _ S2 H2 (g1.trans g2) (.cons (d1.mono g2.ext) d2)
theorem pda_nil : PDa X [] tNil fNil := ⟨pa_nil, sa_nil⟩
theorem pda_cons (h : PD X e te fa) (k : PDa X es tr fr) (hs : starEach (e :: es) X.env = (false, eval e X.env) :: starEach es X.env := by rfl) : PDa X (e :: es) (tCons te tr) (fCons fa fr) := ⟨pa_cons h.pe k.pe hs, sa_cons h.ok k.ok⟩
def fTup (f : FA) : FE := fun s => match f s with
  | none => none
  | some (ds, s1) => if ds.length ≤ 100000 then some (.tup ds, s1) else none
def fLst (f : FA) : FE := fun s => match f s with
  | none => none
  | some (ds, s1) => if ds.length ≤ 100000 then some (.lst ds, s1) else none
theorem sz_of {n : Nat} (h : n ≤ 100000) : n ≤ sizeLine := Nat.le_trans h (by decide)
theorem sz_lt {n : Nat} (h : n < 100000) : n < sizeLine := Nat.lt_of_lt_of_le h (by decide)
theorem se_tup (h : SA K tr fr) : SE K (tTup tr) (fTup fr) := by
  intro S H s σ Q r q
  unfold fTup at q
  cases e : fr s with
  | none => rw [e] at q; exact q.elim
  | some x =>
    obtain ⟨ds, s1⟩ := x
    rw [e] at q
    simp only at q
    split at q
    · rename_i c
      refine h.use r e fun vs S1 H1 g d => ⟨sz_of (by rw [d.length]; exact c), fun p hp => ?_⟩
      have al := Al.new (o := HO.tup vs) g.rep.sub hp
      exact q _ _ _ (g.trans (al.go g.rep)) (.tup (.inl (.inl upd_same)) (d.mono al.ext))
    · exact q.elim
theorem se_lst (h : SA K tr fr) : SE K (tLst tr) (fLst fr) := by
  intro S H s σ Q r q
  unfold fLst at q
  cases e : fr s with
  | none => rw [e] at q; exact q.elim
  | some x =>
    obtain ⟨ds, s1⟩ := x
    rw [e] at q
    simp only at q
    split at q
    · rename_i c
      refine h.use r e fun vs S1 H1 g d => ⟨sz_of (by rw [d.length]; exact c), fun p hp => ?_⟩
      have al := Al.new (o := HO.lst vs) g.rep.sub hp
      exact q _ _ _ (g.trans (al.go g.rep)) (.lst upd_same (d.mono al.ext))
    · exact q.elim
theorem pd_tup {x1} (h : PDa X es tr fr) : PD X (.Tuple es x1 pos) (tTup tr) (fTup fr) := ⟨pe_tup h.pe, se_tup h.ok⟩
theorem pd_lst (h : PDa X es tr fr) : PD X (.List es pos) (tLst tr) (fLst fr) := ⟨pe_lst h.pe, se_lst h.ok⟩

/-! ### calls of built-ins -/
def CallS (K : PySem.W.Frag) (r : List V → Hp → VK → Prop) (g : List D → Option D) : Prop := ∀ S H vs ds z Q, Same S H → DtA K S vs ds → g ds = some z → (∀ v S' H', Al S H S' H' → Dt K S' v z → Q v H') → r vs H Q
def fCB (g : List D → Option D) (f : FA) : FE := fun s => match f s with
  | none => none
  | some (ds, s1) => match g ds with
    | none => none
    | some z => some (z, s1)
theorem se_cb {r : List V → Hp → VK → Prop} {g : List D → Option D} (h : SA K tr fr) (hr : CallS K r g) : SE K (tCB r tr) (fCB g fr) := by
  intro S H s σ Q r0 q
  unfold fCB at q
  cases e : fr s with
  | none => rw [e] at q; exact q.elim
  | some x =>
    obtain ⟨ds, s1⟩ := x
    rw [e] at q
    simp only at q
    refine h.use r0 e fun vs S1 H1 g1 d => ?_
    cases e2 : g ds with
    | none => rw [e2] at q; exact q.elim
    | some z =>
      rw [e2] at q
      exact hr S1 H1 vs ds z Q g1.rep.sub d e2 fun v S' H' al dv => q v S' H' (g1.trans (al.go g1.rep)) dv
theorem pd_callB {r : List V → Hp → VK → Prop} {g : List D → Option D} {id : String} {x : Str} {p : Pos} (hc : CallR X (.builtin id) r) (hs : CallS X.K r g) (hg : Gl X x) (hm : X.mg x = none) (hv : bootBuiltins x = some (.builtin id)) (ha : PDa X (e :: es) tr fr) (hn : x ≠ "__name__" := by decide) (hdb : (x == ("__debug__" : Str)) = false := by decide)
    (he : starEach (e :: es) X.env = (false, eval e X.env) :: starEach es X.env := by rfl) (hpl : (backTo pos (starEach es X.env)).any (·.1) = false := by rfl) : PD X (.Call (.Name x p) (e :: es) [] pos) (tCB r tr) (fCB g fr) := ⟨pe_callB hc hg hm hv ha.pe hn hdb he hpl, se_cb ha.ok hs⟩
theorem pd_callTy {r : List V → Hp → VK → Prop} {g : List D → Option D} {T : String} {x : Str} {p : Pos} (hc : CallR X (.type T) r) (hs : CallS X.K r g) (hg : Gl X x) (hm : X.mg x = none) (hv : bootBuiltins x = some (.type T)) (ha : PDa X (e :: es) tr fr) (hn : x ≠ "__name__" := by decide) (hdb : (x == ("__debug__" : Str)) = false := by decide)
    (he : starEach (e :: es) X.env = (false, eval e X.env) :: starEach es X.env := by rfl) (hpl : (backTo pos (starEach es X.env)).any (·.1) = false := by rfl) : PD X (.Call (.Name x p) (e :: es) [] pos) (tCB r tr) (fCB g fr) := ⟨pe_callTy hc hg hm hv ha.pe hn hdb he hpl, se_cb ha.ok hs⟩
theorem pd_callBf {r : List V → Hp → VK → Prop} {g : List D → Option D} {id : String} {x : Str} {p : Pos} (hc : CallR X (.builtin id) r) (hs : CallS X.K r g) (hg : Gl X x) (hm : X.mg x = some (.builtin id)) (ha : PDa X (e :: es) tr fr) (hdb : (x == ("__debug__" : Str)) = false := by decide)
    (he : starEach (e :: es) X.env = (false, eval e X.env) :: starEach es X.env := by rfl) (hpl : (backTo pos (starEach es X.env)).any (·.1) = false := by rfl) : PD X (.Call (.Name x p) (e :: es) [] pos) (tCB r tr) (fCB g fr) := ⟨pe_callBfun hc hg hm ha.pe hdb he hpl, se_cb ha.ok hs⟩
end
end DL
namespace DL
open PySem PySem.Spec PyProof.Rows L2

/-! ### statements -/
inductive Fl where
  | nx
  | rt (d : D)
  /-- returned: a new list, its items -/
  | rn (ds : List D)
  | bk
  | ct
abbrev FS := Sd → Option (Fl × Sd)
def QS (K : PySem.W.Frag) (r : Option (Fl × Sd)) (S H : Hp) (s : Sd) (σ : L2.St) (N : Ends) : Prop := match r with
  | some (.nx, s') => ∀ S' H' σ', Go K S H s σ S' H' s' σ' → N.nx σ' H'
  | some (.rt d, s') => ∀ v S' H' σ', Go K S H s σ S' H' s' σ' → Dt K S' v d → N.rt v H'
  | some (.rn ds, s') => ∀ p vs S' H' σ', Go K S H s σ S' H' s' σ' → H p = none → H' p = some (.lst vs) → S' p = none → ¬ Own s' σ' p → DtA K S' vs ds → N.rt (.ref p) H'
  | some (.bk, s') => ∀ S' H' σ', Go K S H s σ S' H' s' σ' → N.bk σ' H'
  | some (.ct, s') => ∀ S' H' σ', Go K S H s σ S' H' s' σ' → N.ct σ' H'
  | none => False
def SS (K : PySem.W.Frag) (t : TS) (f : FS) : Prop := ∀ S H s σ N, Rep K S H s σ → QS K (f s) S H s σ N → t N σ H
structure PDs (X : Cx) (st : Stmt) (t : TS) (f : FS) : Prop where
  ps : PS X st t
  ok : SS X.K t f
structure PDss (X : Cx) (st : List Stmt) (t : TS) (f : FS) : Prop where
  ps : PSs X st t
  ok : SS X.K t f
def SG (K : PySem.W.Frag) (g : TG) (f : D → Sd → Option Sd) : Prop := ∀ S H s σ v d Q, Rep K S H s σ → Dt K S v d → (match f d s with
  | some s1 => ∀ S' H' σ', Go K S H s σ S' H' s1 σ' → Q σ' H'
  | none => False) → g v σ H Q
def SGs (K : PySem.W.Frag) (g : TGs) (f : List D → Sd → Option Sd) : Prop := ∀ S H s σ vs ds Q, Rep K S H s σ → DtA K S vs ds → (match f ds s with
  | some s1 => ∀ S' H' σ', Go K S H s σ S' H' s1 σ' → Q σ' H'
  | none => False) → g vs σ H Q
section
variable {X : Cx} {K : PySem.W.Frag} {S H S1 H1 : Hp} {s s1 : Sd} {σ σ1 : L2.St} {t u tb : TS} {f g fb : FS} {te : TE} {fe : FE} {tc : TT} {fc : FT} {N : Ends}
theorem qs_go {r : Option (Fl × Sd)} (g : Go K S H s σ S1 H1 s1 σ1) (h : QS K r S H s σ N) : QS K r S1 H1 s1 σ1 N := by
  cases r with
  | none => exact h
  | some x =>
    obtain ⟨fl, s2⟩ := x
    cases fl with
    | nx => exact fun S' H' σ' g' => h S' H' σ' (g.trans g')
    | rt d => exact fun v S' H' σ' g' q => h v S' H' σ' (g.trans g') q
    | rn ds => exact fun p vs S' H' σ' g' e0 e1 e2 e3 q => h p vs S' H' σ' (g.trans g') (g.live p e0) e1 e2 e3 q
    | bk => exact fun S' H' σ' g' => h S' H' σ' (g.trans g')
    | ct => exact fun S' H' σ' g' => h S' H' σ' (g.trans g')
def fNx : FS := fun s => some (.nx, s)
def fSeq (f g : FS) : FS := fun s => match f s with
  | some (.nx, s1) => g s1
  | r => r
theorem ss_next : SS K tNext fNx := fun S H s σ N r h => h S H σ (Go.refl r)
theorem ss_seq (h : SS K t f) (k : SS K u g) : SS K (tSeq t u) (fSeq f g) := by
  intro S H s σ N r q
  refine h S H s σ _ r ?_
  unfold fSeq at q
  cases e : f s with
  | none => rw [e] at q; exact q.elim
  | some x =>
    obtain ⟨fl, s1⟩ := x
    rw [e] at q
    cases fl with
    | nx => exact fun S' H' σ' g' => k S' H' s1 σ' N g'.rep (qs_go g' q)
    | rt d => exact q
    | rn ds => exact q
    | bk => exact q
    | ct => exact q
theorem dss_nil : PDss X [] tNext fNx := ⟨pss_nil, ss_next⟩
theorem dss_cons {st : Stmt} {rest : List Stmt} (h : PDs X st t f) (k : PDss X rest u g) : PDss X (st :: rest) (tSeq t u) (fSeq f g) := ⟨pss_cons h.ps k.ps, ss_seq h.ok k.ok⟩
theorem dss_one {st : Stmt} (h : PDs X st t f) : PDss X [st] t f := ⟨pss_one h.ps, h.ok⟩
theorem ds_pass {pos} : PDs X (.Pass pos) tNext fNx := ⟨ps_pass, ss_next⟩
theorem ds_break {pos} : PDs X (.Break pos) tBreak (fun s => some (.bk, s)) := ⟨ps_break, fun S H s σ N r h => h S H σ (Go.refl r)⟩
theorem ds_cont {pos} : PDs X (.Continue pos) tCont (fun s => some (.ct, s)) := ⟨ps_continue, fun S H s σ N r h => h S H σ (Go.refl r)⟩
/-- a statement that is never reached -/
theorem ds_never {st : Stmt} : PDs X st tNever (fun _ => none) := ⟨ps_never, fun _ _ _ _ _ _ h => h⟩
def fRet (f : FE) : FS := fun s => match f s with
  | some (d, s1) => some (.rt d, s1)
  | none => none
theorem ss_ret (h : SE K te fe) : SS K (tRet te) (fRet fe) := by
  intro S H s σ N r q
  unfold fRet at q
  cases e : fe s with
  | none => rw [e] at q; exact q.elim
  | some x =>
    obtain ⟨d, s1⟩ := x
    rw [e] at q
    exact h.use r e fun v S' H' g dv => q v S' H' σ g dv
theorem ds_ret {e : Expr} {pos} (h : PD X e te fe) : PDs X (.Return (some e) pos) (tRet te) (fRet fe) := ⟨ps_ret h.pe, ss_ret h.ok⟩
/-- return [..] -/
def fRetN (f : FA) : FS := fun s => match f s with
  | some (ds, s1) => if ds.length ≤ 100000 then some (.rn ds, s1) else none
  | none => none
theorem ss_retN {tr : TA} {fr : FA} (h : SA K tr fr) : SS K (tRet (tLst tr)) (fRetN fr) := by
  intro S H s σ N r q
  unfold fRetN at q
  cases e : fr s with
  | none => rw [e] at q; exact q.elim
  | some x =>
    obtain ⟨ds, s1⟩ := x
    rw [e] at q
    simp only at q
    by_cases c : ds.length ≤ 100000
    · rw [if_pos c] at q
      refine h.use r e fun vs S1 H1 g d => ⟨sz_of (by rw [d.length]; exact c), fun p hp => ?_⟩
      have hS : S1 p = none := g.rep.sub.free hp
      have hO : ¬ Own s1 σ p := by
        rintro ⟨i, p', es, h1, h2⟩
        obtain ⟨b, ws, e1, e2, _⟩ := g.rep.ow i p' es h1
        rw [h2] at e1
        injection e1 with e1; injection e1 with e1; injection e1 with e1
        subst e1
        rw [hp] at e2; cases e2
      refine q p vs S1 (upd H1 p (.lst vs)) σ ⟨⟨fun b u e => ?_, g.rep.len, g.rep.tr, fun i p' es e => ?_, g.rep.ne⟩, g.ext, fun b o e n => ?_, g.own, fun b e => ?_, g.grow, g.stay, g.lens⟩ (g.live p hp) upd_same hS hO d
      · have : b ≠ p := fun z => by subst z; rw [hS] at e; cases e
        rw [upd_ne this]; exact g.rep.sub b u e
      · obtain ⟨b, ws, e1, e2, e3, e4⟩ := g.rep.ow i p' es e
        have : b ≠ p := fun z => by subst z; rw [hp] at e2; cases e2
        exact ⟨b, ws, e1, by rw [upd_ne this]; exact e2, e3, e4⟩
      · have : b ≠ p := fun z => by subst z; rw [g.live b hp] at e; cases e
        rw [upd_ne this]; exact g.keep b o e n
      · by_cases z : b = p
        · subst z; exact g.live b hp
        · rw [upd_ne z] at e; exact g.live b e
    · rw [if_neg c] at q; exact q.elim
theorem ds_retN {es : List Expr} {tr : TA} {fr : FA} {pos pos'} (h : PDa X es tr fr) : PDs X (.Return (some (.List es pos')) pos) (tRet (tLst tr)) (fRetN fr) := ⟨ps_ret (pe_lst h.pe), ss_retN h.ok⟩
def fDrop (f : FE) : FS := fun s => match f s with
  | some (_, s1) => some (.nx, s1)
  | none => none
theorem ss_drop (h : SE K te fe) : SS K (tDrop te) (fDrop fe) := by
  intro S H s σ N r q
  unfold fDrop at q
  cases e : fe s with
  | none => rw [e] at q; exact q.elim
  | some x =>
    obtain ⟨d, s1⟩ := x
    rw [e] at q
    exact h.use r e fun v S' H' g dv => q S' H' σ g
theorem ds_expr {e : Expr} {pos} (h : PD X e te fe) (hs : swapsWith e none pos.line X.env = pure false := by rfl) : PDs X (.Expr e pos) (tDrop te) (fDrop fe) := ⟨ps_expr h.pe hs, ss_drop h.ok⟩
def fIfS (c : FT) (f g : FS) : FS := fun s => match c s with
  | some (true, s1) => f s1
  | some (false, s1) => g s1
  | none => none
theorem ss_if (h : ST K tc fc) (k1 : SS K t f) (k2 : SS K u g) : SS K (tIfS tc t u) (fIfS fc f g) := by
  intro S H s σ N r q
  unfold fIfS at q
  split at q
  · rename_i s1 e
    exact h.use r e fun S' H' g' => iteT (k1 S' H' s1 σ N g'.rep (qs_go g' q))
  · rename_i s1 e
    exact h.use r e fun S' H' g' => iteF (k2 S' H' s1 σ N g'.rep (qs_go g' q))
  · exact q.elim
theorem ds_if {c : Expr} {a b : List Stmt} {pos} (hc : PDt X c tc fc) (ha : PDss X a t f) (hb : PDss X b u g) : PDs X (.If c a b pos) (tIfS tc t u) (fIfS fc f g) := ⟨ps_if hc.pe ha.ps hb.ps, ss_if hc.ok ha.ok hb.ok⟩

/-! ### targets -/
def fgN (i : Nat) : D → Sd → Option Sd := fun d s => if i < s.length then (match s[i]? with
  | some (.ow true _) => none
  | _ => some (s.set i (.tr d))) else none
def fgs0 : List D → Sd → Option Sd
  | [], s => some s
  | _, _ => none
def fgsC (f : D → Sd → Option Sd) (g : List D → Sd → Option Sd) : List D → Sd → Option Sd
  | d :: ds, s => match f d s with
    | some s1 => g ds s1
    | none => none
  | _, _ => none
def fgT (n : Nat) (g : List D → Sd → Option Sd) : D → Sd → Option Sd
  | .tup ds, s => if ds.length = n then g ds s else none
  | _, _ => none
theorem sg_name {i : Nat} : SG K (gName i) (fgN i) := by
  intro S H s σ v d Q r q h
  unfold fgN at h
  by_cases hi : i < s.length
  · rw [if_pos hi] at h
    have go : ∀ (hn : ∀ ds, s[i]? ≠ some (.ow true ds)), (∀ S' H' σ', Go K S H s σ S' H' (s.set i (.tr d)) σ' → Q σ' H') → gName i v σ H Q := fun hn h => h _ _ _ (r.set hi hn q)
    cases e : s[i]? with
    | none =>
      rw [e] at h go
      exact go (fun ds z => nomatch z) h
    | some x =>
      rw [e] at h go
      cases x with
      | no => exact go (fun ds z => by cases z) h
      | tr d => exact go (fun ds z => by cases z) h
      | ow p ds =>
        cases p with
        | true => exact h.elim
        | false => exact go (fun ds z => by cases z) h
  · rw [if_neg hi] at h; exact h.elim
theorem sgs_nil : SGs K gNil fgs0 := by
  intro S H s σ vs ds Q r q h
  cases q with
  | nil => exact ⟨rfl, h _ _ _ (Go.refl r)⟩
  | cons _ _ => exact h.elim
theorem sgs_cons {g1 : TG} {g2 : TGs} {f1 : D → Sd → Option Sd} {f2 : List D → Sd → Option Sd} (h1 : SG K g1 f1) (h2 : SGs K g2 f2) : SGs K (gCons g1 g2) (fgsC f1 f2) := by
  intro S H s σ vs ds Q r q h
  cases q with
  | nil => exact h.elim
  | cons qa qb =>
    rename_i v vs d ds
    refine ⟨v, vs, rfl, h1 S H s σ v d _ r qa ?_⟩
    simp only [fgsC] at h
    cases e : f1 d s with
    | none => rw [e] at h; exact h.elim
    | some s1 =>
      rw [e] at h
      intro S' H' σ' g'
      refine h2 S' H' s1 σ' vs ds Q g'.rep (qb.mono g'.ext) ?_
      cases e2 : f2 ds s1 with
      | none => simp only [e2] at h
      | some s2 =>
        simp only [e2] at h
        exact fun S'' H'' σ'' g'' => h _ _ _ (g'.trans g'')
theorem sg_tup {n : Nat} {g : TGs} {f : List D → Sd → Option Sd} (h1 : SGs K g f) : SG K (gTup K n g) (fgT n f) := by
  intro S H s σ v d Q r q h
  unfold fgT at h
  cases q with
  | tup ha da =>
    rename_i a xs ds
    simp only at h
    by_cases hn : ds.length = n
    · rw [if_pos hn] at h
      exact ⟨a, xs, rfl, same_t r.sub ha, by rw [da.length]; exact hn, h1 S H s σ xs ds Q r da h⟩
    · rw [if_neg hn] at h; exact h.elim
  | _ => exact h.elim
structure PDg (X : Cx) (e : Expr) (t : TG) (f : D → Sd → Option Sd) : Prop where
  pg : PG X e t
  ok : SG X.K t f
structure PDgs (X : Cx) (e : List Expr) (t : TGs) (f : List D → Sd → Option Sd) : Prop where
  pg : PGs X e t
  ok : SGs X.K t f
theorem dg_name (i : Nat) {x : Str} {pos} (hN : X.N.Nodup) (hi : X.N[i]? = some x) (hx : Loc X.env.scope x) (hf : X.fn x = true ∨ X.env.scope.names.lookup x = some .local := by first | exact .inl rfl | exact .inr rfl | assumption) : PDg X (.Name x pos) (gName i) (fgN i) := ⟨pg_name hN hi hx hf, sg_name⟩
theorem dgs_nil : PDgs X [] gNil fgs0 := ⟨pgs_nil, sgs_nil⟩
theorem dgs_cons {e : Expr} {es : List Expr} {g1 : TG} {g2 : TGs} {f1 : D → Sd → Option Sd} {f2 : List D → Sd → Option Sd} (h1 : PDg X e g1 f1) (h2 : PDgs X es g2 f2)
    (hs : (assignEach (e :: es) X.env).map (·.2) = assign e X.env :: (assignEach es X.env).map (·.2) := by rfl) : PDgs X (e :: es) (gCons g1 g2) (fgsC f1 f2) := ⟨pgs_cons h1.pg h2.pg hs, sgs_cons h1.ok h2.ok⟩
theorem dg_tup {es : List Expr} {k : Nat} {pos} {g : TGs} {f : List D → Sd → Option Sd} {n : Nat} (hc : X.calm = true) (h : PDgs X es g f)
    (hn : (assignEach es X.env).length = n := by rfl) (hst : (assignEach es X.env).findIdx? (·.1) = none := by rfl) : PDg X (.Tuple es k pos) (gTup X.K n g) (fgT n f) := ⟨pg_tup hc h.pg hn hst, sg_tup h.ok⟩
def fAsg (f : FE) (fg : D → Sd → Option Sd) : FS := fun s => match f s with
  | none => none
  | some (d, s1) => match fg d s1 with
    | none => none
    | some s2 => some (.nx, s2)
theorem ss_asg {g : TG} {fg : D → Sd → Option Sd} (h : SE K te fe) (k : SG K g fg) : SS K (tAsg te g) (fAsg fe fg) := by
  intro S H s σ N r q
  unfold fAsg at q
  cases e : fe s with
  | none => rw [e] at q; exact q.elim
  | some x =>
    obtain ⟨d, s1⟩ := x
    rw [e] at q
    simp only at q
    refine h.use r e fun v S' H' g' dv => k S' H' s1 σ v d _ g'.rep dv ?_
    cases e2 : fg d s1 with
    | none => rw [e2] at q; exact q.elim
    | some s2 =>
      rw [e2] at q
      exact fun S'' H'' σ'' g'' => q _ _ _ (g'.trans g'')
theorem ds_set (i : Nat) {x : Str} {e : Expr} {pos pos' : Pos} (hN : X.N.Nodup) (hi : X.N[i]? = some x) (hx : Loc X.env.scope x) (he : PD X e te fe) (hs : swapsWith e (some (.Name x pos')) pos.line X.env = pure false := by rfl) (hf : X.fn x = true ∨ X.env.scope.names.lookup x = some .local := by first | exact .inl rfl | exact .inr rfl | assumption) :
    PDs X (.Assign [.Name x pos'] e pos) (tAsg te (gName i)) (fAsg fe (fgN i)) := ⟨ps_set hN hi hx he.pe hs hf, ss_asg he.ok sg_name⟩
theorem ds_asg {tg e : Expr} {pos : Pos} {g : TG} {fg : D → Sd → Option Sd} (he : PD X e te fe) (hg : PDg X tg g fg) (hs : swapsWithSole [tg] e pos.line X.env = pure false := by rfl) (hw : swappedStores [tg] e X.env = pure none := by rfl)
    (h1 : (assignEach [tg] X.env).map (·.2) = [assign tg X.env] := by rfl) : PDs X (.Assign [tg] e pos) (tAsg te g) (fAsg fe fg) := ⟨ps_asg he.pe hg.pg hs hw h1, ss_asg he.ok hg.ok⟩
/-- a, b = e1, e2 -/
def fPar (i j : Nat) (f : FA) : FS := fun s => match f s with
  | some ([d1, d2], s1) => match fgN i d1 s1 with
    | none => none
    | some s2 => match fgN j d2 s2 with
      | none => none
      | some s3 => some (.nx, s3)
  | _ => none
theorem ss_par {i j : Nat} {ta : TA} {fa : FA} (h : SA K ta fa) : SS K (tPar i j ta) (fPar i j fa) := by
  intro S H s σ N r q
  unfold fPar at q
  split at q
  · rename_i d1 d2 s1 e
    refine h.use r e fun vs S' H' g' dv => ?_
    cases dv with
    | cons q1 dv =>
      cases dv with
      | cons q2 dv =>
        cases dv
        rename_i v w
        refine ⟨v, w, rfl, ?_⟩
        cases e1 : fgN i d1 s1 with
        | none => rw [e1] at q; exact q.elim
        | some s2 =>
          rw [e1] at q
          simp only at q
          have z := sg_name (K := K) (i := i) S' H' s1 σ v d1 (fun σ2 H2 => N.nx (σ2.set j (some w)) H2) g'.rep q1
          rw [e1] at z
          refine z fun S2 H2 σ2 g2 => ?_
          have y := sg_name (K := K) (i := j) S2 H2 s2 σ2 w d2 (fun σ3 H3 => N.nx σ3 H3) g2.rep (q2.mono g2.ext)
          cases e2 : fgN j d2 s2 with
          | none => rw [e2] at q; exact q.elim
          | some s3 =>
            rw [e2] at q y
            exact y fun S3 H3 σ3 g3 => q _ _ _ ((g'.trans g2).trans g3)
  · exact q.elim
theorem ds_par (i j : Nat) {x y : Str} {a b : Expr} {ta : TA} {fa : FA} {px py pt pos : Pos} {kt k2 pt2} (hc : X.calm = true) (hN : X.N.Nodup) (hi : X.N[i]? = some x) (hj : X.N[j]? = some y) (hij : i ≠ j)
    (hx : X.env.scope.names.lookup x = some .local) (hy : X.env.scope.names.lookup y = some .local) (ha : PDa X [a, b] ta fa)
    (hw : swappedStores [.Tuple [.Name x px, .Name y py] kt pt] (.Tuple [a, b] k2 pt2) X.env = pure (some [x, y]))
    (hs : swapsWithSole [.Tuple [.Name x px, .Name y py] kt pt] (.Tuple [a, b] k2 pt2) pos.line X.env = pure false := by rfl) :
    PDs X (.Assign [.Tuple [.Name x px, .Name y py] kt pt] (.Tuple [a, b] k2 pt2) pos) (tPar i j ta) (fPar i j fa) := ⟨ps_par hc hN hi hj hij hx hy ha.pe hw hs, ss_par ha.ok⟩
/-- own[k] = e -/
def fSetO (i : Nat) (fk f : FE) : FS := fun s => match f s with
  | none => none
  | some (d, s1) => match s1[i]? with
    | some (.ow _ (.l _)) => match fk s1 with
      | some (.int k, s2) => match s2[i]? with
        | some (.ow p (.l ds)) => match ixN ds.length k with
          | some j => some (.nx, s2.set i (.ow p (.l (ds.set j d))))
          | none => none
        | _ => none
      | _ => none
    | _ => none
theorem ref_inj {σ : L2.St} {i : Nat} {a b : Addr} (h : σ[i]? = some (some (.ref a))) (k : σ[i]? = some (some (.ref b))) : a = b := by
  rw [h] at k
  injection k with k
  injection k with k
  injection k with k
theorem ss_setO {i : Nat} {tk : TE} {fk : FE} (h : SE K te fe) (hk : SE K tk fk) : SS K (tAsg te (L2.gSub (tVar i) tk rSetL)) (fSetO i fk fe) := by
  intro S H s σ N r q
  unfold fSetO at q
  cases e : fe s with
  | none => rw [e] at q; exact q.elim
  | some x =>
    obtain ⟨d, s1⟩ := x
    rw [e] at q
    simp only at q
    refine h.use r e fun v S1 H1 g1 dv => ?_
    split at q
    · rename_i p0 ds0 e0
      obtain ⟨a0, vs0, h1, h2, h3, h4⟩ := g1.rep.ol i _ _ e0
      split at q
      · rename_i k s2 e2
        split at q
        · rename_i p ds e3
          split at q
          · rename_i j e4
            refine ⟨_, h1, hk.use g1.rep e2 fun w S2 H2 g2 dk => ?_⟩
            cases dk
            obtain ⟨a, vs, k1, k2, k3, k4⟩ := g2.rep.ol i p ds e3
            cases ref_inj k1 h1
            refine ⟨_, vs, k, j, rfl, rfl, k2, by rw [k4.length]; exact e4, ?_⟩
            have g3 := g2.rep.put e3 k1 (.l (k4.set j (dv.mono g2.ext)))
            exact q _ _ _ ((g1.trans g2).trans g3)
          · exact q.elim
        · exact q.elim
      · exact q.elim
    · exact q.elim
theorem ds_setO (i : Nat) {x : Str} {ek e : Expr} {px pos pos' : Pos} {tk : TE} {fk : FE} (hN : X.N[i]? = some x) (hv : Vis X.env.scope x) (he : PD X e te fe) (hk : PD X ek tk fk)
    (hg : PG X (.Subscript (.Name x px) ek pos') (L2.gSub (tVar i) tk rSetL))
    (hs : swapsWithSole [.Subscript (.Name x px) ek pos'] e pos.line X.env = pure false := by rfl) (hw : swappedStores [.Subscript (.Name x px) ek pos'] e X.env = pure none := by rfl)
    (h1 : (assignEach [.Subscript (.Name x px) ek pos'] X.env).map (·.2) = [assign (.Subscript (.Name x px) ek pos') X.env] := by rfl) :
    PDs X (.Assign [.Subscript (.Name x px) ek pos'] e pos) (tAsg te (L2.gSub (tVar i) tk rSetL)) (fSetO i fk fe) := ⟨ps_asg he.pe hg hs hw h1, ss_setO he.ok hk.ok⟩
/-- own[k], read in place -/
def fIxO (i : Nat) (fk : FE) : FE := fun s => match s[i]? with
  | some (.ow _ (.l _)) => match fk s with
    | some (.int k, s2) => match s2[i]? with
      | some (.ow _ (.l ds)) => match atI ds k with
        | some d => some (d, s2)
        | none => none
      | _ => none
    | _ => none
  | _ => none
theorem se_ixO {i : Nat} {tk : TE} {fk : FE} (hk : SE K tk fk) : SE K (tOp (rIxL K) (tVar i) tk) (fIxO i fk) := by
  intro S H s σ Q r q
  unfold fIxO at q
  split at q
  · rename_i p0 ds0 e0
    obtain ⟨a0, vs0, h1, h2, h3, h4⟩ := r.ol i _ _ e0
    split at q
    · rename_i k s2 e2
      split at q
      · rename_i p ds e3
        split at q
        · rename_i d e4
          refine ⟨_, h1, hk.use r e2 fun w S2 H2 g2 dk => ?_⟩
          cases dk
          obtain ⟨a, vs, k1, k2, k3, k4⟩ := g2.rep.ol i p ds e3
          cases ref_inj k1 h1
          obtain ⟨v, e5, dv⟩ := k4.atI e4
          exact ⟨_, vs, k, v, rfl, rfl, .inl (.inl k2), e5, q v S2 H2 g2 dv⟩
        · exact q.elim
      · exact q.elim
    · exact q.elim
  · exact q.elim
theorem pd_ixO (i : Nat) {x : Str} {ek : Expr} {px pos : Pos} {tk : TE} {fk : FE} (ha : PE X (.Name x px) (tVar i)) (hk : PD X ek tk fk) (hp : PlainIx ek) : PD X (.Subscript (.Name x px) ek pos) (tOp (rIxL X.K) (tVar i) tk) (fIxO i fk) := ⟨pe_ix ix_list ha hk.pe hp, se_ixO hk.ok⟩
end
end DL
namespace DL
open PySem PySem.Spec PyProof.Rows L2

/-! ### what is walked -/
def ItS (K : PySem.W.Frag) (J : It) (S : Hp) (ds : List D) : Prop := ∀ (i : Nat) (S' H' : Hp), Same S S' → Same S' H' →
  (i < ds.length → J.go i H' ∧ ∀ x H3, J.yld i H' x H3 → ∃ S3 d, Al S' H' S3 H3 ∧ ds[i]? = some d ∧ Dt K S3 x d) ∧ (ds.length ≤ i → J.stop i H')
abbrev FI := Sd → Option (List D × Sd)
def QI (K : PySem.W.Frag) (r : Option (List D × Sd)) (S H : Hp) (s : Sd) (σ : L2.St) (R : It → Hp → Prop) : Prop := match r with
  | some (ds, s1) => ∀ J S' H', Go K S H s σ S' H' s1 σ → ItS K J S' ds → R J H'
  | none => False
def SI (K : PySem.W.Frag) (wi : TI) (f : FI) : Prop := ∀ S H s σ R, Rep K S H s σ → QI K (f s) S H s σ R → wi σ H R
structure PDi (X : Cx) (tg e : Expr) (wi : TI) (f : FI) : Prop where
  pi : PI X tg e wi
  ok : SI X.K wi f
def fiL (f : FE) : FI := fun s => match f s with
  | some (.lst ds, s1) => some (ds, s1)
  | some (.rl ds, s1) => some (ds, s1)
  | _ => none
def fiT (f : FE) : FI := fun s => match f s with
  | some (.tup ds, s1) => some (ds, s1)
  | _ => none
/-- a list or a tuple -/
def rngD (lo : Int) (n : Nat) : List D := (List.range n).map fun (i : Nat) => D.int (lo + (i : Int))
def fiR1 (f : FA) : FI := fun s => match f s with
  | some ([.int j], s1) => if -(2 ^ 62) ≤ j ∧ j < 2 ^ 62 then some (rngD 0 j.toNat, s1) else none
  | _ => none
def fiR2 (f : FA) : FI := fun s => match f s with
  | some ([.int i, .int j], s1) => if -(2 ^ 62) ≤ i ∧ i < 2 ^ 62 ∧ -(2 ^ 62) ≤ j ∧ j < 2 ^ 62 then some (rngD i (j - i).toNat, s1) else none
  | _ => none
def signs (x : Str) : List D := x.cps.toList.map fun c => D.str ⟨#[c]⟩
def fiS (f : FE) : FI := fun s => match f s with
  | some (.str x, s1) => some (signs x, s1)
  | _ => none
section
variable {X : Cx} {K : PySem.W.Frag} {te : TE} {fe : FE} {ta : TA} {fa : FA}
theorem its_lst {S : Hp} {a : Addr} {xs : List V} {ds : List D} (h : SqL K S a xs) (da : DtA K S xs ds) : ItS K (Itl K a) S ds := fun i S' H' e1 e2 => by
  have hq : SqL K H' a xs := e2.seq (e1.seq h)
  refine ⟨fun hi => ?_, fun hi => ⟨xs, hq, by rw [da.length]; exact hi⟩⟩
  obtain ⟨v, e3, q⟩ := da.get (List.getElem?_eq_getElem hi)
  refine ⟨⟨xs, v, hq, e3⟩, fun x H3 y => ?_⟩
  obtain ⟨rfl, y⟩ := y
  cases Option.some.inj ((y xs hq).symm.trans e3)
  exact ⟨S', _, Al.refl e2, List.getElem?_eq_getElem hi, q.mono e1⟩
theorem its_tup {S : Hp} {a : Addr} {xs : List V} {ds : List D} (h : SqT K S a xs) (da : DtA K S xs ds) : ItS K (Itt K a) S ds := fun i S' H' e1 e2 => by
  have hq : SqT K H' a xs := same_t e2 (same_t e1 h)
  refine ⟨fun hi => ?_, fun hi => ⟨xs, hq, by rw [da.length]; exact hi⟩⟩
  obtain ⟨v, e3, q⟩ := da.get (List.getElem?_eq_getElem hi)
  refine ⟨⟨xs, v, hq, e3⟩, fun x H3 y => ?_⟩
  obtain ⟨rfl, y⟩ := y
  cases Option.some.inj ((y xs hq).symm.trans e3)
  exact ⟨S', _, Al.refl e2, List.getElem?_eq_getElem hi, q.mono e1⟩
theorem rngD_length (lo : Int) (n : Nat) : (rngD lo n).length = n := by unfold rngD; rw [List.length_map, List.length_range]
theorem rngD_get {lo : Int} {n i : Nat} (h : i < n) : (rngD lo n)[i]? = some (.int (lo + (i : Int))) := by
  unfold rngD
  rw [List.getElem?_map, List.getElem?_range h]
  rfl
theorem its_rng {S : Hp} {lo : Int} {n : Nat} : ItS K (Itr lo n) S (rngD lo n) := fun i S' H' e1 e2 => by
  rw [rngD_length]
  refine ⟨fun hi => ⟨hi, fun x H3 y => ?_⟩, fun hi => hi⟩
  obtain ⟨rfl, rfl⟩ := y
  exact ⟨S', _, Al.refl e2, rngD_get hi, .int _⟩
theorem its_str {S : Hp} {x : Str} : ItS K (Its x) S (signs x) := fun i S' H' e1 e2 => by
  have hl : (signs x).length = x.cps.size := by unfold signs; rw [List.length_map, Array.length_toList]
  rw [hl]
  refine ⟨fun hi => ⟨hi, fun v H3 y => ?_⟩, fun hi => hi⟩
  obtain ⟨rfl, c, e, rfl⟩ := y
  refine ⟨S', _, Al.refl e2, ?_, .str _⟩
  unfold signs
  rw [List.getElem?_map, Array.getElem?_toList, e]
  rfl
theorem si_list (h : SE K te fe) : SI K (iList K te) (fiL fe) := by
  intro S H s σ R r q
  unfold fiL at q
  split at q
  · rename_i ds s1 e
    refine h.use r e fun v S' H' g d => ?_
    cases d with
    | lst ha da => exact ⟨_, rfl, ⟨_, .inl (.inl (g.rep.sub _ _ ha))⟩, q _ S' H' g (its_lst (.inl (.inl ha)) da)⟩
  · rename_i ds s1 e
    refine h.use r e fun v S' H' g d => ?_
    cases d with
    | rl ha da => exact ⟨_, rfl, ⟨_, g.rep.sub.seq ha⟩, q _ S' H' g (its_lst ha da)⟩
  · exact q.elim
theorem si_tup (h : SE K te fe) : SI K (iTup K te) (fiT fe) := by
  intro S H s σ R r q
  unfold fiT at q
  split at q
  · rename_i ds s1 e
    refine h.use r e fun v S' H' g d => ?_
    cases d with
    | tup ha da => exact ⟨_, rfl, ⟨_, same_t g.rep.sub ha⟩, q _ S' H' g (its_tup ha da)⟩
  · exact q.elim
theorem si_rng1 (h : SA K ta fa) : SI K (iRng1 ta) (fiR1 fa) := by
  intro S H s σ R r q
  unfold fiR1 at q
  split at q
  · rename_i j s1 e
    refine h.use r e fun vs S' H' g d => ?_
    cases d with
    | cons d1 d =>
      cases d
      cases d1
      by_cases c : -(2 ^ 62) ≤ j ∧ j < 2 ^ 62
      · rw [if_pos c] at q
        exact ⟨j, rfl, c.1, c.2, q _ S' H' g its_rng⟩
      · rw [if_neg c] at q; exact q.elim
  · exact q.elim
theorem si_rng2 (h : SA K ta fa) : SI K (iRng2 ta) (fiR2 fa) := by
  intro S H s σ R r q
  unfold fiR2 at q
  split at q
  · rename_i i j s1 e
    refine h.use r e fun vs S' H' g d => ?_
    cases d with
    | cons d1 d =>
      cases d with
      | cons d2 d =>
        cases d
        cases d1
        cases d2
        by_cases c : -(2 ^ 62) ≤ i ∧ i < 2 ^ 62 ∧ -(2 ^ 62) ≤ j ∧ j < 2 ^ 62
        · rw [if_pos c] at q
          exact ⟨i, j, rfl, c, q _ S' H' g its_rng⟩
        · rw [if_neg c] at q; exact q.elim
  · exact q.elim
theorem si_str (h : SE K te fe) : SI K (iStr te) (fiS fe) := by
  intro S H s σ R r q
  unfold fiS at q
  split at q
  · rename_i x s1 e
    refine h.use r e fun v S' H' g d => ?_
    cases d
    exact ⟨x, rfl, q _ S' H' g its_str⟩
  · exact q.elim
theorem di_list {tg l : Expr} (h : PD X l te fe) : PDi X tg l (iList X.K te) (fiL fe) := ⟨pi_list h.pe, si_list h.ok⟩
theorem di_tup {tg l : Expr} (h : PD X l te fe) : PDi X tg l (iTup X.K te) (fiT fe) := ⟨pi_tup h.pe, si_tup h.ok⟩
theorem di_str {tg l : Expr} (h : PD X l te fe) : PDi X tg l (iStr te) (fiS fe) := ⟨pi_str h.pe, si_str h.ok⟩
theorem di_rng1 {tg a : Expr} {p pos : Pos} (hg : Gl X "range") (hm : X.mg "range" = none) (ha : PDa X [a] ta fa) (hs : starEach [a] X.env = [(false, eval a X.env)] := by rfl) : PDi X tg (.Call (.Name "range" p) [a] [] pos) (iRng1 ta) (fiR1 fa) := ⟨pi_range1 hg hm ha.pe hs, si_rng1 ha.ok⟩
theorem di_rng2 {tg a b : Expr} {p pos : Pos} (hg : Gl X "range") (hm : X.mg "range" = none) (ha : PDa X [a, b] ta fa) (hs : starEach [a, b] X.env = [(false, eval a X.env), (false, eval b X.env)] := by rfl) (hs2 : starEach [b] X.env = [(false, eval b X.env)] := by rfl) : PDi X tg (.Call (.Name "range" p) [a, b] [] pos) (iRng2 ta) (fiR2 fa) := ⟨pi_range2 hg hm ha.pe hs hs2, si_rng2 ha.ok⟩

/-! ### for -/
def loopF (fg : D → Sd → Option Sd) (fb : FS) : List D → Sd → Option (Fl × Sd)
  | [], s => some (.nx, s)
  | d :: r, s => match fg d s with
    | none => none
    | some s1 => match fb s1 with
      | some (.nx, s2) => loopF fg fb r s2
      | some (.ct, s2) => loopF fg fb r s2
      | some (.bk, s2) => some (.nx, s2)
      | some (.rt d, s2) => some (.rt d, s2)
      | some (.rn ds, s2) => some (.rn ds, s2)
      | none => none
def fFor (fi : FI) (fg : D → Sd → Option Sd) (fb : FS) : FS := fun s => match fi s with
  | none => none
  | some (ds, s1) => loopF fg fb ds s1
theorem ss_for {wi : TI} {g : TG} {tb : TS} {fi : FI} {fg : D → Sd → Option Sd} {fb : FS} (hi : SI K wi fi) (hg : SG K g fg) (hb : SS K tb fb) : SS K (tFor wi g tb) (fFor fi fg fb) := by
  intro S H s σ N r q
  unfold fFor at q
  refine hi S H s σ _ r ?_
  cases e : fi s with
  | none => rw [e] at q; exact q.elim
  | some x =>
    obtain ⟨ds, s1⟩ := x
    rw [e] at q
    simp only at q
    intro J S0 H0 g0 its
    refine ⟨fun i m σ' H' => m + i = ds.length ∧ ∃ S' s', Go K S H s σ S' H' s' σ' ∧ Same S0 S' ∧ QS K (loopF fg fb (ds.drop i) s') S' H' s' σ' N, ⟨ds.length, rfl, S0, s1, g0, Same.refl _, by rw [List.drop_zero]; exact qs_go g0 q⟩, ?_⟩
    rintro i m σ' H' ⟨hm, S', s', g1, sm, q1⟩
    obtain ⟨go, st⟩ := its i S' H' sm g1.rep.sub
    by_cases hi : i < ds.length
    · obtain ⟨go, yl⟩ := go hi
      refine .inr ⟨go, fun σ2 H2 => ∃ S2 s2, Go K S H s σ S2 H2 s2 σ2 ∧ Same S0 S2 ∧ QS K (loopF fg fb (ds.drop (i + 1)) s2) S2 H2 s2 σ2 N, fun σ2 H2 ⟨S2, s2, z⟩ => ⟨m - 1, by omega, by omega, S2, s2, z⟩, fun x H3 y => ?_⟩
      obtain ⟨S3, d, al, ed, dx⟩ := yl x H3 y
      have g3 := g1.trans (al.go g1.rep)
      rw [List.drop_eq_getElem_cons hi] at q1
      have ed' : ds[i] = d := by rw [List.getElem?_eq_getElem hi] at ed; exact Option.some.inj ed
      rw [ed'] at q1
      have q3 := qs_go (al.go g1.rep) q1
      simp only [loopF] at q3
      refine hg S3 H3 s' σ' x d _ g3.rep dx ?_
      cases e1 : fg d s' with
      | none => rw [e1] at q3; exact q3.elim
      | some s4 =>
        rw [e1] at q3
        simp only at q3
        intro S4 H4 σ4 g4
        have q4 := qs_go g4 q3
        have sm4 : Same S0 S4 := (sm.trans al.ext).trans g4.ext
        refine hb S4 H4 s4 σ4 _ g4.rep ?_
        cases e2 : fb s4 with
        | none => rw [e2] at q4; exact q4.elim
        | some w =>
          obtain ⟨fl, s5⟩ := w
          rw [e2] at q4
          cases fl with
          | nx => exact fun S5 H5 σ5 g5 => ⟨S5, s5, (g3.trans g4).trans g5, sm4.trans g5.ext, qs_go g5 q4⟩
          | ct => exact fun S5 H5 σ5 g5 => ⟨S5, s5, (g3.trans g4).trans g5, sm4.trans g5.ext, qs_go g5 q4⟩
          | bk => exact q4
          | rt d => exact q4
          | rn ds => exact q4
    · refine .inl ⟨st (by omega), ?_⟩
      rw [List.drop_eq_nil_of_le (by omega)] at q1
      exact q1 S' H' σ' (Go.refl g1.rep)
theorem ds_for {tg iter : Expr} {body : List Stmt} {pos : Pos} {wi : TI} {g : TG} {tb : TS} {fi : FI} {fg : D → Sd → Option Sd} {fb : FS} (hp : PassesOwn (model X.prog X.w) X.A X.env X.xe) (hc : X.calm = true) (hi : PDi X tg iter wi fi) (hg : PDg X tg g fg) (hb : PDss X body tb fb)
    (hs : ∀ x, foldedSetIterable iter X.env x = pure x := by intro _; rfl) : PDs X (.For tg iter body [] pos) (tFor wi g tb) (fFor fi fg fb) := ⟨ps_for hp hc hi.pi hg.pg hb.ps hs, ss_for hi.ok hg.ok hb.ok⟩

/-! ### while, with a bound on its turns -/
def whileF (fc : FT) (fb : FS) : Nat → Sd → Option (Fl × Sd)
  | 0, _ => none
  | n + 1, s => match fc s with
    | none => none
    | some (false, s1) => some (.nx, s1)
    | some (true, s1) => match fb s1 with
      | some (.nx, s2) => whileF fc fb n s2
      | some (.ct, s2) => whileF fc fb n s2
      | some (.bk, s2) => some (.nx, s2)
      | some (.rt d, s2) => some (.rt d, s2)
      | some (.rn ds, s2) => some (.rn ds, s2)
      | none => none
theorem ss_while {tc : TT} {tb : TS} {fc : FT} {fb : FS} (n : Nat) (hc : ST K tc fc) (hb : SS K tb fb)
    : SS K (tWhile tc tb) (whileF fc fb n) := by
  intro S H s σ N r q
  refine ⟨fun m σ' H' => ∃ S' s', Go K S H s σ S' H' s' σ' ∧ QS K (whileF fc fb m s') S' H' s' σ' N, ⟨n, S, s, Go.refl r, q⟩, ?_⟩
  rintro m σ' H' ⟨S', s', g1, q1⟩
  cases m with
  | zero => exact q1.elim
  | succ m =>
    simp only [whileF] at q1
    refine hc S' H' s' σ' _ g1.rep ?_
    cases e : fc s' with
    | none => rw [e] at q1; exact q1.elim
    | some x =>
      obtain ⟨b, s2⟩ := x
      rw [e] at q1
      cases b with
      | false =>
        exact fun S2 H2 g2 => q1 S2 H2 σ' g2
      | true =>
        intro S2 H2 g2
        have q2 := qs_go g2 q1
        simp only at q2
        refine ⟨fun σ3 H3 => ∃ S3 s3, Go K S H s σ S3 H3 s3 σ3 ∧ QS K (whileF fc fb m s3) S3 H3 s3 σ3 N, fun σ3 H3 z => ⟨m, Nat.lt_succ_self m, z⟩, hb S2 H2 s2 σ' _ g2.rep ?_⟩
        cases e2 : fb s2 with
        | none => rw [e2] at q2; exact q2.elim
        | some w =>
          obtain ⟨fl, s5⟩ := w
          rw [e2] at q2
          cases fl with
          | nx => exact fun S5 H5 σ5 g5 => ⟨S5, s5, (g1.trans g2).trans g5, qs_go g5 q2⟩
          | ct => exact fun S5 H5 σ5 g5 => ⟨S5, s5, (g1.trans g2).trans g5, qs_go g5 q2⟩
          | bk => exact q2
          | rt d => exact q2
          | rn ds => exact q2
theorem ds_while (n : Nat) {c : Expr} {body : List Stmt} {pos : Pos} {tc : TT} {tb : TS} {fc : FT} {fb : FS} (hp : PassesOwn (model X.prog X.w) X.A X.env X.xe) (hc : PDt X c tc fc) (hb : PDss X body tb fb) : PDs X (.While c body [] pos) (tWhile tc tb) (whileF fc fb n) := ⟨ps_while hp hc.pe hb.ps, ss_while n hc.ok hb.ok⟩

/-! ### list comprehensions -/
def isOl : Option Sl → Bool
  | some (.ow _ _) => true
  | _ => false
def nol (s : Sd) (vs : List Nat) : Bool := vs.all fun v => !isOl s[v]?
def clr (s : Sd) (vs : List Nat) : Sd := s.mapIdx fun i x => if vs.contains i then .no else x
/-- s', at vs as in s -/
def rst (s s' : Sd) (vs : List Nat) : Sd := s'.mapIdx fun i x => if vs.contains i then (s[i]?).getD .no else x
theorem clr_len (s : Sd) (vs : List Nat) : (clr s vs).length = s.length := by unfold clr; rw [List.length_mapIdx]
theorem rst_len (s s' : Sd) (vs : List Nat) : (rst s s' vs).length = s'.length := by unfold rst; rw [List.length_mapIdx]
theorem clr_get {s : Sd} {vs : List Nat} {i : Nat} {x : Sl} (h : (clr s vs)[i]? = some x) : (i ∈ vs ∧ x = .no) ∨ (i ∉ vs ∧ s[i]? = some x) := by
  unfold clr at h
  rw [List.getElem?_mapIdx] at h
  cases e : s[i]? with
  | none => rw [e] at h; cases h
  | some y =>
    rw [e] at h
    have h := Option.some.inj (show some (if vs.contains i then Sl.no else y) = some x from h)
    by_cases c : i ∈ vs
    · rw [if_pos (by simpa using c)] at h
      exact .inl ⟨c, h.symm⟩
    · rw [if_neg (by simpa using c)] at h
      exact .inr ⟨c, by rw [h]⟩
theorem clr_out {s : Sd} {vs : List Nat} {i : Nat} (c : i ∉ vs) : (clr s vs)[i]? = s[i]? := by
  unfold clr
  rw [List.getElem?_mapIdx]
  cases e : s[i]? with
  | none => rfl
  | some y =>
    show some (if vs.contains i then Sl.no else y) = some y
    rw [if_neg (by simpa using c)]
theorem rst_out {s s' : Sd} {vs : List Nat} {i : Nat} (c : i ∉ vs) : (rst s s' vs)[i]? = s'[i]? := by
  unfold rst
  rw [List.getElem?_mapIdx]
  cases e : s'[i]? with
  | none => rfl
  | some y =>
    show some (if vs.contains i then (s[i]?).getD .no else y) = some y
    rw [if_neg (by simpa using c)]
theorem rst_in {s s' : Sd} {vs : List Nat} {i : Nat} (hl : s'.length = s.length) (c : i ∈ vs) : (rst s s' vs)[i]? = s[i]? := by
  unfold rst
  rw [List.getElem?_mapIdx]
  cases e : s'[i]? with
  | none =>
    rw [List.getElem?_eq_none_iff] at e
    exact (List.getElem?_eq_none (by omega)).symm
  | some y =>
    have hi : i < s.length := by have := getElem?_lt e; omega
    show some (if vs.contains i then (s[i]?).getD .no else y) = s[i]?
    rw [if_pos (by simpa using c), List.getElem?_eq_getElem hi]
    rfl
theorem nol_at {s : Sd} {vs : List Nat} (h : nol s vs = true) {i : Nat} (c : i ∈ vs) {p : Bool} {ds : OD} : s[i]? ≠ some (.ow p ds) := fun z => by
  have := List.all_eq_true.mp h i c
  rw [z] at this
  cases this
theorem own_clr {s : Sd} {vs : List Nat} {σ : L2.St} (h : nol s vs = true) {a : Addr} : Own (clr s vs) (wipe σ vs) a ↔ Own s σ a := by
  constructor
  · rintro ⟨i, p, ds, h1, h2⟩
    rcases clr_get h1 with ⟨_, z⟩ | ⟨c, z⟩
    · cases z
    · rw [wipe_out c] at h2
      exact ⟨i, p, ds, z, h2⟩
  · rintro ⟨i, p, ds, h1, h2⟩
    have c : i ∉ vs := fun c => nol_at h c h1
    exact ⟨i, p, ds, by rw [clr_out c]; exact h1, by rw [wipe_out c]; exact h2⟩
theorem Rep.clr {S H : Hp} {s : Sd} {σ : L2.St} {vs : List Nat} (r : Rep K S H s σ) (h : nol s vs = true) : Rep K S H (clr s vs) (wipe σ vs) := by
  refine ⟨r.sub, by rw [wipe_length, clr_len]; exact r.len, fun i d e => ?_, fun i p ds e => ?_, fun i j p q ds es a h1 h2 h3 h4 => ?_⟩
  · rcases clr_get e with ⟨_, z⟩ | ⟨c, z⟩
    · cases z
    · rw [wipe_out c]
      exact r.tr i d z
  · rcases clr_get e with ⟨_, z⟩ | ⟨c, z⟩
    · cases z
    · rw [wipe_out c]
      exact r.ow i p ds z
  · rcases clr_get h1 with ⟨_, z⟩ | ⟨c, z⟩
    · cases z
    · rcases clr_get h2 with ⟨_, y⟩ | ⟨c2, y⟩
      · cases y
      · rw [wipe_out c] at h3
        rw [wipe_out c2] at h4
        exact r.ne i j p q ds es a z y h3 h4
/-- into the block -/
theorem Go.inClr {S H S' H' : Hp} {s s' : Sd} {σ σ2 : L2.St} {vs : List Nat} (g : Go K S H s σ S' H' s' σ2) (h' : nol s' vs = true) (hw : wipe σ2 vs = wipe σ vs) (hs : clr s vs = s) (hσ : wipe σ vs = σ) : Go K S H s σ S' H' (clr s' vs) σ := by
  have e2 : wipe σ2 vs = σ := hw.trans hσ
  have rr := g.rep.clr h'
  rw [e2] at rr
  refine ⟨rr, g.ext, g.keep, fun a o => ?_, g.live, g.grow, fun i ds h => ?_, by rw [clr_len]; exact g.lens⟩
  · have o2 : Own (DL.clr s' vs) (wipe σ2 vs) a := by rw [e2]; exact o
    exact g.own a ((own_clr h').mp o2)
  · obtain ⟨ds', e1, e3⟩ := g.stay i ds h
    have c : i ∉ vs := fun c => nol_at h' c e1
    exact ⟨ds', by rw [clr_out c]; exact e1, rfl⟩
theorem clr_clr (s : Sd) (vs : List Nat) : DL.clr (DL.clr s vs) vs = DL.clr s vs := by
  apply List.ext_getElem?
  intro i
  by_cases c : i ∈ vs
  · unfold DL.clr
    rw [List.getElem?_mapIdx, List.getElem?_mapIdx]
    cases s[i]? with
    | none => rfl
    | some y =>
      show some (if vs.contains i then Sl.no else _) = some (if vs.contains i then Sl.no else _)
      rw [if_pos (by simpa using c), if_pos (by simpa using c)]
  · rw [clr_out c]
theorem wipe_wipe (σ : L2.St) : ∀ vs : List Nat, wipe (wipe σ vs) vs = wipe σ vs := fun vs => by
  apply List.ext_getElem?
  intro i
  by_cases c : i ∈ vs
  · by_cases hi : i < σ.length
    · have h1 : i < (wipe σ vs).length := by rw [wipe_length]; exact hi
      have h2 : i < (wipe (wipe σ vs) vs).length := by rw [wipe_length]; exact h1
      have n : ∀ τ : L2.St, (hh : i < (wipe τ vs).length) → (wipe τ vs)[i]? = some none := fun τ hh => by
        rw [List.getElem?_eq_getElem hh]
        cases e : (wipe τ vs)[i] with
        | none => rfl
        | some x =>
          have z : (wipe τ vs)[i]? = some (some x) := by rw [List.getElem?_eq_getElem hh, e]
          exact absurd c (wipe_some z).2
      rw [n _ h2, n _ h1]
    · rw [List.getElem?_eq_none (by rw [wipe_length, wipe_length]; omega), List.getElem?_eq_none (by rw [wipe_length]; omega)]
  · rw [wipe_out c]
theorem wipe_set (σ : L2.St) {vs : List Nat} {i : Nat} {x : Option V} (c : i ∈ vs) : wipe (σ.set i x) vs = wipe σ vs := by
  apply List.ext_getElem?
  intro j
  by_cases d : j ∈ vs
  · have n : ∀ τ : L2.St, j < τ.length → (wipe τ vs)[j]? = some none := fun τ h => by
      have hh : j < (wipe τ vs).length := by rw [wipe_length]; exact h
      rw [List.getElem?_eq_getElem hh]
      cases e : (wipe τ vs)[j] with
      | none => rfl
      | some y =>
        have z : (wipe τ vs)[j]? = some (some y) := by rw [List.getElem?_eq_getElem hh, e]
        exact absurd d (wipe_some z).2
    by_cases hj : j < σ.length
    · rw [n _ (by rw [List.length_set]; exact hj), n _ hj]
    · rw [List.getElem?_eq_none (by rw [wipe_length, List.length_set]; omega), List.getElem?_eq_none (by rw [wipe_length]; omega)]
  · rw [wipe_out d, wipe_out d, List.getElem?_set_ne (fun z => by subst z; exact d c)]
/-- out of the block -/
theorem Go.outClr {S H S' H' : Hp} {s s' : Sd} {σ : L2.St} {vs : List Nat} (r : Rep K S H s σ) (h : nol s vs = true) (g : Go K S H (DL.clr s vs) (wipe σ vs) S' H' s' (wipe σ vs)) : Go K S H s σ S' H' (rst s s' vs) σ := by
  have hl : s'.length = s.length := by rw [g.lens, clr_len]
  have gt : ∀ (i : Nat) (x : Sl), (rst s s' vs)[i]? = some x → (i ∈ vs ∧ s[i]? = some x) ∨ (i ∉ vs ∧ s'[i]? = some x) := fun i x e => by
    by_cases c : i ∈ vs
    · rw [rst_in hl c] at e; exact .inl ⟨c, e⟩
    · rw [rst_out c] at e; exact .inr ⟨c, e⟩
  refine ⟨⟨g.rep.sub, by rw [rst_len, hl]; exact r.len, fun i d e => ?_, fun i p ds e => ?_, fun i j p q ds es a h1 h2 h3 h4 => ?_⟩, g.ext, fun a o e n => g.keep a o e fun z => n ((own_clr h).mp z), fun a o => ?_, g.live, fun a e => ?_, fun i ds e => ?_, by rw [rst_len, hl]⟩
  · rcases gt i _ e with ⟨c, z⟩ | ⟨c, z⟩
    · obtain ⟨v, e1, q⟩ := r.tr i d z
      exact ⟨v, e1, q.mono g.ext⟩
    · have := g.rep.tr i d z
      rw [wipe_out c] at this
      exact this
  · rcases gt i _ e with ⟨c, z⟩ | ⟨c, z⟩
    · exact absurd z (nol_at h c)
    · have := g.rep.ow i p ds z
      rw [wipe_out c] at this
      exact this
  · rcases gt i _ h1 with ⟨c, z⟩ | ⟨c, z⟩
    · exact absurd z (nol_at h c)
    · rcases gt j _ h2 with ⟨c2, y⟩ | ⟨c2, y⟩
      · exact absurd y (nol_at h c2)
      · exact g.rep.ne i j p q ds es a z y (by rw [wipe_out c]; exact h3) (by rw [wipe_out c2]; exact h4)
  · obtain ⟨i, p, ds, h1, h2⟩ := o
    rcases gt i _ h1 with ⟨c, z⟩ | ⟨c, z⟩
    · exact absurd z (nol_at h c)
    · rcases g.own a ⟨i, p, ds, z, by rw [wipe_out c]; exact h2⟩ with w | w
      · exact .inl ((own_clr h).mp w)
      · exact .inr w
  · rcases g.grow a e with w | w | w
    · exact .inl w
    · exact .inr (.inl w)
    · exact .inr (.inr ((own_clr h).mp w))
  · have c : i ∉ vs := fun c => nol_at h c e
    obtain ⟨ds', e1, _⟩ := g.stay i ds (by rw [clr_out c]; exact e)
    exact ⟨ds', by rw [rst_out c]; exact e1, rfl⟩
end
end DL
namespace DL
open PySem PySem.Spec PyProof.Rows L2

section
variable {K : PySem.W.Frag} {S H S' H' : Hp} {s s' : Sd} {σ σ' : L2.St}
/-- an object that the slots do not own is written -/
theorem Go.other (g : Go K S H s σ S' H' s' σ') {a : Addr} {o : HO} (hS : S' a = none) (hO : ¬ Own s' σ' a) (hH : H a = none) : Go K S H s σ S' (upd H' a o) s' σ' := by
  refine ⟨⟨fun b u e => ?_, g.rep.len, g.rep.tr, fun i p ds e => ?_, g.rep.ne⟩, g.ext, fun b u e n => ?_, g.own, fun b e => ?_, g.grow, g.stay, g.lens⟩
  · have : b ≠ a := fun z => by subst z; rw [hS] at e; cases e
    rw [upd_ne this]; exact g.rep.sub b u e
  · obtain ⟨b, vs, e1, e2, e3, e4⟩ := g.rep.ow i p ds e
    have : b ≠ a := fun z => by subst z; exact hO ⟨i, p, ds, e, e1⟩
    exact ⟨b, vs, e1, by rw [upd_ne this]; exact e2, e3, e4⟩
  · have : b ≠ a := fun z => by subst z; rw [hH] at e; cases e
    rw [upd_ne this]; exact g.keep b u e n
  · by_cases z : b = a
    · subst z; exact hH
    · rw [upd_ne z] at e; exact g.live b e
/-- it becomes data -/
theorem Go.adopt (g : Go K S H s σ S' H' s' σ') {a : Addr} {o : HO} (hS : S' a = none) (hO : ¬ Own s' σ' a) (hH : H a = none) (ha : H' a = some o) : Go K S H s σ (upd S' a o) H' s' σ' := by
  have sm : Same S' (upd S' a o) := same_upd hS
  refine ⟨⟨fun b u e => ?_, g.rep.len, fun i d e => ?_, fun i p ds e => ?_, g.rep.ne⟩, g.ext.trans sm, g.keep, g.own, g.live, fun b e => ?_, g.stay, g.lens⟩
  · by_cases z : b = a
    · subst z; rw [upd_same] at e; rw [ha]; exact e
    · rw [upd_ne z] at e; exact g.rep.sub b u e
  · obtain ⟨v, e1, q⟩ := g.rep.tr i d e
    exact ⟨v, e1, q.mono sm⟩
  · obtain ⟨b, vs, e1, e2, e3, e4⟩ := g.rep.ow i p ds e
    have : b ≠ a := fun z => by subst z; exact hO ⟨i, p, ds, e, e1⟩
    exact ⟨b, vs, e1, e2, by rw [upd_ne this]; exact e3, e4.mono sm⟩
  · by_cases z : b = a
    · subst z; exact .inr (.inl hH)
    · rw [upd_ne z] at e; exact g.grow b e
end

/-! ### list comprehensions -/
def lcF (fg : D → Sd → Option Sd) (ft : FT) (fe : FE) (vs : List Nat) : List D → Sd → Option (List D × Sd)
  | [], s => some ([], s)
  | d :: r, s => match fg d s with
    | none => none
    | some s1 => match ft s1 with
      | none => none
      | some (false, s2) => if nol s2 vs = true then lcF fg ft fe vs r (clr s2 vs) else none
      | some (true, s2) => match fe s2 with
        | none => none
        | some (e, s3) => if nol s3 vs = true then (match lcF fg ft fe vs r (clr s3 vs) with
          | none => none
          | some (es, s4) => some (e :: es, s4)) else none
def fLc (fi : FI) (fg : D → Sd → Option Sd) (ft : FT) (fe : FE) (vs : List Nat) : FE := fun s => match fi s with
  | none => none
  | some (ds, s1) => if nol s1 vs = true ∧ ds.length ≤ 100000 then (match lcF fg ft fe vs ds (clr s1 vs) with
    | none => none
    | some (es, s4) => some (.lst es, rst s1 s4 vs)) else none
def GIn (g : TG) (vs : List Nat) : Prop := ∀ x σ H (Q Q' : L2.St → Hp → Prop), g x σ H Q → (∀ σ2 H2, wipe σ2 vs = wipe σ vs → Q σ2 H2 → Q' σ2 H2) → g x σ H Q'
def GsIn (g : TGs) (vs : List Nat) : Prop := ∀ xs σ H (Q Q' : L2.St → Hp → Prop), g xs σ H Q → (∀ σ2 H2, wipe σ2 vs = wipe σ vs → Q σ2 H2 → Q' σ2 H2) → g xs σ H Q'
section
variable {X : Cx} {K : PySem.W.Frag}
theorem gin_name {i : Nat} {vs : List Nat} (h : i ∈ vs) : GIn (gName i) vs := fun x σ H Q Q' q k => k _ _ (wipe_set σ h) q
theorem gsin_nil {vs : List Nat} : GsIn gNil vs := fun xs σ H Q Q' q k => ⟨q.1, k _ _ rfl q.2⟩
theorem gsin_cons {t : TG} {u : TGs} {vs : List Nat} (h1 : GIn t vs) (h2 : GsIn u vs) : GsIn (gCons t u) vs := fun xs σ H Q Q' q k => by
  obtain ⟨v, r, e, q⟩ := q
  exact ⟨v, r, e, h1 _ _ _ _ _ q fun σ2 H2 w q2 => h2 _ _ _ _ _ q2 fun σ3 H3 w2 q3 => k _ _ (w2.trans w) q3⟩
theorem gin_tup {n : Nat} {u : TGs} {vs : List Nat} (h : GsIn u vs) : GIn (gTup K n u) vs := fun x σ H Q Q' q k => by
  obtain ⟨a, xs, e1, e2, e3, q⟩ := q
  exact ⟨a, xs, e1, e2, e3, h _ _ _ _ _ q k⟩
theorem se_lc {wi : TI} {g : TG} {tt : TT} {te : TE} {fi : FI} {fg : D → Sd → Option Sd} {ft : FT} {fe : FE} {vs : List Nat} (hi : SI K wi fi) (hg : SG K g fg) (hin : GIn g vs) (ht : ST K tt ft) (he : SE K te fe) : SE K (tLc wi g tt te vs) (fLc fi fg ft fe vs) := by
  intro S H s σ Q r q
  unfold fLc at q
  refine hi S H s σ _ r ?_
  cases e : fi s with
  | none => rw [e] at q; exact q.elim
  | some x =>
    obtain ⟨ds, s1⟩ := x
    rw [e] at q
    simp only at q
    intro J S0 H0 g0 its Dd hD
    by_cases c : nol s1 vs = true ∧ ds.length ≤ 100000
    · rw [if_pos c] at q
      obtain ⟨c1, c2⟩ := c
      cases e2 : lcF fg ft fe vs ds (clr s1 vs) with
      | none => rw [e2] at q; exact q.elim
      | some y =>
        obtain ⟨es, s4⟩ := y
        rw [e2] at q
        have r0 := g0.rep.clr c1
        have hS0 : S0 Dd = none := g0.rep.sub.free hD
        have no0 : ¬ Own (clr s1 vs) (wipe σ vs) Dd := by
          rintro ⟨i, p, es, h1, h2⟩
          obtain ⟨b, ws, e1, e2, _⟩ := r0.ow i p es h1
          cases ref_inj h2 e1
          rw [hD] at e2; cases e2
        refine ⟨fun i m H' => m + i = ds.length ∧ ∃ S' s' acc done rest, Go K S0 H0 (clr s1 vs) (wipe σ vs) S' H' s' (wipe σ vs) ∧ H' Dd = some (.lst acc) ∧ S' Dd = none ∧ ¬ Own s' (wipe σ vs) Dd ∧ DtA K S' acc done ∧ done.length ≤ i ∧
          lcF fg ft fe vs (ds.drop i) s' = some (rest, s4) ∧ done ++ rest = es ∧ clr s' vs = s', ⟨ds.length, rfl, S0, clr s1 vs, [], [], es, (Go.refl r0).other hS0 no0 hD, upd_same, hS0, no0, .nil, Nat.le_refl _, by rw [List.drop_zero]; exact e2, rfl, clr_clr s1 vs⟩, ?_⟩
        rintro i m H' ⟨hm, S', s', acc, done, rest, g1, hacc, hSd, nO, dacc, hlen, hl, hes, hcl⟩
        obtain ⟨go, st⟩ := its i S' H' g1.ext g1.rep.sub
        by_cases hi : i < ds.length
        · obtain ⟨go, yl⟩ := go hi
          refine .inr ⟨go, fun H2 => ∃ S2 s2 acc done rest, Go K S0 H0 (clr s1 vs) (wipe σ vs) S2 H2 s2 (wipe σ vs) ∧ H2 Dd = some (.lst acc) ∧ S2 Dd = none ∧ ¬ Own s2 (wipe σ vs) Dd ∧ DtA K S2 acc done ∧ done.length ≤ i + 1 ∧
            lcF fg ft fe vs (ds.drop (i + 1)) s2 = some (rest, s4) ∧ done ++ rest = es ∧ clr s2 vs = s2, fun H2 z => ⟨m - 1, by omega, by omega, z⟩, fun x H3 y => ?_⟩
          obtain ⟨S3, d, al, ed, dx⟩ := yl x H3 y
          have g3 := al.go g1.rep
          rw [List.drop_eq_getElem_cons hi] at hl
          have ed' : ds[i] = d := by rw [List.getElem?_eq_getElem hi] at ed; exact Option.some.inj ed
          rw [ed'] at hl
          simp only [lcF] at hl
          cases e3 : fg d s' with
          | none => rw [e3] at hl; cases hl
          | some s5 =>
            rw [e3] at hl
            simp only at hl
            refine hin x (wipe σ vs) H3 (fun σ5 H5 => ∃ S5, Go K S3 H3 s' (wipe σ vs) S5 H5 s5 σ5) _ (hg S3 H3 s' (wipe σ vs) x d _ g3.rep dx (by rw [e3]; exact fun S5 H5 σ5 g5 => ⟨S5, g5⟩)) ?_
            rintro σ5 H5 hw ⟨S5, g5⟩
            rw [wipe_wipe] at hw
            refine ⟨hw, ?_⟩
            have g35 := g3.trans g5
            cases e4 : ft s5 with
            | none => rw [e4] at hl; cases hl
            | some z =>
              obtain ⟨b, s6⟩ := z
              rw [e4] at hl
              refine ht.use g5.rep e4 fun S6 H6 g6 => ?_
              have g36 := g35.trans g6
              cases b with
              | false =>
                refine iteF ?_
                simp only at hl
                by_cases c6 : nol s6 vs = true
                · rw [if_pos c6] at hl
                  have gi := g36.inClr c6 (hw.trans (wipe_wipe σ vs).symm) hcl (wipe_wipe σ vs)
                  refine ⟨S6, clr s6 vs, acc, done, rest, g1.trans gi, gi.keep Dd _ hacc nO, none_of fun z => ?_, fun z => ?_, dacc.mono gi.ext, by omega, hl, hes, clr_clr s6 vs⟩
                  · rcases gi.grow Dd z with w | w | w
                    · exact w hSd
                    · rw [hacc] at w; cases w
                    · exact nO w
                  · rcases gi.own Dd z with w | w
                    · exact nO w
                    · rw [hacc] at w; cases w
                · rw [if_neg c6] at hl; cases hl
              | true =>
                refine iteT ?_
                simp only at hl
                cases e5 : fe s6 with
                | none => rw [e5] at hl; cases hl
                | some w =>
                  obtain ⟨ev, s7⟩ := w
                  rw [e5] at hl
                  simp only at hl
                  refine he.use g6.rep e5 fun v S7 H7 g7 dv => ?_
                  by_cases c7 : nol s7 vs = true
                  · rw [if_pos c7] at hl
                    cases e6 : lcF fg ft fe vs (ds.drop (i + 1)) (clr s7 vs) with
                    | none => rw [e6] at hl; cases hl
                    | some u =>
                      obtain ⟨rs, s8⟩ := u
                      rw [e6] at hl
                      simp only at hl
                      cases hl
                      have gi := (g36.trans g7).inClr c7 (hw.trans (wipe_wipe σ vs).symm) hcl (wipe_wipe σ vs)
                      have hS7 : S7 Dd = none := none_of fun z => by
                        rcases gi.grow Dd z with w | w | w
                        · exact w hSd
                        · rw [hacc] at w; cases w
                        · exact nO w
                      have nO7 : ¬ Own (clr s7 vs) (wipe σ vs) Dd := fun z => by
                        rcases gi.own Dd z with w | w
                        · exact nO w
                        · rw [hacc] at w; cases w
                      refine ⟨acc, gi.keep Dd _ hacc nO, sz_lt (by rw [dacc.length]; omega), S7, clr s7 vs, acc ++ [v], done ++ [ev], rs, (g1.trans gi).other hS7 nO7 hD, upd_same, hS7, nO7, (dacc.mono gi.ext).app (.cons dv .nil), ?_, e6, ?_, clr_clr s7 vs⟩
                      · rw [List.length_append, List.length_singleton]; omega
                      · rw [← hes, List.append_assoc]; rfl
                  · rw [if_neg c7] at hl; cases hl
        · refine .inl ⟨st (by omega), ?_⟩
          rw [List.drop_eq_nil_of_le (by omega)] at hl
          simp only [lcF] at hl
          cases hl
          rw [List.append_nil] at hes
          subst hes
          have ga := g1.adopt hSd nO hD hacc
          have go := ga.outClr g0.rep c1
          exact q _ _ _ (g0.trans go) (.lst upd_same (dacc.mono (same_upd hSd)))
    · rw [if_neg c] at q; exact q.elim
structure PDts (X : Cx) (es : List Expr) (t : TT) (f : FT) : Prop where
  pt : PTs X es t
  ok : ST X.K t f
def fYes : FT := fun s => some (true, s)
theorem dts_nil : PDts X [] tYes fYes := ⟨pts_nil, fun S H s σ Q r q => q S H (Go.refl r)⟩
theorem dts_one {c : Expr} {t : TT} {f : FT} (h : PDt X c t f) : PDts X [c] t f := ⟨pts_one h.pe, h.ok⟩
theorem pd_lc {elt tg iter : Expr} {ifs : List Expr} {scope : Scope} {own : List (Str × Nat)} {pos : Pos} {wi : TI} {g : TG} {tt : TT} {te : TE} {fi : FI} {fg : D → Sd → Option Sd} {ft : FT} {fe : FE} (hc : X.calm = true) (hN : X.N.Nodup) (hi : PDi X tg iter wi fi) (ok : BlkOk X.N X.env.scope scope own)
    (hin : GIn g (own.map (·.2)))
    (hg : ∀ (s : Shared) (H : Hp) (C : Addr) (cl : List (Str × Addr)) (fp : List Addr), PDg (X.blk s H scope (compEnvC scope cl C X.env) fp) tg g fg) (ht : ∀ (s : Shared) (H : Hp) (C : Addr) (cl : List (Str × Addr)) (fp : List Addr), PDts (X.blk s H scope (compEnvC scope cl C X.env) fp) ifs tt ft)
    (he : ∀ (s : Shared) (H : Hp) (C : Addr) (cl : List (Str × Addr)) (fp : List Addr), PD (X.blk s H scope (compEnvC scope cl C X.env) fp) elt te fe) (s0 : Shared) (hs : ∀ x, foldedSetIterable iter X.env x = pure x := by intro _; rfl) :
    PD X (.ListComp elt [⟨tg, iter, ifs, 0⟩] scope pos) (tLc wi g tt te (own.map (·.2))) (fLc fi fg ft fe (own.map (·.2))) :=
  ⟨pe_lc hc hN hi.pi ok (fun s H C cl fp => (hg s H C cl fp).pg) (fun s H C cl fp => (ht s H C cl fp).pt) (fun s H C cl fp => (he s H C cl fp).pe) hs,
    se_lc hi.ok (hg s0 (fun _ => none) 0 [] []).ok hin (ht s0 (fun _ => none) 0 [] []).ok (he s0 (fun _ => none) 0 [] []).ok⟩

/-! ### defs -/
def back (as s' : Sd) : Sd := as.mapIdx fun i x => match x with
  | .ow true _ => (s'[i]?).getD .no
  | x => x
def defF (np N : Nat) (fb : FS) : List Sl → Option (D × Sd) := fun as => match fb (as ++ List.replicate (N - np) .no) with
  | some (.rt d, s') => some (d, back as s')
  | some (.rn ds, s') => some (.lst ds, back as s')
  | some (.nx, s') => some (.non, back as s')
  | _ => none
def spF (K : PySem.W.Frag) (n : Nat) (f : List Sl → Option (D × Sd)) : Sp := fun vs H Q _ => vs.length = n ∧ ∃ S as, Rep K S H as (vs.map some) ∧ (∀ (i : Nat) (ds : OD), as[i]? ≠ some (.ow false ds)) ∧ match f as with
  | none => False
  | some (d, as') => ∀ v S' H', Go K S H as (vs.map some) S' H' as' (vs.map some) → Dt K S' v d → Q v H'
theorem back_len (as s' : Sd) : (back as s').length = as.length := by unfold back; rw [List.length_mapIdx]
theorem back_get {as s' : Sd} {i : Nat} {x : Sl} (h : (back as s')[i]? = some x) : (∃ ds, as[i]? = some (.ow true ds) ∧ x = (s'[i]?).getD .no) ∨ ((∀ ds, as[i]? ≠ some (.ow true ds)) ∧ as[i]? = some x) := by
  unfold back at h
  rw [List.getElem?_mapIdx] at h
  cases e : as[i]? with
  | none => rw [e] at h; cases h
  | some y =>
    rw [e] at h
    cases y with
    | no => exact .inr ⟨fun ds z => (by cases z), h⟩
    | tr d => exact .inr ⟨fun ds z => (by cases z), h⟩
    | ow p ds =>
      cases p with
      | true => exact .inl ⟨ds, rfl, (Option.some.inj h).symm⟩
      | false => exact .inr ⟨fun ds z => (by cases z), h⟩
theorem go_back {S H S' H' : Hp} {as s' : Sd} {τ σ' : L2.St} {n : Nat} (r : Rep K S H as τ) (no : ∀ (i : Nat) (ds : OD), as[i]? ≠ some (.ow false ds))
    (g : Go K S H (as ++ List.replicate n .no) (τ ++ List.replicate n none) S' H' s' σ') : Go K S H as τ S' H' (back as s') τ := by
  have hl : as.length = τ.length := r.len.symm
  have low : ∀ (i : Nat) (x : Sl), as[i]? = some x → (as ++ List.replicate n .no)[i]? = some x := fun i x e => by rw [List.getElem?_append_left (getElem?_lt e)]; exact e
  have lowτ : ∀ (i : Nat) (x : Sl), as[i]? = some x → (τ ++ List.replicate n none)[i]? = τ[i]? := fun i x e => List.getElem?_append_left (by rw [← hl]; exact getElem?_lt e)
  have o1 : ∀ a, Own (as ++ List.replicate n .no) (τ ++ List.replicate n none) a → Own as τ a := by
    rintro a ⟨i, p, ds, h1, h2⟩
    by_cases hi : i < as.length
    · rw [List.getElem?_append_left hi] at h1
      rw [List.getElem?_append_left (by rw [← hl]; exact hi)] at h2
      exact ⟨i, p, ds, h1, h2⟩
    · rw [List.getElem?_append_right (by omega)] at h1
      have := List.mem_of_getElem? h1
      rw [List.mem_replicate] at this
      cases this.2
  have st : ∀ (i : Nat) (ds : OD), as[i]? = some (.ow true ds) → ∃ ds', s'[i]? = some (.ow true ds') ∧ σ'[i]? = τ[i]? := fun i ds e => by
    obtain ⟨ds', e1, e2⟩ := g.stay i ds (low i _ e)
    exact ⟨ds', e1, e2.trans (lowτ i _ e)⟩
  refine ⟨⟨g.rep.sub, by rw [back_len]; exact r.len, fun i d e => ?_, fun i p ds e => ?_, fun i j p q ds es a h1 h2 h3 h4 => ?_⟩, g.ext, fun a o e n' => g.keep a o e fun z => n' (o1 a z), fun a o => ?_, g.live, fun a e => ?_, fun i ds e => ?_, back_len _ _⟩
  · rcases back_get e with ⟨ds, e1, e2⟩ | ⟨_, e1⟩
    · obtain ⟨ds', e3, _⟩ := st i ds e1
      rw [e3] at e2; cases e2
    · obtain ⟨v, e3, q⟩ := r.tr i d e1
      exact ⟨v, e3, q.mono g.ext⟩
  · rcases back_get e with ⟨ds0, e1, e2⟩ | ⟨n1, e1⟩
    · obtain ⟨ds', e3, e4⟩ := st i ds0 e1
      rw [e3] at e2; cases e2
      have := g.rep.ow i _ _ e3
      rw [e4] at this
      exact this
    · cases p with
      | true => exact absurd e1 (n1 ds)
      | false => exact absurd e1 (no i ds)
  · have w : ∀ (i : Nat) (p : Bool) (ds : OD), (back as s')[i]? = some (.ow p ds) → ∃ ds', as[i]? = some (.ow true ds') := fun i p ds e => by
      rcases back_get e with ⟨ds0, e1, e2⟩ | ⟨n1, e1⟩
      · exact ⟨ds0, e1⟩
      · cases p with
        | true => exact absurd e1 (n1 ds)
        | false => exact absurd e1 (no i ds)
    obtain ⟨_, w1⟩ := w i p ds h1
    obtain ⟨_, w2⟩ := w j q es h2
    exact r.ne i j _ _ _ _ a w1 w2 h3 h4
  · obtain ⟨i, p, ds, h1, h2⟩ := o
    rcases back_get h1 with ⟨ds0, e1, e2⟩ | ⟨n1, e1⟩
    · exact .inl ⟨i, true, ds0, e1, h2⟩
    · exact .inl ⟨i, p, ds, e1, h2⟩
  · rcases g.grow a e with z | z | z
    · exact .inl z
    · exact .inr (.inl z)
    · exact .inr (.inr (o1 a z))
  · obtain ⟨ds', e1, _⟩ := st i ds e
    refine ⟨ds', ?_, rfl⟩
    unfold back
    rw [List.getElem?_mapIdx, e]
    show some ((s'[i]?).getD .no) = _
    rw [e1]
    rfl
theorem rep_start {S H : Hp} {as : Sd} {τ : L2.St} (n : Nat) (r : Rep K S H as τ) : Rep K S H (as ++ List.replicate n .no) (τ ++ List.replicate n none) := by
  have hl : as.length = τ.length := r.len.symm
  have low : ∀ (i : Nat) (x : Sl), (as ++ List.replicate n .no)[i]? = some x → x = .no ∨ (i < as.length ∧ as[i]? = some x) := fun i x e => by
    by_cases hi : i < as.length
    · rw [List.getElem?_append_left hi] at e; exact .inr ⟨hi, e⟩
    · rw [List.getElem?_append_right (by omega)] at e
      have := List.mem_of_getElem? e
      rw [List.mem_replicate] at this
      exact .inl this.2
  refine ⟨r.sub, by rw [List.length_append, List.length_append, List.length_replicate, List.length_replicate, r.len], fun i d e => ?_, fun i p ds e => ?_, fun i j p q ds es a h1 h2 h3 h4 => ?_⟩
  · rcases low i _ e with z | ⟨hi, z⟩
    · cases z
    · rw [List.getElem?_append_left (by rw [← hl]; exact hi)]
      exact r.tr i d z
  · rcases low i _ e with z | ⟨hi, z⟩
    · cases z
    · rw [List.getElem?_append_left (by rw [← hl]; exact hi)]
      exact r.ow i p ds z
  · rcases low i _ h1 with z | ⟨hi, z⟩
    · cases z
    · rcases low j _ h2 with y | ⟨hj, y⟩
      · cases y
      · rw [List.getElem?_append_left (by rw [← hl]; exact hi)] at h3
        rw [List.getElem?_append_left (by rw [← hl]; exact hj)] at h4
        exact r.ne i j p q ds es a z y h3 h4
theorem body_ok {vs : List V} {H : Hp} {Q : VK} {E : XK} {n : Nat} {N : List Str} {t : TS} {fb : FS} (hn : N.length - vs.length = N.length - n) (ok : SS K t fb) (h : spF K n (defF n N.length fb) vs H Q E) : t { nx := fun _ H' => Q .non H', rt := Q } (L2.start N vs) H := by
  obtain ⟨hl, S, as, r, no, h⟩ := h
  unfold L2.start
  rw [hn]
  refine ok S H _ _ _ (rep_start _ r) ?_
  unfold defF at h
  cases e : fb (as ++ List.replicate (N.length - n) .no) with
  | none => rw [e] at h; exact h.elim
  | some x =>
    obtain ⟨fl, s'⟩ := x
    rw [e] at h
    cases fl with
    | nx => exact fun S' H' σ' g => h _ S' H' (go_back r no g) .non
    | rt d => exact fun v S' H' σ' g q => h v S' H' (go_back r no g) q
    | rn ds => exact fun p ws S' H' σ' g e0 e1 e2 e3 q => h _ _ H' (go_back r no (g.adopt e2 e3 e0 e1)) (.lst upd_same (q.mono (same_upd e2)))
    | bk => exact h.elim
    | ct => exact h.elim
/-- a def that hands back a new list -/
def defN (np N : Nat) (fb : FS) : List Sl → Option (List D × Sd) := fun as => match fb (as ++ List.replicate (N - np) .no) with
  | some (.rn ds, s') => some (ds, back as s')
  | _ => none
def spN (K : PySem.W.Frag) (n : Nat) (f : List Sl → Option (List D × Sd)) : Sp := fun vs H Q _ => vs.length = n ∧ ∃ S as, Rep K S H as (vs.map some) ∧ (∀ (i : Nat) (ds : OD), as[i]? ≠ some (.ow false ds)) ∧ match f as with
  | none => False
  | some (ds, as') => ∀ p ws S' H', Go K S H as (vs.map some) S' H' as' (vs.map some) → H p = none → H' p = some (.lst ws) → S' p = none → DtA K S' ws ds → Q (.ref p) H'
theorem bodyN_ok {vs : List V} {H : Hp} {Q : VK} {E : XK} {n : Nat} {N : List Str} {t : TS} {fb : FS} (hn : N.length - vs.length = N.length - n) (ok : SS K t fb) (h : spN K n (defN n N.length fb) vs H Q E) : t { nx := fun _ H' => Q .non H', rt := Q } (L2.start N vs) H := by
  obtain ⟨hl, S, as, r, no, h⟩ := h
  unfold L2.start
  rw [hn]
  refine ok S H _ _ _ (rep_start _ r) ?_
  unfold defN at h
  cases e : fb (as ++ List.replicate (N.length - n) .no) with
  | none => rw [e] at h; exact h.elim
  | some x =>
    obtain ⟨fl, s'⟩ := x
    rw [e] at h
    cases fl with
    | nx => exact h.elim
    | rt d => exact h.elim
    | rn ds => exact fun p ws S' H' σ' g e0 e1 e2 e3 q => h p ws S' H' (go_back r no g) e0 e1 e2 q
    | bk => exact h.elim
    | ct => exact h.elim
variable {P : Program} {w : World} {mg : Str → Option Value} {base : Heap}
theorem defN_ok {x qual : Str} {st : Stmt} {f : Addr} {fd : FuncData} {N ps : List Str} {k : Nat} {fb : FS} (F : Fun K x qual st f fd) (Sc : FnScope N ps (defScope st))
    (hb : ∀ (cdv : Value) (A : Around) (outer : List Env) (s : Shared) (H : Hp) (E : XK), Room k (A.deeper (envOfC qual (defScope st) s.heap.objs.size f cdv)) →
      ∃ t, PDss (cxOf CX0 P w K mg base N qual (defScope st) f cdv A outer s H E).nox (defBody st) t fb) : FnOk P w K mg base CX0 (k + 1) f fd ps (spN K ps.length (defN ps.length N.length fb)) := by
  refine F.ok Sc (fun vs H Q E h => h.1) (fun cdv A outer s H vs Q E hr h => ?_)
  obtain ⟨t, ht⟩ := hb cdv A outer s H E hr
  exact ⟨t, ht.ps, bodyN_ok (by rw [h.1]) ht.ok h⟩
theorem def_ok {x qual : Str} {st : Stmt} {f : Addr} {fd : FuncData} {N ps : List Str} {k : Nat} {fb : FS} (F : Fun K x qual st f fd) (Sc : FnScope N ps (defScope st))
    (hb : ∀ (cdv : Value) (A : Around) (outer : List Env) (s : Shared) (H : Hp) (E : XK), Room k (A.deeper (envOfC qual (defScope st) s.heap.objs.size f cdv)) →
      ∃ t, PDss (cxOf CX0 P w K mg base N qual (defScope st) f cdv A outer s H E).nox (defBody st) t fb) : FnOk P w K mg base CX0 (k + 1) f fd ps (spF K ps.length (defF ps.length N.length fb)) := by
  refine F.ok Sc (fun vs H Q E h => h.1) (fun cdv A outer s H vs Q E hr h => ?_)
  obtain ⟨t, ht⟩ := hb cdv A outer s H E hr
  exact ⟨t, ht.ps, body_ok (by rw [h.1]) ht.ok h⟩

/-! ### calls of defs -/
theorem rep_args {S H : Hp} : ∀ {vs : List V} {ds : List D}, Same S H → DtA K S vs ds → Rep K S H (ds.map Sl.tr) (vs.map some) := fun {vs ds} sm q => by
  refine ⟨sm, by rw [List.length_map, List.length_map, q.length], fun i d e => ?_, fun i p es e => ?_, fun i j p _ es fs a h1 h2 _ _ => ?_⟩
  · rw [List.getElem?_map] at e
    cases e1 : ds[i]? with
    | none => rw [e1] at e; cases e
    | some d' =>
      rw [e1] at e
      cases e
      obtain ⟨v, e2, dv⟩ := q.get e1
      exact ⟨v, by rw [List.getElem?_map, e2]; rfl, dv⟩
  · rw [List.getElem?_map] at e
    cases e1 : ds[i]? with
    | none => rw [e1] at e; cases e
    | some d' => rw [e1] at e; cases e
  · rw [List.getElem?_map] at h1
    cases e1 : ds[i]? with
    | none => rw [e1] at h1; cases h1
    | some d' => rw [e1] at h1; cases h1
theorem no_own {ds : List D} {τ : L2.St} {a : Addr} : ¬ Own (ds.map Sl.tr) τ a := by
  rintro ⟨i, p, es, h1, _⟩
  rw [List.getElem?_map] at h1
  cases e1 : ds[i]? with
  | none => rw [e1] at h1; cases h1
  | some d' => rw [e1] at h1; cases h1
theorem no_ol {ds : List D} {p : Bool} (i : Nat) (es : OD) : (ds.map Sl.tr)[i]? ≠ some (.ow p es) := fun h1 => by
  rw [List.getElem?_map] at h1
  cases e1 : ds[i]? with
  | none => rw [e1] at h1; cases h1
  | some d' => rw [e1] at h1; cases h1
theorem go_al {S H S' H' : Hp} {ds : List D} {as' : Sd} {τ : L2.St} (g : Go K S H (ds.map Sl.tr) τ S' H' as' τ) : Al S H S' H' := ⟨g.ext, fun a o e => g.keep a o e no_own, g.rep.sub, fun a e => by
  rcases g.grow a e with z | z | z
  · exact .inl z
  · exact .inr z
  · exact absurd z no_own⟩
def fCall (n : Nat) (g : List Sl → Option (D × Sd)) (fr : FA) : FE := fun s => match fr s with
  | none => none
  | some (ds, s1) => if ds.length = n then (match g (ds.map Sl.tr) with
    | none => none
    | some (d, _) => some (d, s1)) else none
theorem se_call {n : Nat} {g : List Sl → Option (D × Sd)} {tr : TA} {fr : FA} {E : XK} (h : SA K tr fr) : SE K (tCall (spF K n g) [] E tr) (fCall n g fr) := by
  intro S H s σ Q r q
  unfold fCall at q
  cases e : fr s with
  | none => rw [e] at q; exact q.elim
  | some x =>
    obtain ⟨ds, s1⟩ := x
    rw [e] at q
    simp only at q
    refine h.use r e fun vs S1 H1 g1 d => ?_
    rw [List.append_nil]
    by_cases c : ds.length = n
    · rw [if_pos c] at q
      refine ⟨by rw [d.length]; exact c, S1, ds.map Sl.tr, rep_args g1.rep.sub d, fun i es => no_ol i es, ?_⟩
      cases e2 : g (ds.map Sl.tr) with
      | none => rw [e2] at q; exact q.elim
      | some y =>
        obtain ⟨z, as'⟩ := y
        rw [e2] at q
        exact fun v S' H' g2 dv => q v S' H' (g1.trans ((go_al g2).go g1.rep)) dv
    · rw [if_neg c] at q; exact q.elim
theorem pd_call {CX : CXT} {k : Nat} {f : Addr} {fd : FuncData} {ps : List Str} {n : Nat} {g : List Sl → Option (D × Sd)} {E : XK} {x : Str} {p pos : Pos} {e : Expr} {es : List Expr} {tr : TA} {fr : FA} (F : FnOk X.prog X.w X.K X.mg X.base CX k f fd ps (spF X.K n g)) (hr : Room k X.A) (hg : Gl X x) (hm : X.mg x = some (.ref f)) (hk : PySem.W.keepIn X.K (.ref f) = true) (hb : Binds X.K fd ps []) (hx : Passes CX X E)
    (ha : PDa X (e :: es) tr fr) (hdb : (x == ("__debug__" : Str)) = false := by decide) (he : starEach (e :: es) X.env = (false, eval e X.env) :: starEach es X.env := by rfl) (hpl : (backTo pos (starEach es X.env)).any (·.1) = false := by rfl) :
    PD X (.Call (.Name x p) (e :: es) [] pos) (tCall (spF X.K n g) [] E tr) (fCall n g fr) := ⟨pe_call F hr hg hm hk hb .nil hx ha.pe hdb he hpl, se_call ha.ok⟩
/-- the first argument is an own list -/
def fCallO (n : Nat) (g : List Sl → Option (D × Sd)) (i : Nat) (fr : FA) : FE := fun s => match s[i]? with
  | some (.ow _ _) => match fr s with
    | none => none
    | some (ds, s1) => match s1[i]? with
      | some (.ow p xs) => if ds.length + 1 = n then (match g (.ow true xs :: ds.map Sl.tr) with
        | some (d, .ow true xs' :: _) => some (d, s1.set i (.ow p xs'))
        | _ => none) else none
      | _ => none
  | _ => none
theorem se_callO {n : Nat} {g : List Sl → Option (D × Sd)} {i : Nat} {tr : TA} {fr : FA} {E : XK} (h : SA K tr fr) : SE K (tCall (spF K n g) [] E (tCons (tVar i) tr)) (fCallO n g i fr) := by
  intro S H s σ Q r q
  unfold fCallO at q
  split at q
  · rename_i p0 ds0 e0
    obtain ⟨a0, vs0, h1, h2, h3, h4⟩ := r.ow i _ _ e0
    refine ⟨_, h1, ?_⟩
    cases e : fr s with
    | none => rw [e] at q; exact q.elim
    | some x =>
      obtain ⟨ds, s1⟩ := x
      rw [e] at q
      simp only at q
      refine h.use r e fun vs S1 H1 g1 d => ?_
      show spF K n g ((V.ref a0 :: vs) ++ []) H1 Q E
      rw [List.append_nil]
      split at q
      · rename_i p xs e1
        obtain ⟨a, ws, k1, k2, k3, k4⟩ := g1.rep.ow i p xs e1
        have ea : a = a0 := ref_inj k1 h1
        subst ea
        by_cases c : ds.length + 1 = n
        · rw [if_pos c] at q
          have rr := rep_args g1.rep.sub d
          have rep : Rep K S1 H1 (.ow true xs :: ds.map Sl.tr) ((V.ref a :: vs).map some) := by
            refine ⟨g1.rep.sub, by rw [List.length_map, List.length_cons, List.length_cons, List.length_map, d.length], fun j e' hj => ?_, fun j p' es hj => ?_, fun j j' p1 p2 es fs b hj hj' q1 q2 => ?_⟩
            · cases j with
              | zero => cases hj
              | succ j => exact rr.tr j e' hj
            · cases j with
              | zero =>
                cases hj
                exact ⟨a, ws, rfl, k2, k3, k4⟩
              | succ j => exact absurd hj (no_ol j es)
            · cases j with
              | zero =>
                cases j' with
                | zero => rfl
                | succ j' => exact absurd hj' (no_ol j' fs)
              | succ j => exact absurd hj (no_ol j es)
          have own1 : ∀ b, Own (.ow true xs :: ds.map Sl.tr) ((V.ref a :: vs).map some) b ↔ b = a := fun b => by
            constructor
            · rintro ⟨j, p', es, hj, hb⟩
              cases j with
              | zero =>
                have hb : some (some (V.ref a)) = some (some (V.ref b)) := hb
                cases hb
                rfl
              | succ j => exact absurd hj (no_ol j es)
            · rintro rfl
              exact ⟨0, true, xs, rfl, rfl⟩
          have ownA : Own s1 σ a := ⟨i, p, xs, e1, k1⟩
          refine ⟨by rw [List.length_cons, d.length]; exact c, S1, _, rep, fun j es hj => ?_, ?_⟩
          · cases j with
            | zero => cases hj
            | succ j => exact absurd hj (no_ol j es)
          · split at q
            · rename_i z xs' as' e2
              rw [e2]
              intro v S2 H2 g2 dv
              obtain ⟨b, ws', m1, m2, m3, m4⟩ := g2.rep.ow 0 true xs' rfl
              have hb : a = b := by
                have m1 : some (some (V.ref a)) = some (some (V.ref b)) := m1
                cases m1
                rfl
              subst hb
              -- the callee's run, seen from the caller
              have hx : ∀ (j : Nat) (x : Sl), (s1.set i (.ow p xs'))[j]? = some x → (j = i ∧ x = .ow p xs') ∨ (j ≠ i ∧ s1[j]? = some x) := fun j x hj => by
                by_cases hji : i = j
                · subst hji
                  rw [List.getElem?_set_self (getElem?_lt e1)] at hj
                  exact .inl ⟨rfl, (Option.some.inj hj).symm⟩
                · rw [List.getElem?_set_ne hji] at hj
                  exact .inr ⟨fun z => hji z.symm, hj⟩
              have go : Go K S1 H1 s1 σ S2 H2 (s1.set i (.ow p xs')) σ := by
                refine ⟨⟨g2.rep.sub, by rw [List.length_set]; exact g1.rep.len, fun j e' hj => ?_, fun j p' es hj => ?_, fun j j' p1 p2 es fs b hj hj' q1 q2 => ?_⟩, g2.ext, fun b o hb hn => g2.keep b o hb fun z => ?_, fun b hb => ?_, g2.live, fun b hb => ?_, fun j es hj => ?_, List.length_set⟩
                · rcases hx j _ hj with ⟨_, z⟩ | ⟨_, z⟩
                  · cases z
                  · obtain ⟨v', f1, f2⟩ := g1.rep.tr j e' z
                    exact ⟨v', f1, f2.mono g2.ext⟩
                · rcases hx j _ hj with ⟨z1, z⟩ | ⟨z1, z⟩
                  · cases z
                    subst z1
                    exact ⟨a, ws', k1, m2, m3, m4⟩
                  · obtain ⟨b, us, f1, f2, f3, f4⟩ := g1.rep.ow j p' es z
                    have hba : b ≠ a := fun y => by subst y; exact z1 (g1.rep.ne j i p' p es xs b z e1 f1 k1)
                    have nb : ¬ Own (.ow true xs :: ds.map Sl.tr) ((V.ref a :: vs).map some) b := fun y => hba ((own1 b).mp y)
                    refine ⟨b, us, f1, g2.keep b _ f2 nb, none_of fun y => ?_, f4.mono g2.ext⟩
                    rcases g2.grow b y with w | w | w
                    · exact w f3
                    · rw [f2] at w; cases w
                    · exact nb w
                · have gg : ∀ (m : Nat) (p3 : Bool) (gs : OD), (s1.set i (.ow p xs'))[m]? = some (.ow p3 gs) → ∃ p4 gs', s1[m]? = some (.ow p4 gs') := fun m p3 gs hm => by
                    rcases hx m _ hm with ⟨z1, z⟩ | ⟨_, z⟩
                    · subst z1; exact ⟨_, _, e1⟩
                    · exact ⟨_, _, z⟩
                  obtain ⟨_, _, w1⟩ := gg j p1 es hj
                  obtain ⟨_, _, w2⟩ := gg j' p2 fs hj'
                  exact g1.rep.ne j j' _ _ _ _ b w1 w2 q1 q2
                · cases (own1 b).mp z
                  exact hn ownA
                · obtain ⟨j, p3, gs, w1, w2⟩ := hb
                  rcases hx j _ w1 with ⟨z1, z⟩ | ⟨_, z⟩
                  · subst z1; exact .inl ⟨j, p, xs, e1, w2⟩
                  · exact .inl ⟨j, p3, gs, z, w2⟩
                · rcases g2.grow b hb with w | w | w
                  · exact .inl w
                  · exact .inr (.inl w)
                  · cases (own1 b).mp w
                    exact .inr (.inr ownA)
                · by_cases hji : i = j
                  · subst hji
                    rw [e1] at hj; cases hj
                    exact ⟨xs', List.getElem?_set_self (getElem?_lt e1), rfl⟩
                  · exact ⟨es, by rw [List.getElem?_set_ne hji]; exact hj, rfl⟩
              exact q v S2 H2 (g1.trans go) dv
            · exact q.elim
        · rw [if_neg c] at q; exact q.elim
      · exact q.elim
  · exact q.elim
theorem pd_callO (i : Nat) {CX : CXT} {k : Nat} {f : Addr} {fd : FuncData} {ps : List Str} {n : Nat} {g : List Sl → Option (D × Sd)} {E : XK} {x : Str} {p pos : Pos} {e : Expr} {es : List Expr} {tr : TA} {fr : FA} (F : FnOk X.prog X.w X.K X.mg X.base CX k f fd ps (spF X.K n g)) (hr : Room k X.A) (hg : Gl X x) (hm : X.mg x = some (.ref f)) (hk : PySem.W.keepIn X.K (.ref f) = true) (hb : Binds X.K fd ps []) (hx : Passes CX X E)
    (h1 : PE X e (tVar i)) (ha : PDa X es tr fr) (hs : starEach (e :: es) X.env = (false, eval e X.env) :: starEach es X.env := by rfl) (hdb : (x == ("__debug__" : Str)) = false := by decide) (hpl : (backTo pos (starEach es X.env)).any (·.1) = false := by rfl) :
    PD X (.Call (.Name x p) (e :: es) [] pos) (tCall (spF X.K n g) [] E (tCons (tVar i) tr)) (fCallO n g i fr) := ⟨pe_call F hr hg hm hk hb .nil hx (pa_cons h1 ha.pe hs) hdb hs hpl, se_callO ha.ok⟩
/-- x = f(..), the answer a new list -/
theorem Go.setO {S H S' H' : Hp} {s s' : Sd} {σ σ' : L2.St} (g : Go K S H s σ S' H' s' σ') {i : Nat} {a : Addr} {vs : HO} {ds : OD} (hi : i < s'.length) (hn : ∀ ds, s'[i]? ≠ some (.ow true ds)) (h0 : H a = none) (ha : H' a = some vs) (hS : S' a = none) (hO : ¬ Own s' σ' a) (q : OdR K S' vs ds) :
    Go K S H s σ S' H' (s'.set i (.ow false ds)) (σ'.set i (some (.ref a))) := by
  have r := g.rep
  have hi' : i < σ'.length := by rw [r.len]; exact hi
  have hx : ∀ (j : Nat) (x : Sl), (s'.set i (.ow false ds))[j]? = some x → (j = i ∧ x = .ow false ds) ∨ (i ≠ j ∧ s'[j]? = some x) := fun j x h => by
    by_cases hj : i = j
    · subst hj
      rw [List.getElem?_set_self hi] at h
      exact .inl ⟨rfl, (Option.some.inj h).symm⟩
    · rw [List.getElem?_set_ne hj] at h
      exact .inr ⟨hj, h⟩
  refine ⟨⟨r.sub, by rw [List.length_set, List.length_set]; exact r.len, fun j e h => ?_, fun j p' es h => ?_, fun j k p1 p2 es fs b h1 h2 h3 h4 => ?_⟩, g.ext, g.keep, fun b h => ?_, g.live, g.grow, fun j es h => ?_, by rw [List.length_set]; exact g.lens⟩
  · rcases hx j _ h with ⟨z1, z⟩ | ⟨z1, z⟩
    · cases z
    · obtain ⟨w, q1, q2⟩ := r.tr j e z
      exact ⟨w, by rw [List.getElem?_set_ne z1]; exact q1, q2⟩
  · rcases hx j _ h with ⟨z1, z⟩ | ⟨z1, z⟩
    · cases z
      subst z1
      exact ⟨a, vs, List.getElem?_set_self hi', ha, hS, q⟩
    · obtain ⟨b, ws, f3, f4, f5⟩ := r.ow j p' es z
      exact ⟨b, ws, by rw [List.getElem?_set_ne z1]; exact f3, f4, f5⟩
  · have no : ∀ (j : Nat) (p : Bool) (es : OD), s'[j]? = some (.ow p es) → σ'[j]? ≠ some (some (.ref a)) := fun j p es h z => hO ⟨j, p, es, h, z⟩
    rcases hx j _ h1 with ⟨z1, z⟩ | ⟨z1, z⟩
    · rcases hx k _ h2 with ⟨y1, y⟩ | ⟨y1, y⟩
      · rw [z1, y1]
      · subst z1
        rw [List.getElem?_set_self hi'] at h3
        rw [List.getElem?_set_ne y1] at h4
        injection h3 with h3; injection h3 with h3; injection h3 with h3
        subst h3
        exact absurd h4 (no k _ _ y)
    · rcases hx k _ h2 with ⟨y1, y⟩ | ⟨y1, y⟩
      · subst y1
        rw [List.getElem?_set_self hi'] at h4
        rw [List.getElem?_set_ne z1] at h3
        injection h4 with h4; injection h4 with h4; injection h4 with h4
        subst h4
        exact absurd h3 (no j _ _ z)
      · rw [List.getElem?_set_ne z1] at h3
        rw [List.getElem?_set_ne y1] at h4
        exact r.ne j k _ _ _ _ b z y h3 h4
  · obtain ⟨j, p3, gs, h1, h2⟩ := h
    rcases hx j _ h1 with ⟨z1, z⟩ | ⟨z1, z⟩
    · subst z1
      rw [List.getElem?_set_self hi'] at h2
      injection h2 with h2; injection h2 with h2; injection h2 with h2
      subst h2
      exact .inr h0
    · rw [List.getElem?_set_ne z1] at h2
      exact g.own b ⟨j, p3, gs, z, h2⟩
  · obtain ⟨ds', e1, e2⟩ := g.stay j es h
    have hj : i ≠ j := fun z => by subst z; exact hn ds' e1
    exact ⟨ds', by rw [List.getElem?_set_ne hj]; exact e1, by rw [List.getElem?_set_ne hj]; exact e2⟩
def fSetN (n : Nat) (g : List Sl → Option (List D × Sd)) (fr : FA) (i : Nat) : FS := fun s => match fr s with
  | none => none
  | some (ds, s1) => if ds.length = n ∧ i < s1.length then (match s1[i]? with
    | some (.ow true _) => none
    | _ => match g (ds.map Sl.tr) with
      | none => none
      | some (es, _) => some (.nx, s1.set i (.ow false (.l es)))) else none
theorem ss_setN {n : Nat} {g : List Sl → Option (List D × Sd)} {tr : TA} {fr : FA} {E : XK} {i : Nat} (h : SA K tr fr) : SS K (tAsg (tCall (spN K n g) [] E tr) (gName i)) (fSetN n g fr i) := by
  intro S H s σ N r q
  unfold fSetN at q
  cases e : fr s with
  | none => rw [e] at q; exact q.elim
  | some x =>
    obtain ⟨ds, s1⟩ := x
    rw [e] at q
    simp only at q
    refine h.use r e fun vs S1 H1 g1 d => ?_
    rw [List.append_nil]
    by_cases c : ds.length = n ∧ i < s1.length
    · rw [if_pos c] at q
      have hn : ∀ es, s1[i]? ≠ some (.ow true es) := fun es z => by rw [z] at q; exact q.elim
      have q2 : QS K (match g (ds.map Sl.tr) with
        | none => none
        | some (es, _) => some (Fl.nx, s1.set i (.ow false (.l es)))) S H s σ N := by
        cases e3 : s1[i]? with
        | none => rw [e3] at q; exact q
        | some y =>
          rw [e3] at q
          cases y with
          | no => exact q
          | tr _ => exact q
          | ow p es =>
            cases p with
            | true => exact absurd e3 (hn es)
            | false => exact q
      refine ⟨by rw [d.length]; exact c.1, S1, ds.map Sl.tr, rep_args g1.rep.sub d, fun i es => no_ol i es, ?_⟩
      cases e2 : g (ds.map Sl.tr) with
      | none => rw [e2] at q2; exact q2.elim
      | some y =>
        obtain ⟨es, as'⟩ := y
        rw [e2] at q2
        intro p ws S' H' g2 p0 p1 p2 dv
        have g3 := g1.trans ((go_al g2).go g1.rep)
        have nO : ¬ Own s1 σ p := by
          rintro ⟨j, p', fs, h1, h2⟩
          obtain ⟨b, us, e1, e2, _⟩ := g1.rep.ow j p' fs h1
          cases ref_inj h2 e1
          rw [p0] at e2; cases e2
        exact q2 _ _ _ (g3.setO c.2 hn (g1.live p p0) p1 p2 nO (.l dv))
    · rw [if_neg c] at q; exact q.elim
theorem ds_setN (i : Nat) {CX : CXT} {k : Nat} {f : Addr} {fd : FuncData} {ps : List Str} {n : Nat} {g : List Sl → Option (List D × Sd)} {E : XK} {x y : Str} {p pos pos' spos : Pos} {e : Expr} {es : List Expr} {tr : TA} {fr : FA} (hN : X.N.Nodup) (hi : X.N[i]? = some y) (hy : Loc X.env.scope y) (F : FnOk X.prog X.w X.K X.mg X.base CX k f fd ps (spN X.K n g)) (hr : Room k X.A) (hg : Gl X x) (hm : X.mg x = some (.ref f)) (hk : PySem.W.keepIn X.K (.ref f) = true) (hb : Binds X.K fd ps []) (hx : Passes CX X E)
    (ha : PDa X (e :: es) tr fr) (hs : swapsWith (.Call (.Name x p) (e :: es) [] pos) (some (.Name y pos')) spos.line X.env = pure false := by rfl) (hf : X.fn y = true ∨ X.env.scope.names.lookup y = some .local := by first | exact .inl rfl | exact .inr rfl | assumption) (hdb : (x == ("__debug__" : Str)) = false := by decide) (he : starEach (e :: es) X.env = (false, eval e X.env) :: starEach es X.env := by rfl) (hpl : (backTo pos (starEach es X.env)).any (·.1) = false := by rfl) :
    PDs X (.Assign [.Name y pos'] (.Call (.Name x p) (e :: es) [] pos) spos) (tAsg (tCall (spN X.K n g) [] E tr) (gName i)) (fSetN n g fr i) := ⟨ps_set hN hi hy (pe_call F hr hg hm hk hb .nil hx ha.pe hdb he hpl) hs hf, ss_setN ha.ok⟩
/-- f(e, ..) of def f(*xs) -/
def fCallS (g : List Sl → Option (D × Sd)) (fr : FA) : FE := fun s => match fr s with
  | none => none
  | some (ds, s1) => if ds.length ≤ 100000 then (match g [.tr (.tup ds)] with
    | none => none
    | some (d, _) => some (d, s1)) else none
def spStar (sp : Sp) : Sp := fun vs H Q E => ∃ ws rest, vs = ws ++ rest ∧ ws.length = ([] : List Str).length ∧ rest.length ≤ sizeLine ∧ ∀ p, H p = Option.none → sp (ws ++ [V.ref p]) (upd H p (.tup rest)) Q E
theorem se_callS {g : List Sl → Option (D × Sd)} {tr : TA} {fr : FA} {E : XK} (h : SA K tr fr) : SE K (fun σ H Q => tr σ H fun vs H1 => spStar (spF K 1 g) vs H1 Q E) (fCallS g fr) := by
  intro S H s σ Q r q
  unfold fCallS at q
  cases e : fr s with
  | none => rw [e] at q; exact q.elim
  | some x =>
    obtain ⟨ds, s1⟩ := x
    rw [e] at q
    simp only at q
    refine h.use r e fun vs S1 H1 g1 d => ?_
    by_cases c : ds.length ≤ 100000
    · rw [if_pos c] at q
      refine ⟨[], vs, rfl, rfl, sz_of (by rw [d.length]; exact c), fun p hp => ?_⟩
      have al := Al.new (o := HO.tup vs) g1.rep.sub hp
      have d1 : DtA K (upd S1 p (.tup vs)) [V.ref p] [.tup ds] := .cons (.tup (.inl (.inl upd_same)) (d.mono al.ext)) .nil
      refine ⟨rfl, _, [.tr (.tup ds)], rep_args al.sub d1, fun i es => no_ol (ds := [.tup ds]) i es, ?_⟩
      cases e2 : g [.tr (.tup ds)] with
      | none => rw [e2] at q; exact q.elim
      | some y =>
        obtain ⟨z, as'⟩ := y
        rw [e2] at q
        exact fun v S' H' g2 dv => q v S' H' (g1.trans ((al.trans (go_al (ds := [.tup ds]) g2)).go g1.rep)) dv
    · rw [if_neg c] at q; exact q.elim
end
end DL
namespace DL
open PySem PySem.Spec PyProof.Rows L2

section
variable {X : Cx} {K : PySem.W.Frag} {e : Expr} {es : List Expr} {te ta tb : TE} {fe fa fb : FE} {tr : TA} {fr : FA}
/-! ### isinstance -/
def D.tyN : D → String
  | .non => "NoneType"
  | .bl _ => "bool"
  | .int _ => "int"
  | .str _ => "str"
  | .tup _ => "tuple"
  | .lst _ => "list"
  | .rl _ => "list"
  | .dK _ => "dict"
  | .dT _ => "dict"
  | .ex _ => "?"
  | .exf _ _ _ => "?"
def D.isX : D → Bool
  | .ex _ => true
  | .exf _ _ _ => true
  | _ => false
theorem Dt.tyx {S H : Hp} {v : V} {d : D} (sm : Same S H) (h : Dt K S v d) (nx : d.isX = false) : TyX K H v (.type d.tyN) := by
  cases h with
  | ex _ => cases nx
  | exf _ _ _ => cases nx
  | non => exact .base .non
  | bl b => exact .base (.bl b)
  | int i => exact .base (.int i)
  | str x => exact .base (.str x)
  | dK ha _ => exact .base (.dK (sm _ _ ha))
  | dT ha _ => exact .base (.dT (sm _ _ ha))
  | lst ha _ => exact .base (.lst (sm _ _ ha))
  | rl ha _ =>
    rcases ha with (ha | ⟨o, ha⟩) | ⟨o, its, n, e1, e2, _⟩
    · exact .base (.lst (sm _ _ ha))
    · exact .base (.frz (sm _ _ ha))
    · exact .kList e1 e2
  | tup ha _ =>
    rcases ha with (ha | ⟨o, ha⟩) | ⟨o, its, n, e1, e2, _⟩
    · exact .base (.tup (sm _ _ ha))
    · exact .fTuple (sm _ _ ha)
    · exact .kTuple e1 e2
/-- the answer of isinstance(x, T), T built in -/
def fIsi (T : String) (f : FE) : FE := fun s => match f s with
  | some (d, s1) => match (if d.isX then none else kitB d.tyN T) with
    | some b => some (.bl b, s1)
    | none => none
  | none => none
theorem se_isi {T : String} (h : SE K ta fa) : SE K (tCB (rIsi K) (tCons ta (tCons (tC (.ty T)) tNil))) (fIsi T fa) := by
  intro S H s σ Q r q
  unfold fIsi at q
  cases e : fa s with
  | none => rw [e] at q; exact q.elim
  | some x =>
    obtain ⟨d, s1⟩ := x
    rw [e] at q
    simp only at q
    refine h.use r e fun v S1 H1 g dv => ?_
    cases nx : d.isX with
    | true => rw [nx] at q; exact q.elim
    | false =>
      rw [nx] at q
      cases e2 : kitB d.tyN T with
      | none => simp only [Bool.false_eq_true, if_false, e2] at q; exact q.elim
      | some b =>
        simp only [Bool.false_eq_true, if_false, e2] at q
        exact ⟨v, .ty T, _, _, b, rfl, .ty T, dv.tyx g.rep.sub nx, kit_ty e2, q _ S1 H1 g (.bl b)⟩
theorem pd_isi (T : String) {x : Str} {p p2 pos : Pos} {a : Expr} (hg : Gl X "isinstance") (hm : X.mg "isinstance" = none) (hgT : Gl X x) (hmT : X.mg x = none) (hvT : bootBuiltins x = some (.type T)) (h : PD X a ta fa)
    (hs : starEach [a, .Name x p2] X.env = (false, eval a X.env) :: starEach [.Name x p2] X.env := by rfl) (hs2 : starEach [.Name x p2] X.env = (false, eval (.Name x p2) X.env) :: starEach [] X.env := by rfl)
    (hpl : (backTo pos (starEach [.Name x p2] X.env)).any (·.1) = false := by rfl) (hn : x ≠ "__name__" := by decide) (hdb : (x == ("__debug__" : Str)) = false := by decide) :
    PD X (.Call (.Name "isinstance" p) [a, .Name x p2] [] pos) (tCB (rIsi X.K) (tCons ta (tCons (tC (.ty T)) tNil))) (fIsi T fa) :=
  ⟨pe_callB call_isi hg hm (by decide +kernel) (pa_cons h.pe (pa_cons (pe_bltn hgT hmT hvT rfl hn hdb) pa_nil hs2) hs) (by decide) (by decide) hs hpl, se_isi h.ok⟩

/-- {} -/
theorem pd_dnew {pos : Pos} : PD X (.Dict [] [] pos) tDNewK (fun s => some (.dK [], s)) := ⟨pe_dnewK, fun S H s σ Q r q p hp => by
  have al := Al.new (o := HO.dK []) r.sub hp
  exact q _ _ _ (al.go r) (.dK upd_same .nil)⟩
/-! ### built-ins on data -/
def gLen : List D → Option D
  | [.lst ds] => some (.int ds.length)
  | [.rl ds] => some (.int ds.length)
  | [.tup ds] => some (.int ds.length)
  | [.str x] => if x.length ≤ sizeLine then some (.int x.length) else none
  | _ => none
theorem cs_len : CallS K (fun xs H Q => ∃ x n, xs = [x] ∧ LenV K x H n ∧ Q (.int n) H) gLen := by
  intro S H vs ds z Q sm d e q
  cases d with
  | nil => cases e
  | cons d1 d =>
    cases d with
    | cons _ _ => unfold gLen at e; split at e <;> simp_all
    | nil =>
      cases d1 with
      | lst ha da =>
        cases e
        exact ⟨_, _, rfl, .inl ⟨_, .inl (.inl (sm _ _ ha)), rfl⟩, by rw [da.length]; exact q _ S H (Al.refl sm) (.int _)⟩
      | rl ha da =>
        cases e
        exact ⟨_, _, rfl, .inl ⟨_, sm.seq ha, rfl⟩, by rw [da.length]; exact q _ S H (Al.refl sm) (.int _)⟩
      | tup ha da =>
        cases e
        exact ⟨_, _, rfl, .inr ⟨_, same_t sm ha, rfl⟩, by rw [da.length]; exact q _ S H (Al.refl sm) (.int _)⟩
      | str x =>
        unfold gLen at e
        simp only at e
        split at e
        · rename_i c
          cases e
          exact ⟨_, _, rfl, ⟨c, rfl⟩, q _ S H (Al.refl sm) (.int _)⟩
        · cases e
      | _ => cases e
theorem da1 {S : Hp} {vs : List V} {d : D} (h : DtA K S vs [d]) : ∃ v, vs = [v] ∧ Dt K S v d := by
  cases h with
  | cons h1 h2 => cases h2; exact ⟨_, rfl, h1⟩
theorem da2 {S : Hp} {vs : List V} {d e : D} (h : DtA K S vs [d, e]) : ∃ v w, vs = [v, w] ∧ Dt K S v d ∧ Dt K S w e := by
  cases h with
  | cons h1 h2 =>
    cases h2 with
    | cons h2 h3 => cases h3; exact ⟨_, _, rfl, h1, h2⟩
def gAbs : List D → Option D
  | [.int i] => some (.int (if i < 0 then -i else i))
  | _ => none
theorem cs_abs : CallS K (fun xs H Q => ∃ i, xs = [.int i] ∧ Q (.int (if i < 0 then -i else i)) H) gAbs := by
  intro S H vs ds z Q sm d e q
  unfold gAbs at e
  split at e
  · obtain ⟨v, rfl, h⟩ := da1 d
    cases h
    cases e
    exact ⟨_, rfl, q _ S H (Al.refl sm) (.int _)⟩
  · cases e
def gInt : List D → Option D
  | [.int i] => some (.int i)
  | [.bl k] => some (.int (if k then 1 else 0))
  | _ => none
theorem cs_int : CallS K (fun xs H Q => (∃ i, xs = [.int i] ∧ Q (.int i) H) ∨ ∃ k, xs = [.bl k] ∧ Q (.int (if k then 1 else 0)) H) gInt := by
  intro S H vs ds z Q sm d e q
  unfold gInt at e
  split at e
  · obtain ⟨v, rfl, h⟩ := da1 d
    cases h
    cases e
    exact .inl ⟨_, rfl, q _ S H (Al.refl sm) (.int _)⟩
  · obtain ⟨v, rfl, h⟩ := da1 d
    cases h
    cases e
    exact .inr ⟨_, rfl, q _ S H (Al.refl sm) (.int _)⟩
  · cases e
def gGcd : List D → Option D
  | [.int a, .int b] => some (.int ((Nat.gcd a.natAbs b.natAbs : Nat) : Int))
  | _ => none
theorem cs_gcd : CallS K rGcd gGcd := by
  intro S H vs ds z Q sm d e q
  unfold gGcd at e
  split at e
  · obtain ⟨v, w, rfl, h1, h2⟩ := da2 d
    cases h1
    cases h2
    cases e
    exact ⟨_, _, rfl, q _ S H (Al.refl sm) (.int _)⟩
  · cases e
def gMax2 : List D → Option D
  | [.int i, .int j] => some (.int (if j > i then j else i))
  | _ => none
def gMin2 : List D → Option D
  | [.int i, .int j] => some (.int (if j < i then j else i))
  | _ => none
theorem cs_max2 : CallS K (fun xs H Q => ∃ i j, xs = [.int i, .int j] ∧ Q (.int (if j > i then j else i)) H) gMax2 := by
  intro S H vs ds z Q sm d e q
  unfold gMax2 at e
  split at e
  · obtain ⟨v, w, rfl, h1, h2⟩ := da2 d
    cases h1
    cases h2
    cases e
    exact ⟨_, _, rfl, q _ S H (Al.refl sm) (.int _)⟩
  · cases e
theorem cs_min2 : CallS K (fun xs H Q => ∃ i j, xs = [.int i, .int j] ∧ Q (.int (if j < i then j else i)) H) gMin2 := by
  intro S H vs ds z Q sm d e q
  unfold gMin2 at e
  split at e
  · obtain ⟨v, w, rfl, h1, h2⟩ := da2 d
    cases h1
    cases h2
    cases e
    exact ⟨_, _, rfl, q _ S H (Al.refl sm) (.int _)⟩
  · cases e
def bools : List D → Option (List Bool)
  | [] => some []
  | .bl b :: r => match bools r with
    | some bs => some (b :: bs)
    | none => none
  | _ => none
theorem bools_of {S : Hp} : ∀ {vs : List V} {ds : List D} {bs : List Bool}, DtA K S vs ds → bools ds = some bs → vs = bs.map V.bl
  | _, _, _, .nil, e => by cases e; rfl
  | _, _, bs, .cons h a, e => by
    cases h with
    | bl b =>
      simp only [bools] at e
      split at e
      · rename_i b' r' c
        cases e
        rw [bools_of a c]
        rfl
      · cases e
    | _ => cases e
def gAll : List D → Option D
  | [.lst ds] => match bools ds with
    | some bs => some (.bl (bs.all id))
    | none => none
  | _ => none
def gAny : List D → Option D
  | [.lst ds] => match bools ds with
    | some bs => some (.bl (bs.any id))
    | none => none
  | _ => none
theorem cs_all : CallS K (rAll K) gAll := by
  intro S H vs ds z Q sm d e q
  unfold gAll at e
  split at e
  · obtain ⟨v, rfl, h⟩ := da1 d
    split at e
    · rename_i bs c
      cases e
      cases h with
      | lst ha da =>
        rw [bools_of da c] at ha
        exact ⟨_, bs, rfl, .inl (.inl (sm _ _ ha)), q _ S H (Al.refl sm) (.bl _)⟩
    · cases e
  · cases e
theorem cs_any : CallS K (rAny K) gAny := by
  intro S H vs ds z Q sm d e q
  unfold gAny at e
  split at e
  · obtain ⟨v, rfl, h⟩ := da1 d
    split at e
    · rename_i bs c
      cases e
      cases h with
      | lst ha da =>
        rw [bools_of da c] at ha
        exact ⟨_, bs, rfl, .inl (.inl (sm _ _ ha)), q _ S H (Al.refl sm) (.bl _)⟩
    · cases e
  · cases e
def gList : List D → Option D
  | [.lst ds] => some (.lst ds)
  | [.rl ds] => some (.lst ds)
  | [.tup ds] => some (.lst ds)
  | _ => none
theorem cs_list : CallS K (fun xs H Q => ∃ p ys, xs = [.ref p] ∧ (SqL K H p ys ∨ SqT K H p ys) ∧ ∀ l, H l = none → Q (.ref l) (upd H l (.lst ys))) gList := by
  intro S H vs ds z Q sm d e q
  unfold gList at e
  split at e
  · obtain ⟨v, rfl, h⟩ := da1 d
    cases e
    cases h with
    | lst ha da => exact ⟨_, _, rfl, .inl (.inl (.inl (sm _ _ ha))), fun l hl => q _ _ _ (Al.new sm hl) (.lst upd_same (da.mono (Al.new sm hl).ext))⟩
  · obtain ⟨v, rfl, h⟩ := da1 d
    cases e
    cases h with
    | rl ha da => exact ⟨_, _, rfl, .inl (sm.seq ha), fun l hl => q _ _ _ (Al.new sm hl) (.lst upd_same (da.mono (Al.new sm hl).ext))⟩
  · obtain ⟨v, rfl, h⟩ := da1 d
    cases e
    cases h with
    | tup ha da => exact ⟨_, _, rfl, .inr (same_t sm ha), fun l hl => q _ _ _ (Al.new sm hl) (.lst upd_same (da.mono (Al.new sm hl).ext))⟩
  · cases e
/-- list(range(a, b)) -/
def fLstRg (fa fb : FE) : FE := fun s => match fa s with
  | some (.int i, s1) => match fb s1 with
    | some (.int j, s2) => if -(2 ^ 62) ≤ i ∧ i < 2 ^ 62 ∧ -(2 ^ 62) ≤ j ∧ j < 2 ^ 62 ∧ (j - i).toNat ≤ 2 ^ 24 then some (.lst (rngD i (j - i).toNat), s2) else none
    | _ => none
  | _ => none
theorem dta_range {S : Hp} (f : Nat → V) (g : Nat → D) (h : ∀ i, Dt K S (f i) (g i)) : ∀ l : List Nat, DtA K S (l.map f) (l.map g)
  | [] => .nil
  | i :: l => .cons (h i) (dta_range f g h l)
theorem se_lstRg (ha : SE K ta fa) (hb : SE K tb fb) : SE K (tLstRg (tRg2 ta tb)) (fLstRg fa fb) := by
  intro S H s σ Q r q
  unfold fLstRg at q
  split at q
  · rename_i i s1 e
    refine ha.use r e fun v S1 H1 g1 d1 => ?_
    cases d1
    split at q
    · rename_i j s2 e2
      refine hb.use g1.rep e2 fun w S2 H2 g2 d2 => ?_
      cases d2
      by_cases c : -(2 ^ 62) ≤ i ∧ i < 2 ^ 62 ∧ -(2 ^ 62) ≤ j ∧ j < 2 ^ 62 ∧ (j - i).toNat ≤ 2 ^ 24
      · rw [if_pos c] at q
        refine ⟨i, j, rfl, rfl, c, fun l hl => ?_⟩
        have al := Al.new (o := HO.lst (rgV i j)) g2.rep.sub hl
        exact q _ _ _ ((g1.trans g2).trans (al.go g2.rep)) (.lst upd_same (dta_range _ _ (fun n => .int _) _))
      · rw [if_neg c] at q; exact q.elim
    · exact q.elim
  · exact q.elim
theorem pd_listRg {a b : Expr} {p p2 pos pos2 : Pos} (hc : X.calm = true) (hg : Gl X "list") (hm : X.mg "list" = none) (hg2 : Gl X "range") (hm2 : X.mg "range" = none) (ha : PD X a ta fa) (hb : PD X b tb fb)
    (na : starEach [.Call (.Name "range" p2) [a, b] [] pos2] X.env = (false, eval (.Call (.Name "range" p2) [a, b] [] pos2) X.env) :: starEach [] X.env := by rfl) (na2 : starEach [a, b] X.env = (false, eval a X.env) :: starEach [b] X.env := by rfl)
    (nb : starEach [b] X.env = (false, eval b X.env) :: starEach [] X.env := by rfl) (hp : (backTo pos2 (starEach [b] X.env)).any (·.1) = false := by rfl) :
    PD X (.Call (.Name "list" p) [.Call (.Name "range" p2) [a, b] [] pos2] [] pos) (tLstRg (tRg2 ta tb)) (fLstRg fa fb) := ⟨pe_listRg hc hg hm (prg_2 hg2 hm2 ha.pe hb.pe na2 nb hp) na, se_lstRg ha.ok hb.ok⟩
/-- sep.join(a list of texts) -/
def txts : List D → Option (List Str)
  | [] => some []
  | .str b :: r => match txts r with
    | some bs => some (b :: bs)
    | none => none
  | _ => none
theorem txts_of {S : Hp} : ∀ {vs : List V} {ds : List D} {bs : List Str}, DtA K S vs ds → txts ds = some bs → vs = bs.map V.str
  | _, _, _, .nil, e => by cases e; rfl
  | _, _, bs, .cons h a, e => by
    cases h with
    | str b =>
      simp only [txts] at e
      split at e
      · rename_i b' r' c
        cases e
        rw [txts_of a c]
        rfl
      · cases e
    | _ => cases e
def fJoin (fa : FE) (fr : FA) : FE := fun s => match fa s with
  | some (.str a, s1) => match fr s1 with
    | some ([.lst ds], s2) => match txts ds with
      | some ys => if (ys.map (·.length)).sum + ys.length * a.length ≤ 16777216 then some (.str (Txt.join a ys), s2) else none
      | none => none
    | _ => none
  | _ => none
def rJoin (K : PySem.W.Frag) : V → List V → Hp → VK → Prop := fun x xs H Q => ∃ a p, ∃ ys : List Str, x = .str a ∧ xs = [.ref p] ∧ (SqL K H p (ys.map V.str) ∨ SqT K H p (ys.map V.str)) ∧
    (ys.map (·.length)).sum + ys.length * a.length ≤ 16777216 ∧ Q (.str (Txt.join a ys)) H
theorem se_join (ha : SE K ta fa) (hr : SA K tr fr) : SE K (tBM K "str" (rJoin K) ta tr) (fJoin fa fr) := by
  intro S H s σ Q r q
  unfold fJoin at q
  split at q
  · rename_i a s1 e
    refine ha.use r e fun v S1 H1 g1 d1 => ?_
    cases d1
    split at q
    · rename_i ds s2 e2
      refine ⟨rfl, hr.use g1.rep e2 fun vs S2 H2 g2 d2 => ?_⟩
      obtain ⟨w, rfl, h⟩ := da1 d2
      split at q
      · rename_i ys c
        by_cases c2 : (ys.map (·.length)).sum + ys.length * a.length ≤ 16777216
        · rw [if_pos c2] at q
          cases h with
          | lst hl da =>
            rw [txts_of da c] at hl
            exact ⟨a, _, ys, rfl, rfl, .inl (.inl (.inl (g2.rep.sub _ _ hl))), c2, q _ S2 H2 (g1.trans g2) (.str _)⟩
        · rw [if_neg c2] at q; exact q.elim
      · exact q.elim
    · exact q.elim
  · exact q.elim
theorem pd_join {o : Expr} {apos cpos : Pos} (ho : PD X o ta fa) (hr : PDa X (e :: es) tr fr) (hp : PE X (.Call (.Attribute o "join" apos) (e :: es) [] cpos) (tBM X.K "str" (rJoin X.K) ta tr)) : PD X (.Call (.Attribute o "join" apos) (e :: es) [] cpos) (tBM X.K "str" (rJoin X.K) ta tr) (fJoin fa fr) := ⟨hp, se_join ho.ok hr.ok⟩
/-- a module's constant int -/
theorem pd_globInt {x : Str} {pos : Pos} {i : Int} {t : Tok} (hg : Gl X x) (hm : X.mg x = some (.int i t)) (hdb : (x == ("__debug__" : Str)) = false := by decide) : PD X (.Name x pos) (tC (.int i)) (fC (.int i)) := ⟨pe_glob hg hm ⟨t, rfl⟩ hdb, se_c fun _ => .int i⟩
/-- truth of a list, a tuple -/
def fTru (f : FE) : FT := fun s => match f s with
  | some (.lst ds, s1) => some (!ds.isEmpty, s1)
  | some (.rl ds, s1) => some (!ds.isEmpty, s1)
  | some (.tup ds, s1) => some (!ds.isEmpty, s1)
  | some (.bl b, s1) => some (b, s1)
  | some (.int i, s1) => some (i != 0, s1)
  | some (.non, s1) => some (false, s1)
  | _ => none
theorem DtA.emp {S : Hp} {vs : List V} {ds : List D} (h : DtA K S vs ds) : vs.isEmpty = ds.isEmpty := by
  cases h <;> rfl
theorem st_tru (h : SE K ta fa) : ST K (fun σ H Q => ta σ H fun x H' => ∃ k, TruV K x H' k ∧ Q k H') (fTru fa) := by
  intro S H s σ Q r q
  unfold fTru at q
  split at q
  · rename_i ds s1 e
    refine h.use r e fun v S1 H1 g d => ?_
    cases d with
    | lst ha da => exact ⟨_, .inl ⟨_, .inl (.inl (g.rep.sub _ _ ha)), rfl⟩, by rw [da.emp]; exact q S1 H1 g⟩
  · rename_i ds s1 e
    refine h.use r e fun v S1 H1 g d => ?_
    cases d with
    | rl ha da => exact ⟨_, .inl ⟨_, g.rep.sub.seq ha, rfl⟩, by rw [da.emp]; exact q S1 H1 g⟩
  · rename_i ds s1 e
    refine h.use r e fun v S1 H1 g d => ?_
    cases d with
    | tup ha da => exact ⟨_, .inr (.inl ⟨_, same_t g.rep.sub ha, rfl⟩), by rw [da.emp]; exact q S1 H1 g⟩
  · rename_i b s1 e
    refine h.use r e fun v S1 H1 g d => ?_
    cases d
    exact ⟨_, rfl, q S1 H1 g⟩
  · rename_i i s1 e
    refine h.use r e fun v S1 H1 g d => ?_
    cases d
    exact ⟨_, rfl, q S1 H1 g⟩
  · rename_i s1 e
    refine h.use r e fun v S1 H1 g d => ?_
    cases d
    exact ⟨_, rfl, q S1 H1 g⟩
  · exact q.elim
theorem pdt_tru {a : Expr} (h : PD X a ta fa) (he : ∀ whole, isTrue a X.env whole = (do let v ← whole; standAt a.pos; holding [v] (truthy v)) := by intro _; rfl) : PDt X a (fun σ H Q => ta σ H fun x H' => ∃ k, TruV X.K x H' k ∧ Q k H') (fTru fa) := ⟨pt_truth h.pe he, st_tru h.ok⟩
/-- the call of a def(*xs) -/
theorem pe_callR {CX : CXT} {k : Nat} {f : Addr} {sp : Sp} {E : XK} {x : Str} {p pos : Pos} {t : TA} (F : FnR X.prog X.w X.K X.mg X.base CX k f sp) (hr : Room k X.A) (hk : PySem.W.keepIn X.K (.ref f) = true) (hg : Gl X x) (hm : X.mg x = some (.ref f)) (hx : Passes CX X E) (ha : PA X (e :: es) t) (hd : (x == ("__debug__" : Str)) = false := by decide)
    (he : starEach (e :: es) X.env = (false, eval e X.env) :: starEach es X.env := by rfl) (hpl : (backTo pos (starEach es X.env)).any (·.1) = false := by rfl) :
    PE X (.Call (.Name x p) (e :: es) [] pos) (fun σ H Q => t σ H fun vs H1 => sp vs H1 Q E) := by
  refine ⟨fun pins s σ H Q I h => ?_⟩
  refine wpAny_Call_Name_kw (ld_glob I hg hm ?_ hd)
  refine PySem.W.callWith_K (h₀ := X.base) I.ok.mod.kin hk (thn (ha.run pos pins s σ H _ I h) fun us s1 ⟨vs, H1, I1, r, q⟩ => ⟨I1.kIn, ?_⟩) he hpl
  exact wpAny_call (run_fnR F hr hx I1 r q)
theorem pd_callS {CX : CXT} {k : Nat} {f : Addr} {g : List Sl → Option (D × Sd)} {E : XK} {x : Str} {p pos : Pos} (F : FnR X.prog X.w X.K X.mg X.base CX k f (spStar (spF X.K 1 g))) (hr : Room k X.A) (hk : PySem.W.keepIn X.K (.ref f) = true) (hg : Gl X x) (hm : X.mg x = some (.ref f)) (hx : Passes CX X E) (ha : PDa X (e :: es) tr fr) (hd : (x == ("__debug__" : Str)) = false := by decide)
    (he : starEach (e :: es) X.env = (false, eval e X.env) :: starEach es X.env := by rfl) (hpl : (backTo pos (starEach es X.env)).any (·.1) = false := by rfl) :
    PD X (.Call (.Name x p) (e :: es) [] pos) (fun σ H Q => tr σ H fun vs H1 => spStar (spF X.K 1 g) vs H1 Q E) (fCallS g fr) := ⟨pe_callR F hr hk hg hm hx ha.pe hd he hpl, se_callS ha.ok⟩
end
section
variable {P : Program} {w : World} {K : PySem.W.Frag} {mg : Str → Option Value} {base : Heap}
theorem defS_ok {x qual : Str} {st : Stmt} {f : Addr} {fd : FuncData} {N : List Str} {pv : Str} {k : Nat} {fb : FS} (F : Fun K x qual st f fd) (Sc : FnScope N ([] ++ [pv]) (defScope st))
    (hbi : ∀ (kV doc pm : Value) (an : Option Addr) (cdv ct : Value) (us rest : List Value), us.length = ([] : List Str).length → bindArgs (PySem.W.fnOf x qual (defArgs st) (defBody st) (defScope st) .none kV doc pm an cdv ct) ⟨us ++ rest, []⟩ = (newTuple rest >>= fun t => pure (([] : List Str).zip us ++ [(pv, t)])))
    (hb : ∀ (cdv : Value) (A : Around) (outer : List Env) (s : Shared) (H : Hp) (E : XK), Room k (A.deeper (envOfC qual (defScope st) s.heap.objs.size f cdv)) →
      ∃ t, PDss (cxOf CX0 P w K mg base N qual (defScope st) f cdv A outer s H E).nox (defBody st) t fb) : FnR P w K mg base CX0 (k + 1) f (spStar (spF K 1 (defF 1 N.length fb))) := by
  obtain ⟨oc, od, kV, doc, pm, an, cdv, ct, osl, rfl, lk, hcd⟩ := F.ex
  refine StX.fn_star (ps := []) lk hcd Sc StX.cxUp_none (fun us rest h => hbi kV doc pm an cdv ct us rest h) fun A outer s H vs Q E hr h => ?_
  obtain ⟨t, ht⟩ := hb cdv A outer s H E hr
  exact ⟨t, ht.ps.nox, body_ok (by rw [h.1]) ht.ok h⟩
end
end DL
namespace DL
open PySem PySem.Spec PyProof.Rows L2

/-! ### one of several rules, by what the data are -/
def rOr (r1 r2 : R2) : R2 := fun x y H Q => r1 x y H Q ∨ r2 x y H Q
def gOr (g1 g2 : D → D → Option D) : D → D → Option D := fun a b => match g1 a b with
  | some z => some z
  | none => g2 a b
section
variable {X : Cx} {K : PySem.W.Frag}
theorem opOr {f : Value → Value → Sem Value} {r1 r2 : R2} (h1 : OpR X f r1) (h2 : OpR X f r2) : OpR X f (rOr r1 r2) := by
  intro pins s σ H x y v u Q I rx ry h
  rcases h with h | h
  · exact h1 pins s σ H x y v u Q I rx ry h
  · exact h2 pins s σ H x y v u Q I rx ry h
theorem osOr {r1 r2 : R2} {g1 g2 : D → D → Option D} (h1 : OpS K r1 g1) (h2 : OpS K r2 g2) : OpS K (rOr r1 r2) (gOr g1 g2) := by
  intro S H x y a b z Q sm dx dy e q
  unfold gOr at e
  cases e1 : g1 a b with
  | some z' =>
    rw [e1] at e
    cases e
    exact .inl (h1 S H x y a b z Q sm dx dy e1 q)
  | none =>
    rw [e1] at e
    exact .inr (h2 S H x y a b z Q sm dx dy e q)
theorem ixOr {r1 r2 : R2} (h1 : IxR X r1) (h2 : IxR X r2) : IxR X (rOr r1 r2) := by
  intro a b pins s σ H x y v u Q I rx ry h hs
  rcases h with h | h
  · exact h1 a b pins s σ H x y v u Q I rx ry h hs
  · exact h2 a b pins s σ H x y v u Q I rx ry h hs
/-- + -/
abbrev rAddA (K : PySem.W.Frag) : R2 := rOr (rI0 fun i j => .int (i + j)) (rOr rCat (rOr (rCatT K) fun x y H Q => ∃ i j, x = .str i ∧ y = .str j ∧ i.length + j.length ≤ sizeLine ∧ Q (.str (i ++ j)) H))
def gAdd : D → D → Option D := gOr gAddI (gOr gCat (gOr gCatT gAddS))
theorem op_addA : OpR X (binaryOp .Add) (rAddA X.K) := opOr op_add (opOr op_cat (opOr op_catT op_add_str))
theorem os_addA : OpS K (rAddA K) gAdd := osOr os_add (osOr os_cat (osOr os_catT os_addS))
/-- * -/
abbrev rMulA : R2 := rOr (rI CMul fun i j => .int (i * j)) rRep
def gMulA : D → D → Option D := gOr gMul gRep
theorem op_mulA : OpR X (binaryOp .Mult) rMulA := opOr op_mul op_rep
theorem os_mulA : OpS K rMulA gMulA := osOr os_mul os_rep
/-- // -/
abbrev rDivA : R2 := rOr (rI CDivN fun i j => .int (i.fdiv j)) (rI CDivW fun i j => .int (i / j))
def gDivA : D → D → Option D := gOr gDiv gDivW
theorem op_divA : OpR X (binaryOp .FloorDiv) rDivA := opOr op_fdivN op_fdivW
theorem os_divA : OpS K rDivA gDivA := osOr os_div os_divW
/-- <= -/
abbrev rLeA : R2 := rOr (rI0 fun i j => .bl (decide (i ≤ j))) fun x y H Q => ∃ i j, x = .str i ∧ y = .str j ∧ Q (.bl (!decide (j.cps.toList < i.cps.toList))) H
def gLeA : D → D → Option D := gOr gLe gLeS
theorem op_leA : OpR X (compareOp .LtE) rLeA := opOr op_le op_le_str
theorem os_leA : OpS K rLeA gLeA := osOr os_le os_leS
/-- x[i] -/
abbrev rIxA (K : PySem.W.Frag) : R2 := rOr (rIxT K) (rIxL K)
def gIx : D → D → Option D := gOr gIxT gIxL
theorem ix_A : IxR X (rIxA X.K) := ixOr ix_tup ix_list
theorem os_ixA : OpS K (rIxA K) gIx := osOr os_ixT os_ixL
/-- is, is not: bools -/
def gIsNotB : D → D → Option D
  | .bl a, .bl b => some (.bl (!decide (a = b)))
  | _, _ => none
theorem os_isNotB : OpS K (fun x y H Q => ∃ a b, x = .bl a ∧ y = .bl b ∧ Q (.bl (!decide (a = b))) H) gIsNotB := by
  intro S H x y a b z Q sm dx dy e q
  unfold gIsNotB at e
  split at e
  · cases dx
    cases dy
    cases e
    exact ⟨_, _, rfl, rfl, q _ S H (Al.refl sm) (.bl _)⟩
  · cases e
theorem us_neg : UnS K (rU fun i => .int (-i)) gNeg := by
  intro S H x a z Q sm dx e q
  unfold gNeg at e
  split at e
  · cases dx
    cases e
    exact ⟨_, rfl, q _ S H (Al.refl sm) (.int _)⟩
  · cases e
theorem pd_joinX {o e : Expr} {es : List Expr} {to : TE} {fo : FE} {tr : TA} {fr : FA} {apos cpos : Pos} (ho : PD X o to fo) (hr : PDa X (e :: es) tr fr)
    (hbase : attributeBase o "join" X.env (eval o X.env) = eval o X.env := by rfl)
    (hfew : ((backTo cpos (starEach (e :: es) X.env)).all (fun x => !x.1) && (backToKw cpos (keywordEach [] X.env)).all (fun x => x.1.isSome)
      && decide ((e :: es).length + ([] : List Keyword).length + (if ([] : List Keyword).isEmpty then 0 else 1) < 30)) = true := by rfl)
    (hline : (apos.endLine == cpos.line) = true := by rfl) (hs : starEach (e :: es) X.env = (false, eval e X.env) :: starEach es X.env := by rfl) (hplain : (backTo cpos (starEach es X.env)).any (·.1) = false := by rfl) :
    PD X (.Call (.Attribute o "join" apos) (e :: es) [] cpos) (tBM X.K "str" (rJoin X.K) to tr) (fJoin fo fr) := ⟨pe_bm PySem.F.plainAttrs_str PySem.F.slot_str_join PySem.F.type_str_join mt_join ho.pe hr.pe hbase hfew hline hs hplain, se_join ho.ok hr.ok⟩
/-- for x in a list or a tuple -/
def iOr (w1 w2 : TI) : TI := fun σ H R => w1 σ H R ∨ w2 σ H R
def fiA (f : FE) : FI := fun s => match f s with
  | some (.tup ds, s1) => some (ds, s1)
  | some (.lst ds, s1) => some (ds, s1)
  | some (.rl ds, s1) => some (ds, s1)
  | some (.str x, s1) => some (signs x, s1)
  | _ => none
theorem di_A {tg l : Expr} {te : TE} {fe : FE} (h : PD X l te fe) : PDi X tg l (iOr (iTup X.K te) (iOr (iList X.K te) (iStr te))) (fiA fe) := by
  refine ⟨⟨fun pins s σ H R I q => ?_⟩, fun S H s σ R r q => ?_⟩
  · rcases q with q | q | q
    · exact (pi_tup h.pe).run pins s σ H R I q
    · exact (pi_list h.pe).run pins s σ H R I q
    · exact (pi_str h.pe).run pins s σ H R I q
  · unfold fiA at q
    split at q
    · rename_i ds s1 e
      exact .inl (si_tup h.ok S H s σ R r (by unfold fiT; rw [e]; exact q))
    · rename_i ds s1 e
      exact .inr (.inl (si_list h.ok S H s σ R r (by unfold fiL; rw [e]; exact q)))
    · rename_i ds s1 e
      exact .inr (.inl (si_list h.ok S H s σ R r (by unfold fiL; rw [e]; exact q)))
    · rename_i ds s1 e
      exact .inr (.inr (si_str h.ok S H s σ R r (by unfold fiS; rw [e]; exact q)))
    · exact q.elim
/-- name = [..] on one line -/
theorem ds_setLc (i : Nat) {y : Str} {py : Pos} {elt tg iter : Expr} {ifs : List Expr} {scope : Scope} {own : List (Str × Nat)} {pos spos : Pos} {wi : TI} {g : TG} {tt : TT} {te : TE} {fi : FI} {fg : D → Sd → Option Sd} {ft : FT} {fe : FE} (hc : X.calm = true) (hN : X.N.Nodup) (hy : X.N[i]? = some y) (hyl : X.env.scope.names.lookup y = some .local)
    (hsw : swapsWith (.ListComp elt [⟨tg, iter, ifs, 0⟩] scope pos) (some (.Name y py)) spos.line X.env = pure true) (hi : PDi X tg iter wi fi) (ok : BlkOk X.N X.env.scope scope own) (hin : GIn g (own.map (·.2)))
    (hg : ∀ (s : Shared) (H : Hp) (C : Addr) (cl : List (Str × Addr)) (fp : List Addr), PDg (X.blk s H scope (compEnvC scope cl C X.env) fp) tg g fg) (ht : ∀ (s : Shared) (H : Hp) (C : Addr) (cl : List (Str × Addr)) (fp : List Addr), PDts (X.blk s H scope (compEnvC scope cl C X.env) fp) ifs tt ft)
    (he : ∀ (s : Shared) (H : Hp) (C : Addr) (cl : List (Str × Addr)) (fp : List Addr), PD (X.blk s H scope (compEnvC scope cl C X.env) fp) elt te fe) (s0 : Shared) (hs : ∀ x, foldedSetIterable iter X.env x = pure x := by intro _; rfl) :
    PDs X (.Assign [.Name y py] (.ListComp elt [⟨tg, iter, ifs, 0⟩] scope pos) spos) (tAsg (tLc wi g tt te (own.map (·.2))) (gName i)) (fAsg (fLc fi fg ft fe (own.map (·.2))) (fgN i)) :=
  ⟨ps_setLc hc hN hy hyl hsw hi.pi ok (fun s H C cl fp => (hg s H C cl fp).pg) (fun s H C cl fp => (ht s H C cl fp).pt) (fun s H C cl fp => (he s H C cl fp).pe) hs,
    ss_asg (se_lc hi.ok (hg s0 (fun _ => none) 0 [] []).ok hin (ht s0 (fun _ => none) 0 [] []).ok (he s0 (fun _ => none) 0 [] []).ok) sg_name⟩
end
end DL
namespace DL
open PySem PySem.Spec PyProof.Rows L2
/-! ### the rules with the written part named (a block's own stands for the def's) -/
section
variable {X : Cx} (K : PySem.W.Frag) (h : X.K = K)
include h
theorem op_addK : OpR X (binaryOp .Add) (rAddA K) := by subst h; exact op_addA
theorem ix_K : IxR X (rIxA K) := by subst h; exact ix_A
theorem op_eqK (hu : X.A.units + 64 < cLine) : OpR X (compareOp .Eq) (rEqD K) := by subst h; exact op_eqD hu
theorem op_neK (hu : X.A.units + 64 < cLine) : OpR X (compareOp .NotEq) (rNeD K) := by subst h; exact op_neD hu
theorem op_inK (hu : X.A.units + 65 < cLine) : OpR X (compareOp .In) (rInD K) := by subst h; exact op_inD hu
theorem op_notInK (hu : X.A.units + 65 < cLine) : OpR X (compareOp .NotIn) (rNotInD K) := by subst h; exact op_notInD hu
theorem call_lenK : CallR X (.builtin "len") (fun xs H Q => ∃ x n, xs = [x] ∧ LenV K x H n ∧ Q (.int n) H) := by subst h; exact call_len
theorem call_listK : CallR X (.type "list") (fun xs H Q => ∃ p ys, xs = [.ref p] ∧ (SqL K H p ys ∨ SqT K H p ys) ∧ ∀ l, H l = none → Q (.ref l) (upd H l (.lst ys))) := by subst h; exact call_list_of
theorem cr_allK (hc : X.calm = true) : CallR X (.builtin "all") (rAll K) := by subst h; exact cr_all hc
theorem cr_anyK (hc : X.calm = true) : CallR X (.builtin "any") (rAny K) := by subst h; exact cr_any hc
variable {e : Expr} {es : List Expr} {te ta tb : TE} {fe fa fb : FE} {tr : TA} {fr : FA}
theorem pd_isiK (T : String) {x : Str} {p p2 pos : Pos} {a : Expr} (hg : Gl X "isinstance") (hm : X.mg "isinstance" = none) (hgT : Gl X x) (hmT : X.mg x = none) (hvT : bootBuiltins x = some (.type T)) (k : PD X a ta fa)
    (hs : starEach [a, .Name x p2] X.env = (false, eval a X.env) :: starEach [.Name x p2] X.env := by rfl) (hs2 : starEach [.Name x p2] X.env = (false, eval (.Name x p2) X.env) :: starEach [] X.env := by rfl)
    (hpl : (backTo pos (starEach [.Name x p2] X.env)).any (·.1) = false := by rfl) (hn : x ≠ "__name__" := by decide) (hdb : (x == ("__debug__" : Str)) = false := by decide) :
    PD X (.Call (.Name "isinstance" p) [a, .Name x p2] [] pos) (tCB (rIsi K) (tCons ta (tCons (tC (.ty T)) tNil))) (fIsi T fa) := by subst h; exact pd_isi T hg hm hgT hmT hvT k hs hs2 hpl hn hdb
theorem pd_ixOK (i : Nat) {x : Str} {ek : Expr} {px pos : Pos} {tk : TE} {fk : FE} (ha : PE X (.Name x px) (tVar i)) (hk : PD X ek tk fk) (hp : PlainIx ek) : PD X (.Subscript (.Name x px) ek pos) (tOp (rIxL K) (tVar i) tk) (fIxO i fk) := by subst h; exact pd_ixO i ha hk hp
theorem pd_joinK {o e : Expr} {es : List Expr} {to : TE} {fo : FE} {tr : TA} {fr : FA} {apos cpos : Pos} (ho : PD X o to fo) (hr : PDa X (e :: es) tr fr)
    (hbase : attributeBase o "join" X.env (eval o X.env) = eval o X.env := by rfl)
    (hfew : ((backTo cpos (starEach (e :: es) X.env)).all (fun x => !x.1) && (backToKw cpos (keywordEach [] X.env)).all (fun x => x.1.isSome)
      && decide ((e :: es).length + ([] : List Keyword).length + (if ([] : List Keyword).isEmpty then 0 else 1) < 30)) = true := by rfl)
    (hline : (apos.endLine == cpos.line) = true := by rfl) (hs : starEach (e :: es) X.env = (false, eval e X.env) :: starEach es X.env := by rfl) (hplain : (backTo cpos (starEach es X.env)).any (·.1) = false := by rfl) :
    PD X (.Call (.Attribute o "join" apos) (e :: es) [] cpos) (tBM K "str" (rJoin K) to tr) (fJoin fo fr) := by subst h; exact pd_joinX ho hr hbase hfew hline hs hplain
theorem di_K {tg l : Expr} (k : PD X l te fe) : PDi X tg l (iOr (iTup K te) (iOr (iList K te) (iStr te))) (fiA fe) := by subst h; exact di_A k
theorem dg_tupK {es : List Expr} {k : Nat} {pos} {g : TGs} {f : List D → Sd → Option Sd} {n : Nat} (hc : X.calm = true) (k' : PDgs X es g f)
    (hn : (assignEach es X.env).length = n := by rfl) (hst : (assignEach es X.env).findIdx? (·.1) = none := by rfl) : PDg X (.Tuple es k pos) (gTup K n g) (fgT n f) := by subst h; exact dg_tup hc k' hn hst
theorem pdt_truK {a : Expr} (k : PD X a ta fa) (he : ∀ whole, isTrue a X.env whole = (do let v ← whole; standAt a.pos; holding [v] (truthy v)) := by intro _; rfl) : PDt X a (fun σ H Q => ta σ H fun x H' => ∃ k, TruV K x H' k ∧ Q k H') (fTru fa) := by subst h; exact pdt_tru k he
theorem pd_callK {CX : CXT} {k : Nat} {f : Addr} {fd : FuncData} {ps : List Str} {n : Nat} {g : List Sl → Option (D × Sd)} {E : XK} {x : Str} {p pos : Pos} {e : Expr} {es : List Expr} {tr : TA} {fr : FA} (F : FnOk X.prog X.w K X.mg X.base CX k f fd ps (spF K n g)) (hr : Room k X.A) (hg : Gl X x) (hm : X.mg x = some (.ref f)) (hk : PySem.W.keepIn K (.ref f) = true) (hb : Binds K fd ps []) (hx : Passes CX X E)
    (ha : PDa X (e :: es) tr fr) (hdb : (x == ("__debug__" : Str)) = false := by decide) (he : starEach (e :: es) X.env = (false, eval e X.env) :: starEach es X.env := by rfl) (hpl : (backTo pos (starEach es X.env)).any (·.1) = false := by rfl) :
    PD X (.Call (.Name x p) (e :: es) [] pos) (tCall (spF K n g) [] E tr) (fCall n g fr) := by subst h; exact pd_call F hr hg hm hk hb hx ha hdb he hpl
theorem pd_callOK (i : Nat) {CX : CXT} {k : Nat} {f : Addr} {fd : FuncData} {ps : List Str} {n : Nat} {g : List Sl → Option (D × Sd)} {E : XK} {x : Str} {p pos : Pos} {e : Expr} {es : List Expr} {tr : TA} {fr : FA} (F : FnOk X.prog X.w K X.mg X.base CX k f fd ps (spF K n g)) (hr : Room k X.A) (hg : Gl X x) (hm : X.mg x = some (.ref f)) (hk : PySem.W.keepIn K (.ref f) = true) (hb : Binds K fd ps []) (hx : Passes CX X E)
    (h1 : PE X e (tVar i)) (ha : PDa X es tr fr) (hs : starEach (e :: es) X.env = (false, eval e X.env) :: starEach es X.env := by rfl) (hdb : (x == ("__debug__" : Str)) = false := by decide) (hpl : (backTo pos (starEach es X.env)).any (·.1) = false := by rfl) :
    PD X (.Call (.Name x p) (e :: es) [] pos) (tCall (spF K n g) [] E (tCons (tVar i) tr)) (fCallO n g i fr) := by subst h; exact pd_callO i F hr hg hm hk hb hx h1 ha hs hdb hpl
theorem pd_callSK {CX : CXT} {k : Nat} {f : Addr} {g : List Sl → Option (D × Sd)} {E : XK} {x : Str} {p pos : Pos} (F : FnR X.prog X.w K X.mg X.base CX k f (spStar (spF K 1 g))) (hr : Room k X.A) (hk : PySem.W.keepIn K (.ref f) = true) (hg : Gl X x) (hm : X.mg x = some (.ref f)) (hx : Passes CX X E) (ha : PDa X (e :: es) tr fr) (hd : (x == ("__debug__" : Str)) = false := by decide)
    (he : starEach (e :: es) X.env = (false, eval e X.env) :: starEach es X.env := by rfl) (hpl : (backTo pos (starEach es X.env)).any (·.1) = false := by rfl) :
    PD X (.Call (.Name x p) (e :: es) [] pos) (fun σ H Q => tr σ H fun vs H1 => spStar (spF K 1 g) vs H1 Q E) (fCallS g fr) := by subst h; exact pd_callS F hr hk hg hm hx ha hd he hpl
end
theorem hu65 {A : Around} {k : Nat} (hr : Room k A) : A.units + 65 < cLine := by have := hr.un; omega
/-- the law's call -/
theorem law_sp {K : PySem.W.Frag} {m : List Sl → Option (D × Sd)} {a : Addr} {ns : List Int} {H : Hp} {Q : VK} {E : XK} (hm : ∃ as', m [.tr (.rl (ns.map D.int))] = some (.bl true, as')) (hS : SqL K H a (ns.map V.int)) (q : ∀ H', Q (.bl true) H') : spF K 1 m [.ref a] H Q E := by
  obtain ⟨as', e⟩ := hm
  have d : DtA K H (ns.map V.int) (ns.map D.int) := by
    induction ns with
    | nil => exact .nil
    | cons n r ih => exact .cons (.int n) (by
        clear e hS
        exact (show ∀ l : List Int, DtA K H (l.map V.int) (l.map D.int) from fun l => by
          induction l with
          | nil => exact .nil
          | cons n r ih => exact .cons (.int n) ih) r)
  refine ⟨rfl, H, [.tr (.rl (ns.map D.int))], rep_args (ds := [.rl (ns.map D.int)]) (Same.refl H) (.cons (.rl hS d) .nil), fun i es => no_ol (ds := [.rl (ns.map D.int)]) i es, ?_⟩
  rw [e]
  intro v S' H' g dv
  cases dv
  exact q H'
end DL
namespace DL
open PySem PySem.Spec PyProof.Rows L2

/-! ### expressions that make a new list -/
abbrev FN := Sd → Option (List D × Sd)
def QN (K : PySem.W.Frag) (r : Option (List D × Sd)) (S H : Hp) (s : Sd) (σ : L2.St) (Q : VK) : Prop := match r with
  | some (ds, s') => ∀ p vs S' H', Go K S H s σ S' H' s' σ → H p = none → H' p = some (.lst vs) → S' p = none → ¬ Own s' σ p → DtA K S' vs ds → Q (.ref p) H'
  | none => False
def SN (K : PySem.W.Frag) (t : TE) (f : FN) : Prop := ∀ S H s σ Q, Rep K S H s σ → QN K (f s) S H s σ Q → t σ H Q
structure PDn (X : Cx) (e : Expr) (t : TE) (f : FN) : Prop where
  pe : PE X e t
  ok : SN X.K t f
/-- as data -/
def fOfN (f : FN) : FE := fun s => match f s with
  | some (ds, s1) => some (.lst ds, s1)
  | none => none
section
variable {X : Cx} {K : PySem.W.Frag} {S H : Hp} {s s1 : Sd} {σ : L2.St} {te ta tb : TE} {fn fn2 : FN} {fe : FE} {tr : TA} {fr : FA}
theorem SN.use {Q : VK} {ds : List D} (h : SN K te fn) (r : Rep K S H s σ) (e : fn s = some (ds, s1)) (q : ∀ p vs S' H', Go K S H s σ S' H' s1 σ → H p = none → H' p = some (.lst vs) → S' p = none → ¬ Own s1 σ p → DtA K S' vs ds → Q (.ref p) H') : te σ H Q :=
  h S H s σ Q r (by rw [e]; exact q)
theorem se_ofN (h : SN K te fn) : SE K te (fOfN fn) := by
  intro S H s σ Q r q
  unfold fOfN at q
  cases e : fn s with
  | none => rw [e] at q; exact q.elim
  | some x =>
    obtain ⟨ds, s1⟩ := x
    rw [e] at q
    exact h.use r e fun p vs S' H' g p0 p1 p2 p3 d => q _ _ _ (g.adopt p2 p3 p0 p1) (.lst upd_same (d.mono (same_upd p2)))
theorem pd_ofN {e : Expr} (h : PDn X e te fn) : PD X e te (fOfN fn) := ⟨h.pe, se_ofN h.ok⟩
/-- an object that is laid now, not among the slots' own -/
theorem Go.lay {S' H' : Hp} (g : Go K S H s σ S' H' s1 σ) {p : Addr} {o : HO} (hp : H' p = none) : Go K S H s σ S' (upd H' p o) s1 σ ∧ H p = none ∧ S' p = none ∧ ¬ Own s1 σ p := by
  have hS : S' p = none := g.rep.sub.free hp
  have hO : ¬ Own s1 σ p := by
    rintro ⟨i, p', es, h1, h2⟩
    obtain ⟨b, ws, e1, e2, _⟩ := g.rep.ow i p' es h1
    cases ref_inj h2 e1
    rw [hp] at e2; cases e2
  exact ⟨g.other hS hO (g.live p hp), g.live p hp, hS, hO⟩
theorem sn_lst (h : SA K tr fr) : SN K (tLst tr) (fun s => match fr s with
    | some (ds, s1) => if ds.length ≤ 100000 then some (ds, s1) else none
    | none => none) := by
  intro S H s σ Q r q
  cases e : fr s with
  | none => simp only [e] at q; exact q.elim
  | some x =>
    obtain ⟨ds, s1⟩ := x
    simp only [e] at q
    by_cases c : ds.length ≤ 100000
    · rw [if_pos c] at q
      refine h.use r e fun vs S1 H1 g d => ⟨sz_of (by rw [d.length]; exact c), fun p hp => ?_⟩
      obtain ⟨g2, h0, h1, h2⟩ := g.lay (o := .lst vs) hp
      exact q p vs S1 _ g2 h0 upd_same h1 h2 d
    · rw [if_neg c] at q; exact q.elim
def fNLst (fr : FA) : FN := fun s => match fr s with
  | some (ds, s1) => if ds.length ≤ 100000 then some (ds, s1) else none
  | none => none
theorem pn_lst {es : List Expr} {pos : Pos} (h : PDa X es tr fr) : PDn X (.List es pos) (tLst tr) (fNLst fr) := ⟨pe_lst h.pe, sn_lst h.ok⟩
/-- list(x) -/
def gItems : List D → Option (List D)
  | [.lst ds] => some ds
  | [.rl ds] => some ds
  | [.tup ds] => some ds
  | _ => none
def fNCB (g : List D → Option (List D)) (fr : FA) : FN := fun s => match fr s with
  | none => none
  | some (ds, s1) => match g ds with
    | none => none
    | some z => some (z, s1)
/-- a built-in that makes a new list of the arguments' data -/
def NewS (K : PySem.W.Frag) (r : List V → Hp → VK → Prop) (g : List D → Option (List D)) : Prop := ∀ S H vs ds z Q, Same S H → DtA K S vs ds → g ds = some z → (∀ ws p, DtA K S ws z → H p = none → Q (.ref p) (upd H p (.lst ws))) → r vs H Q
theorem sn_cb {r : List V → Hp → VK → Prop} {g : List D → Option (List D)} (h : SA K tr fr) (hr : NewS K r g) : SN K (tCB r tr) (fNCB g fr) := by
  intro S H s σ Q r0 q
  unfold fNCB at q
  cases e : fr s with
  | none => rw [e] at q; exact q.elim
  | some x =>
    obtain ⟨ds, s1⟩ := x
    rw [e] at q
    simp only at q
    refine h.use r0 e fun vs S1 H1 g1 d => ?_
    cases e2 : g ds with
    | none => rw [e2] at q; exact q.elim
    | some z =>
      rw [e2] at q
      refine hr S1 H1 vs ds z Q g1.rep.sub d e2 fun ws p dw hp => ?_
      obtain ⟨g2, h0, h1, h2⟩ := g1.lay (o := .lst ws) hp
      exact q p ws S1 _ g2 h0 upd_same h1 h2 dw
theorem ns_list : NewS K (fun xs H Q => ∃ p ys, xs = [.ref p] ∧ (SqL K H p ys ∨ SqT K H p ys) ∧ ∀ l, H l = none → Q (.ref l) (upd H l (.lst ys))) gItems := by
  intro S H vs ds z Q sm d e q
  unfold gItems at e
  split at e
  · obtain ⟨v, rfl, h⟩ := da1 d
    cases e
    cases h with
    | lst ha da => exact ⟨_, _, rfl, .inl (.inl (.inl (sm _ _ ha))), fun l hl => q _ _ da hl⟩
  · obtain ⟨v, rfl, h⟩ := da1 d
    cases e
    cases h with
    | rl ha da => exact ⟨_, _, rfl, .inl (sm.seq ha), fun l hl => q _ _ da hl⟩
  · obtain ⟨v, rfl, h⟩ := da1 d
    cases e
    cases h with
    | tup ha da => exact ⟨_, _, rfl, .inr (same_t sm ha), fun l hl => q _ _ da hl⟩
  · cases e
theorem pn_callTy {e : Expr} {es : List Expr} {r : List V → Hp → VK → Prop} {g : List D → Option (List D)} {T : String} {x : Str} {p pos : Pos} (hc : CallR X (.type T) r) (hs : NewS X.K r g) (hg : Gl X x) (hm : X.mg x = none) (hv : bootBuiltins x = some (.type T)) (ha : PDa X (e :: es) tr fr) (hn : x ≠ "__name__" := by decide) (hdb : (x == ("__debug__" : Str)) = false := by decide)
    (he : starEach (e :: es) X.env = (false, eval e X.env) :: starEach es X.env := by rfl) (hpl : (backTo pos (starEach es X.env)).any (·.1) = false := by rfl) : PDn X (.Call (.Name x p) (e :: es) [] pos) (tCB r tr) (fNCB g fr) := ⟨pe_callTy hc hg hm hv ha.pe hn hdb he hpl, sn_cb ha.ok hs⟩
theorem pn_callB {e : Expr} {es : List Expr} {r : List V → Hp → VK → Prop} {g : List D → Option (List D)} {id : String} {x : Str} {p pos : Pos} (hc : CallR X (.builtin id) r) (hs : NewS X.K r g) (hg : Gl X x) (hm : X.mg x = none) (hv : bootBuiltins x = some (.builtin id)) (ha : PDa X (e :: es) tr fr) (hn : x ≠ "__name__" := by decide) (hdb : (x == ("__debug__" : Str)) = false := by decide)
    (he : starEach (e :: es) X.env = (false, eval e X.env) :: starEach es X.env := by rfl) (hpl : (backTo pos (starEach es X.env)).any (·.1) = false := by rfl) : PDn X (.Call (.Name x p) (e :: es) [] pos) (tCB r tr) (fNCB g fr) := ⟨pe_callB hc hg hm hv ha.pe hn hdb he hpl, sn_cb ha.ok hs⟩
/-- sorted of a list of texts -/
def insS (x : Str) : List Str → List Str
  | [] => [x]
  | y :: r => if sortedS [x, y] = true then x :: y :: r else y :: insS x r

/-! ### a name is given a new list of its own -/
def fSetW (i : Nat) (f : FN) : FS := fun s => match f s with
  | none => none
  | some (ds, s1) => if i < s1.length then (match s1[i]? with
    | some (.ow true _) => none
    | _ => some (.nx, s1.set i (.ow false (.l ds)))) else none
theorem ss_setW {i : Nat} (h : SN K te fn) : SS K (tAsg te (gName i)) (fSetW i fn) := by
  intro S H s σ N r q
  unfold fSetW at q
  cases e : fn s with
  | none => rw [e] at q; exact q.elim
  | some x =>
    obtain ⟨ds, s1⟩ := x
    rw [e] at q
    simp only at q
    by_cases c : i < s1.length
    · rw [if_pos c] at q
      have hn : ∀ es, s1[i]? ≠ some (.ow true es) := fun es z => by rw [z] at q; exact q.elim
      have q2 : QS K (some (Fl.nx, s1.set i (.ow false (.l ds)))) S H s σ N := by
        cases e3 : s1[i]? with
        | none => rw [e3] at q; exact q
        | some y =>
          rw [e3] at q
          cases y with
          | no => exact q
          | tr _ => exact q
          | ow p es =>
            cases p with
            | true => exact absurd e3 (hn es)
            | false => exact q
      exact h.use r e fun p vs S' H' g p0 p1 p2 p3 d => q2 _ _ _ (g.setO c hn p0 p1 p2 p3 (.l d))
    · rw [if_neg c] at q; exact q.elim
theorem ds_setW (i : Nat) {x : Str} {e : Expr} {pos pos' : Pos} (hN : X.N.Nodup) (hi : X.N[i]? = some x) (hx : Loc X.env.scope x) (he : PDn X e te fn) (hs : swapsWith e (some (.Name x pos')) pos.line X.env = pure false := by rfl) (hf : X.fn x = true ∨ X.env.scope.names.lookup x = some .local := by first | exact .inl rfl | exact .inr rfl | assumption) :
    PDs X (.Assign [.Name x pos'] e pos) (tAsg te (gName i)) (fSetW i fn) := ⟨ps_set hN hi hx he.pe hs hf, ss_setW he.ok⟩
/-- a, b = [..], [..]: two new lists -/
def fParN (i j : Nat) (f1 f2 : FN) : FS := fun s => match f1 s with
  | none => none
  | some (d1, s1) => match f2 s1 with
    | none => none
    | some (d2, s2) => if i < s2.length ∧ j < s2.length ∧ i ≠ j ∧ isOl s2[i]? = false ∧ isOl s2[j]? = false then some (.nx, (s2.set i (.ow false (.l d1))).set j (.ow false (.l d2))) else none
theorem not_ol {s : Sd} {i : Nat} (h : isOl s[i]? = false) (p : Bool) (ds : OD) : s[i]? ≠ some (.ow p ds) := fun z => by rw [z] at h; cases h
theorem ss_parN {i j : Nat} (h1 : SN K ta fn) (h2 : SN K tb fn2) : SS K (tPar i j (tCons ta (tCons tb tNil))) (fParN i j fn fn2) := by
  intro S H s σ N r q
  unfold fParN at q
  cases e : fn s with
  | none => rw [e] at q; exact q.elim
  | some x =>
    obtain ⟨d1, s1⟩ := x
    rw [e] at q
    simp only at q
    refine h1.use r e fun p vs S1 H1 g p0 p1 p2 p3 dv => ?_
    cases e2 : fn2 s1 with
    | none => rw [e2] at q; exact q.elim
    | some y =>
      obtain ⟨d2, s2⟩ := y
      rw [e2] at q
      simp only at q
      refine h2.use g.rep e2 fun p' ws S2 H2 g2 q0 q1 q2 q3 dw => ⟨_, _, rfl, ?_⟩
      by_cases c : i < s2.length ∧ j < s2.length ∧ i ≠ j ∧ isOl s2[i]? = false ∧ isOl s2[j]? = false
      · rw [if_pos c] at q
        obtain ⟨c1, c2, c3, c4, c5⟩ := c
        have a1 : H2 p = some (.lst vs) := g2.keep p _ p1 p3
        have a2 : S2 p = none := none_of fun z => by
          rcases g2.grow p z with w | w | w
          · exact w p2
          · rw [p1] at w; cases w
          · exact p3 w
        have a3 : ¬ Own s2 σ p := fun z => by
          rcases g2.own p z with w | w
          · exact p3 w
          · rw [p1] at w; cases w
        have ne : p' ≠ p := fun z => by subst z; rw [p1] at q0; cases q0
        have g3 := (g.trans g2).setO c1 (fun ds => not_ol c4 true ds) p0 a1 a2 a3 (.l (dv.mono g2.ext))
        have hi' : i < σ.length := by rw [g2.rep.len]; exact c1
        have b3 : ¬ Own (s2.set i (.ow false (.l d1))) (σ.set i (some (.ref p))) p' := by
          rintro ⟨k, pb, es, k1, k2⟩
          by_cases hk : i = k
          · subst hk
            rw [List.getElem?_set_self hi'] at k2
            injection k2 with k2; injection k2 with k2; injection k2 with k2
            exact ne k2.symm
          · rw [List.getElem?_set_ne hk] at k1 k2
            exact q3 ⟨k, pb, es, k1, k2⟩
        have g4 := g3.setO (i := j) (a := p') (vs := .lst ws) (ds := .l d2) (by rw [List.length_set]; exact c2) (fun ds z => by rw [List.getElem?_set_ne c3] at z; exact not_ol c5 true ds z) (g.live p' q0) q1 q2 b3 (.l dw)
        exact q _ _ _ g4
      · rw [if_neg c] at q; exact q.elim

/-! ### methods of an own list -/
def fApp (i : Nat) (f : FE) : FE := fun s => match s[i]? with
  | some (.ow _ (.l _)) => match f s with
    | none => none
    | some (d, s1) => match s1[i]? with
      | some (.ow p (.l ds)) => if ds.length < 100000 then some (.non, s1.set i (.ow p (.l (ds ++ [d])))) else none
      | _ => none
  | _ => none
theorem se_app {i : Nat} (h : SE K te fe) : SE K (tBM K "list" rAppend (tVar i) (tCons te tNil)) (fApp i fe) := by
  intro S H s σ Q r q
  unfold fApp at q
  split at q
  · rename_i p0 ds0 e0
    obtain ⟨a0, vs0, h1, h2, h3, h4⟩ := r.ol i _ _ e0
    refine ⟨_, h1, .inl ⟨rfl, _, .inl (.inl h2)⟩, ?_⟩
    cases e : fe s with
    | none => rw [e] at q; exact q.elim
    | some x =>
      obtain ⟨d, s1⟩ := x
      rw [e] at q
      simp only at q
      refine h.use r e fun v S1 H1 g1 dv => ?_
      split at q
      · rename_i p ds e1
        obtain ⟨a, vs, k1, k2, k3, k4⟩ := g1.rep.ol i p ds e1
        have ea : a = a0 := ref_inj k1 h1
        subst ea
        by_cases c : ds.length < 100000
        · rw [if_pos c] at q
          have g2 := g1.rep.put e1 k1 (.l (k4.app (.cons dv .nil)))
          exact ⟨a, vs, v, rfl, rfl, k2, sz_lt (by rw [k4.length]; exact c), q _ _ _ (g1.trans g2) .non⟩
        · rw [if_neg c] at q; exact q.elim
      · exact q.elim
  · exact q.elim
def fExt (i : Nat) (f : FE) : FE := fun s => match s[i]? with
  | some (.ow _ (.l _)) => match f s with
    | some (.lst es, s1) => match s1[i]? with
      | some (.ow p (.l ds)) => if ds.length + es.length ≤ 100000 then some (.non, s1.set i (.ow p (.l (ds ++ es)))) else none
      | _ => none
    | _ => none
  | _ => none
theorem se_ext {i : Nat} (h : SE K te fe) : SE K (tBM K "list" rExtend (tVar i) (tCons te tNil)) (fExt i fe) := by
  intro S H s σ Q r q
  unfold fExt at q
  split at q
  · rename_i p0 ds0 e0
    obtain ⟨a0, vs0, h1, h2, h3, h4⟩ := r.ol i _ _ e0
    refine ⟨_, h1, .inl ⟨rfl, _, .inl (.inl h2)⟩, ?_⟩
    split at q
    · rename_i es s1 e
      refine h.use r e fun v S1 H1 g1 dv => ?_
      split at q
      · rename_i p ds e1
        obtain ⟨a, vs, k1, k2, k3, k4⟩ := g1.rep.ol i p ds e1
        have ea : a = a0 := ref_inj k1 h1
        subst ea
        by_cases c : ds.length + es.length ≤ 100000
        · rw [if_pos c] at q
          cases dv with
          | lst hb db =>
            have g2 := g1.rep.put e1 k1 (.l (k4.app db))
            exact ⟨a, _, vs, _, rfl, rfl, k2, g1.rep.sub _ _ hb, sz_of (by rw [k4.length, db.length]; exact c), q _ _ _ (g1.trans g2) .non⟩
        · rw [if_neg c] at q; exact q.elim
      · exact q.elim
    · exact q.elim
  · exact q.elim
theorem DtA.erase {S : Hp} : ∀ {vs : List V} {ds : List D} (k : Nat), DtA K S vs ds → DtA K S (vs.eraseIdx k) (ds.eraseIdx k)
  | _, _, _, .nil => by simp; exact .nil
  | _, _, 0, .cons _ a => by simpa using a
  | _, _, k + 1, .cons h a => by simpa using DtA.cons h (DtA.erase k a)
/-- own.pop(k) -/
def fPopO (i : Nat) (f : FE) : FE := fun s => match s[i]? with
  | some (.ow _ (.l _)) => match f s with
    | some (.int k, s1) => match s1[i]? with
      | some (.ow p (.l ds)) => match seqIndex? k ds.length with
        | some j => match ds[j]? with
          | some d => if -(2 ^ 63) ≤ k ∧ k < 2 ^ 63 then some (d, s1.set i (.ow p (.l (ds.eraseIdx j)))) else none
          | none => none
        | none => none
      | _ => none
    | _ => none
  | _ => none
theorem se_popO {i : Nat} (h : SE K te fe) : SE K (tBM K "list" rPopAt (tVar i) (tCons te tNil)) (fPopO i fe) := by
  intro S H s σ Q r q
  unfold fPopO at q
  split at q
  · rename_i p0 ds0 e0
    obtain ⟨a0, vs0, h1, h2, h3, h4⟩ := r.ol i _ _ e0
    refine ⟨_, h1, .inl ⟨rfl, _, .inl (.inl h2)⟩, ?_⟩
    split at q
    · rename_i k s1 e
      refine h.use r e fun v S1 H1 g1 dv => ?_
      cases dv
      split at q
      · rename_i p ds e1
        obtain ⟨a, vs, k1, k2, k3, k4⟩ := g1.rep.ol i p ds e1
        have ea : a = a0 := ref_inj k1 h1
        subst ea
        split at q
        · rename_i j e2
          split at q
          · rename_i d e3
            by_cases c : -(2 ^ 63) ≤ k ∧ k < 2 ^ 63
            · rw [if_pos c] at q
              obtain ⟨y, e4, dy⟩ := k4.get e3
              have g2 := g1.rep.put e1 k1 (.l (k4.erase j))
              exact ⟨a, vs, k, j, y, rfl, rfl, k2, c.1, c.2, by rw [k4.length]; exact e2, e4, q _ _ _ (g1.trans g2) dy⟩
            · rw [if_neg c] at q; exact q.elim
          · exact q.elim
        · exact q.elim
      · exact q.elim
    · exact q.elim
  · exact q.elim
/-- len(own) -/
def fLenO (i : Nat) : FE := fun s => match s[i]? with
  | some (.ow _ (.l ds)) => some (.int ds.length, s)
  | _ => none
theorem se_lenO {i : Nat} : SE K (tCB (fun xs H Q => ∃ x n, xs = [x] ∧ LenV K x H n ∧ Q (.int n) H) (tCons (tVar i) tNil)) (fLenO i) := by
  intro S H s σ Q r q
  unfold fLenO at q
  split at q
  · rename_i p ds e
    obtain ⟨a, vs, h1, h2, h3, h4⟩ := r.ol i _ _ e
    exact ⟨_, h1, _, vs.length, rfl, .inl ⟨_, .inl (.inl h2), rfl⟩, by rw [h4.length]; exact q _ S H (Go.refl r) (.int _)⟩
  · exact q.elim
/-- own != [], own == [] by the truth of its length is not so written in Python: the comparison with a new empty list -/
def fNeNil (i : Nat) : FT := fun s => match s[i]? with
  | some (.ow _ (.l ds)) => some (!ds.isEmpty, s)
  | _ => none
end
end DL
namespace DL
open PySem PySem.Spec PyProof.Rows L2

/-! ### an own object, read as data for a moment: the answer is no object -/
def D.sc : D → Bool
  | .non => true
  | .bl _ => true
  | .int _ => true
  | .str _ => true
  | _ => false
section
variable {X : Cx} {K : PySem.W.Frag} {S H : Hp} {s s1 : Sd} {σ : L2.St} {te ta tb : TE} {fn fn2 : FN} {fe fa fb : FE} {tr : TA} {fr : FA}
theorem Dt.sc {S' : Hp} {v : V} {d : D} (h : Dt K S v d) (c : d.sc = true) : Dt K S' v d := by
  cases h with
  | non => exact .non
  | bl b => exact .bl b
  | int i => exact .int i
  | str x => exact .str x
  | _ => cases c
theorem Rep.lend (r : Rep K S H s σ) {i : Nat} {p : Bool} {od : OD} (e : s[i]? = some (.ow p od)) :
    ∃ a o, σ[i]? = some (some (.ref a)) ∧ Same S (upd S a o) ∧ Same (upd S a o) H ∧ Dt K (upd S a o) (.ref a) od.d ∧ ∀ S'' H'', Al (upd S a o) H S'' H'' → Go K S H s σ S H'' s σ := by
  obtain ⟨a, o, e0, e1, e2, e3⟩ := r.ow i p od e
  have sm : Same S (upd S a o) := same_upd e2
  refine ⟨a, o, e0, sm, fun b u h => ?_, (e3.mono sm).data upd_same, fun S'' H'' al => ?_⟩
  · by_cases z : b = a
    · subst z; rw [upd_same] at h; rw [e1]; exact h
    · rw [upd_ne z] at h; exact r.sub b u h
  · have al2 : Al S H S H'' := ⟨Same.refl S, al.same, fun b u h => al.same b u (r.sub b u h), fun b h => .inl h⟩
    exact al2.go r
/-- op(own, e) -/
def fOpO1 (g : D → D → Option D) (i : Nat) (fb : FE) : FE := fun s => match s[i]? with
  | some (.ow _ _) => match fb s with
    | none => none
    | some (b, s1) => match s1[i]? with
      | some (.ow _ od) => match g od.d b with
        | some z => if z.sc = true then some (z, s1) else none
        | none => none
      | _ => none
  | _ => none
theorem se_opO1 {r : R2} {g : D → D → Option D} {i : Nat} (hb : SE K tb fb) (hr : OpS K r g) : SE K (tOp r (tVar i) tb) (fOpO1 g i fb) := by
  intro S H s σ Q r0 q
  unfold fOpO1 at q
  split at q
  · rename_i p0 od0 e0
    obtain ⟨a0, o0, k0, _⟩ := r0.ow i _ _ e0
    refine ⟨_, k0, ?_⟩
    cases e : fb s with
    | none => rw [e] at q; exact q.elim
    | some x =>
      obtain ⟨b, s1⟩ := x
      rw [e] at q
      simp only at q
      refine hb.use r0 e fun v S1 H1 g1 dv => ?_
      split at q
      · rename_i p od e1
        obtain ⟨a, o, k1, k2, k3, k4, k5⟩ := g1.rep.lend e1
        have ea : a = a0 := ref_inj k1 k0
        subst ea
        split at q
        · rename_i z ez
          by_cases c : z.sc = true
          · rw [if_pos c] at q
            exact hr (upd S1 a o) H1 (.ref a) v od.d b z Q k3 k4 (dv.mono k2) ez fun w S' H' al dw => q w S1 H' (g1.trans (k5 S' H' al)) (dw.sc c)
          · rw [if_neg c] at q; exact q.elim
        · exact q.elim
      · exact q.elim
  · exact q.elim
/-- op(e, own) -/
def fOpO2 (g : D → D → Option D) (i : Nat) (fa : FE) : FE := fun s => match fa s with
  | none => none
  | some (a, s1) => match s1[i]? with
    | some (.ow _ od) => match g a od.d with
      | some z => if z.sc = true then some (z, s1) else none
      | none => none
    | _ => none
theorem se_opO2 {r : R2} {g : D → D → Option D} {i : Nat} (ha : SE K ta fa) (hr : OpS K r g) : SE K (tOp r ta (tVar i)) (fOpO2 g i fa) := by
  intro S H s σ Q r0 q
  unfold fOpO2 at q
  cases e : fa s with
  | none => rw [e] at q; exact q.elim
  | some x =>
    obtain ⟨a', s1⟩ := x
    rw [e] at q
    simp only at q
    refine ha.use r0 e fun v S1 H1 g1 dv => ?_
    split at q
    · rename_i p od e1
      obtain ⟨a, o, k1, k2, k3, k4, k5⟩ := g1.rep.lend e1
      refine ⟨_, k1, ?_⟩
      split at q
      · rename_i z ez
        by_cases c : z.sc = true
        · rw [if_pos c] at q
          exact hr (upd S1 a o) H1 v (.ref a) a' od.d z Q k3 (dv.mono k2) k4 ez fun w S' H' al dw => q w S1 H' (g1.trans (k5 S' H' al)) (dw.sc c)
        · rw [if_neg c] at q; exact q.elim
      · exact q.elim
    · exact q.elim
/-- a built-in of one own object -/
def fCBO (g : List D → Option D) (i : Nat) : FE := fun s => match s[i]? with
  | some (.ow _ od) => match g [od.d] with
    | some z => if z.sc = true then some (z, s) else none
    | none => none
  | _ => none
theorem se_cbO {r : List V → Hp → VK → Prop} {g : List D → Option D} {i : Nat} (hr : CallS K r g) : SE K (tCB r (tCons (tVar i) tNil)) (fCBO g i) := by
  intro S H s σ Q r0 q
  unfold fCBO at q
  split at q
  · rename_i p od e1
    obtain ⟨a, o, k1, k2, k3, k4, k5⟩ := r0.lend e1
    refine ⟨_, k1, ?_⟩
    split at q
    · rename_i z ez
      by_cases c : z.sc = true
      · rw [if_pos c] at q
        exact hr (upd S a o) H [.ref a] [od.d] z Q k3 (.cons k4 .nil) ez fun w S' H' al dw => q w S H' (k5 S' H' al) (dw.sc c)
      · rw [if_neg c] at q; exact q.elim
    · exact q.elim
  · exact q.elim

/-! ### slices -/
abbrev FO := Sd → Option (Option Int × Sd)
def SO (K : PySem.W.Frag) (t : TO) (f : FO) : Prop := ∀ S H s σ Q, Rep K S H s σ → (match f s with
  | some (o, s') => ∀ S' H', Go K S H s σ S' H' s' σ → Q o H'
  | none => False) → t σ H Q
structure PDo (X : Cx) (e : Option Expr) (t : TO) (f : FO) : Prop where
  po : PO X e t
  ok : SO X.K t f
def foN : FO := fun s => some (none, s)
def foS (f : FE) : FO := fun s => match f s with
  | some (.int i, s1) => some (some i, s1)
  | _ => none
theorem do_none : PDo X none tNoPart foN := ⟨po_none, fun S H s σ Q r h => h S H (Go.refl r)⟩
theorem do_some {e : Expr} (h : PD X e te fe) : PDo X (some e) (tPart te) (foS fe) := ⟨po_some h.pe, fun S H s σ Q r q => by
  unfold foS at q
  split at q
  · rename_i o s' e0
    split at e0
    · rename_i i s1 e1
      cases e0
      refine h.ok.use r e1 fun v S' H' g d => ?_
      cases d
      exact ⟨i, rfl, q S' H' g⟩
    · cases e0
  · exact q.elim⟩
def cutD (xs : List D) (lo hi : Option Int) : List D := (xs.drop (HT.sIx xs.length 0 lo)).take (HT.sIx xs.length xs.length hi - HT.sIx xs.length 0 lo)
theorem DtA.cut {S : Hp} {vs : List V} {ds : List D} (h : DtA K S vs ds) (lo hi : Option Int) : DtA K S (cutV vs lo hi) (cutD ds lo hi) := by
  unfold cutV cutD
  rw [h.length]
  exact (h.drop _).take _
/-- xs[lo:hi], a list: a new one -/
def fNCut (f : FE) (fl fh : FO) : FN := fun s => match f s with
  | none => none
  | some (d, s1) => match fl s1 with
    | none => none
    | some (lo, s2) => match fh s2 with
      | none => none
      | some (hi, s3) => match d with
        | .lst ds => some (cutD ds lo hi, s3)
        | .rl ds => some (cutD ds lo hi, s3)
        | _ => none
theorem sn_cut {tl th : TO} {fl fh : FO} (h : SE K te fe) (h1 : SO K tl fl) (h2 : SO K th fh) : SN K (tSl (rSlL K) te tl th) (fNCut fe fl fh) := by
  intro S H s σ Q r q
  unfold fNCut at q
  cases e : fe s with
  | none => rw [e] at q; exact q.elim
  | some x =>
    obtain ⟨d, s1⟩ := x
    rw [e] at q
    simp only at q
    refine h.use r e fun v S1 H1 g1 dv => ?_
    refine h1 S1 H1 s1 σ _ g1.rep ?_
    cases e2 : fl s1 with
    | none => rw [e2] at q; exact q.elim
    | some y =>
      obtain ⟨lo, s2⟩ := y
      rw [e2] at q
      simp only at q
      intro S2 H2 g2
      refine h2 S2 H2 s2 σ _ g2.rep ?_
      cases e3 : fh s2 with
      | none => rw [e3] at q; exact q.elim
      | some z =>
        obtain ⟨hi, s3⟩ := z
        rw [e3] at q
        simp only at q
        intro S3 H3 g3
        have dv := (dv.mono g2.ext).mono g3.ext
        have g := (g1.trans g2).trans g3
        cases dv with
        | lst ha da =>
          refine ⟨_, _, rfl, .inl (.inl (g3.rep.sub _ _ ha)), fun p hp => ?_⟩
          obtain ⟨g4, a1, a2, a3⟩ := g.lay (o := .lst _) hp
          exact q p _ S3 _ g4 a1 upd_same a2 a3 (da.cut lo hi)
        | rl ha da =>
          refine ⟨_, _, rfl, g3.rep.sub.seq ha, fun p hp => ?_⟩
          obtain ⟨g4, a1, a2, a3⟩ := g.lay (o := .lst _) hp
          exact q p _ S3 _ g4 a1 upd_same a2 a3 (da.cut lo hi)
        | _ => exact q.elim
theorem pn_cut {e : Expr} {lo hi : Option Expr} {tl th : TO} {fl fh : FO} {p2 pos : Pos} (h : PD X e te fe) (h1 : PDo X lo tl fl) (h2 : PDo X hi th fh) : PDn X (.Subscript e (.Slice lo hi none p2) pos) (tSl (rSlL X.K) te tl th) (fNCut fe fl fh) := ⟨pe_slice sl_list h.pe h1.po h2.po, sn_cut h.ok h1.ok h2.ok⟩

/-! ### sums, least and greatest of ints -/
def ints? : List D → Option (List Int)
  | [] => some []
  | .int b :: r => match ints? r with
    | some bs => some (b :: bs)
    | none => none
  | _ => none
theorem ints_of {S : Hp} : ∀ {vs : List V} {ds : List D} {bs : List Int}, DtA K S vs ds → ints? ds = some bs → vs = bs.map V.int
  | _, _, _, .nil, e => by cases e; rfl
  | _, _, bs, .cons h a, e => by
    cases h with
    | int b =>
      simp only [ints?] at e
      split at e
      · rename_i b' r' c
        cases e
        rw [ints_of a c]
        rfl
      · cases e
    | _ => cases e
def gSum : List D → Option D
  | [.lst ds] => match ints? ds with
    | some bs => some (.int bs.sum)
    | none => none
  | _ => none
theorem cs_sum : CallS K (rSum K) gSum := by
  intro S H vs ds z Q sm d e q
  unfold gSum at e
  split at e
  · obtain ⟨v, rfl, h⟩ := da1 d
    split at e
    · rename_i bs c
      cases e
      cases h with
      | lst ha da =>
        rw [ints_of da c] at ha
        exact ⟨_, bs, rfl, .inl (.inl (sm _ _ ha)), q _ S H (Al.refl sm) (.int _)⟩
    · cases e
  · cases e
def maxI : Int → List Int → Int
  | m, [] => m
  | m, x :: r => maxI (if m < x then x else m) r
def minI : Int → List Int → Int
  | m, [] => m
  | m, x :: r => minI (if x < m then x else m) r
theorem maxI_ok : ∀ (r : List Int) (m : Int), (maxI m r = m ∨ maxI m r ∈ r) ∧ m ≤ maxI m r ∧ ∀ y ∈ r, y ≤ maxI m r
  | [], m => ⟨.inl rfl, Int.le_refl _, fun y h => by cases h⟩
  | x :: r, m => by
    obtain ⟨h1, h2, h3⟩ := maxI_ok r (if m < x then x else m)
    refine ⟨?_, ?_, fun y hy => ?_⟩
    · show maxI (if m < x then x else m) r = m ∨ maxI (if m < x then x else m) r ∈ x :: r
      rcases h1 with h1 | h1
      · rw [h1]
        split
        · exact .inr List.mem_cons_self
        · exact .inl rfl
      · exact .inr (List.mem_cons_of_mem _ h1)
    · show m ≤ maxI (if m < x then x else m) r
      split at h2 <;> rename_i c <;> simp only [c, if_true, if_false] <;> omega
    · show y ≤ maxI (if m < x then x else m) r
      rcases List.mem_cons.mp hy with rfl | hy
      · split at h2 <;> rename_i c <;> simp only [c, if_true, if_false] <;> omega
      · exact h3 y hy
theorem minI_ok : ∀ (r : List Int) (m : Int), (minI m r = m ∨ minI m r ∈ r) ∧ minI m r ≤ m ∧ ∀ y ∈ r, minI m r ≤ y
  | [], m => ⟨.inl rfl, Int.le_refl _, fun y h => by cases h⟩
  | x :: r, m => by
    obtain ⟨h1, h2, h3⟩ := minI_ok r (if x < m then x else m)
    refine ⟨?_, ?_, fun y hy => ?_⟩
    · show minI (if x < m then x else m) r = m ∨ minI (if x < m then x else m) r ∈ x :: r
      rcases h1 with h1 | h1
      · rw [h1]
        split
        · exact .inr List.mem_cons_self
        · exact .inl rfl
      · exact .inr (List.mem_cons_of_mem _ h1)
    · show minI (if x < m then x else m) r ≤ m
      split at h2 <;> rename_i c <;> simp only [c, if_true, if_false] <;> omega
    · show minI (if x < m then x else m) r ≤ y
      rcases List.mem_cons.mp hy with rfl | hy
      · split at h2 <;> rename_i c <;> simp only [c, if_true, if_false] <;> omega
      · exact h3 y hy
def gMin : List D → Option D
  | [.lst ds] => match ints? ds with
    | some (b :: bs) => some (.int (minI b bs))
    | _ => none
  | _ => none
theorem cs_min : CallS K (rMin K) gMin := by
  intro S H vs ds z Q sm d e q
  unfold gMin at e
  split at e
  · obtain ⟨v, rfl, h⟩ := da1 d
    split at e
    · rename_i b bs c
      cases e
      cases h with
      | lst ha da =>
        rw [ints_of da c] at ha
        refine ⟨_, b :: bs, rfl, .inl (.inl (sm _ _ ha)), by simp, fun m hm hl => ?_⟩
        obtain ⟨h1, h2, h3⟩ := minI_ok bs b
        have em : m = minI b bs := by
          have a1 : m ≤ minI b bs := by
            rcases h1 with h1 | h1
            · rw [h1]; exact hl b List.mem_cons_self
            · exact hl _ (List.mem_cons_of_mem _ h1)
          have a2 : minI b bs ≤ m := by
            rcases List.mem_cons.mp hm with rfl | hm
            · exact h2
            · exact h3 m hm
          omega
        rw [em]
        exact q _ S H (Al.refl sm) (.int _)
    · cases e
  · cases e
def gMax : List D → Option D
  | [.lst ds] => match ints? ds with
    | some (b :: bs) => some (.int (maxI b bs))
    | _ => none
  | _ => none
theorem cs_max : CallS K (rMax K) gMax := by
  intro S H vs ds z Q sm d e q
  unfold gMax at e
  split at e
  · obtain ⟨v, rfl, h⟩ := da1 d
    split at e
    · rename_i b bs c
      cases e
      cases h with
      | lst ha da =>
        rw [ints_of da c] at ha
        refine ⟨_, b :: bs, rfl, .inl (.inl (sm _ _ ha)), by simp, fun m hm hl => ?_⟩
        obtain ⟨h1, h2, h3⟩ := maxI_ok bs b
        have em : m = maxI b bs := by
          have a1 : maxI b bs ≤ m := by
            rcases h1 with h1 | h1
            · rw [h1]; exact hl b List.mem_cons_self
            · exact hl _ (List.mem_cons_of_mem _ h1)
          have a2 : m ≤ maxI b bs := by
            rcases List.mem_cons.mp hm with rfl | hm
            · exact h2
            · exact h3 m hm
          omega
        rw [em]
        exact q _ S H (Al.refl sm) (.int _)
    · cases e
  · cases e
/-- tuple(x) -/
def gTuple : List D → Option D
  | [.lst ds] => some (.tup ds)
  | [.rl ds] => some (.tup ds)
  | [.tup ds] => some (.tup ds)
  | _ => none
theorem cs_tuple : CallS K (fun xs H Q => ∃ p ys, xs = [.ref p] ∧ ((SqL K H p ys ∧ ∀ l, H l = none → Q (.ref l) (upd H l (.tup ys))) ∨ (SqT K H p ys ∧ Q (.ref p) H))) gTuple := by
  intro S H vs ds z Q sm d e q
  unfold gTuple at e
  split at e
  · obtain ⟨v, rfl, h⟩ := da1 d
    cases e
    cases h with
    | lst ha da => exact ⟨_, _, rfl, .inl ⟨.inl (.inl (sm _ _ ha)), fun l hl => q _ _ _ (Al.new sm hl) (.tup (.inl (.inl upd_same)) (da.mono (Al.new sm hl).ext))⟩⟩
  · obtain ⟨v, rfl, h⟩ := da1 d
    cases e
    cases h with
    | rl ha da => exact ⟨_, _, rfl, .inl ⟨sm.seq ha, fun l hl => q _ _ _ (Al.new sm hl) (.tup (.inl (.inl upd_same)) (da.mono (Al.new sm hl).ext))⟩⟩
  · obtain ⟨v, rfl, h⟩ := da1 d
    cases e
    cases h with
    | tup ha da => exact ⟨_, _, rfl, .inr ⟨same_t sm ha, q _ S H (Al.refl sm) (.tup ha da)⟩⟩
  · cases e
end
end DL
/-! EX0: own exceptions over any built-in base, with an own __init__ or none, as values. -/
namespace PySem
namespace EX
open PySem.W PySem.Calls PyProof.Rows PySem.HandSPX

/-- what is asked of the name of the base's __init__ -/
structure InitF (B initId : String) : Prop where
  plain : plainId initId = true
  entry : entryFor table initId = some Builtin.«BaseException.__init__»
  split : splitId initId = some (B, "__init__")
  kind : builtinKind initId = some .slot
  row : Manifest.signature? initId = some ⟨.positional, "*", B, .self, [⟨"args", .varPos, false⟩]⟩
  star : (B != "*") = true
theorem InitF.of {B n i : String} (F : ExcCallFacts B n i) : InitF B i := ⟨F.init.plain, F.initEntry, F.initSplit, F.initKind, F.initRow, F.noStar⟩
theorem init_KeyError : InitF "KeyError" "KeyError.__init__" where
  plain := excClass_KeyError.init.plain
  entry := excClass_KeyError.initEntry
  split := excClass_KeyError.initSplit
  kind := by decide +kernel
  row := by kernel_rfl
  star := by decide +kernel

section
variable {M : Model} {A : Around} {E : Value → Shared → Prop} {hp : Heap} {g : Array GenState} {d : Drawn} {t : Nat} {os : OsState}
variable {nm q : Str} {C N : Addr} {bs bm bmB : List Value} {hdct : Bool} {sn : List Str} {sub : List Value} {ab : Bool} {col : Option Bool} {dd : Option Addr} {k0 k1 k2 k3 k5 : Option Value} {B B2 newId initId initId2 : String}

theorem init_check (I : InitF B2 initId2) (cB : bm.contains (.type B2) = true) {e : Addr} {oe : Obj} {us : List Value} {Q : Unit → Shared → Prop}
    (hC : hp.get? C = some (excClassObj nm q C N bs bm hdct sn sub ab col dd k0 k1 k2 k3 k5 newId)) (he : hp.get? e = some oe) (hc : oe.cls = .ref C) (z : Q () ⟨hp, g, d, t, os⟩) :
    wpAny M A (checkBuiltinCall initId2 ⟨.ref e :: us, []⟩) Q E ⟨hp, g, d, t, os⟩ := by
  have c2 : (Value.ref C :: bm).contains (.type B2) = true := by rw [List.contains_cons, cB, Bool.or_true]
  have st := I.star
  simp only [checkBuiltinCall, I.kind, I.split, I.row]
  repeat (first
    | (with_reducible refine wpAny_loadPart_at he ?_
       rw [hc])
    | (with_reducible refine wpAny_isSubtype_exc hC ?_
       rw [c2])
    | with_reducible refine wpAny_loadPart_at hC ?_
    | wp_step)
  refine wpAny_onRaise ?_
  have e0 : ∀ (a b : String) (n : Nat), Bind.check ⟨.positional, "*", B2, .self, [⟨"args", .varPos, false⟩]⟩ a b n [] = pure () := fun a b n => check_star_args "*" B2 a b .self n
  show wpAny M A (Bind.check ⟨.positional, "*", B2, .self, [⟨"args", .varPos, false⟩]⟩ _ _ _ []) _ _ _
  rw [e0]
  exact wpAny_pure z
theorem new_check (F : ExcBaseFacts B newId initId bmB) (cB : bm.contains (.type B) = true) {us : List Value} {Q : Unit → Shared → Prop}
    (hC : hp.get? C = some (excClassObj nm q C N bs bm hdct sn sub ab col dd k0 k1 k2 k3 k5 newId)) (z : Q () ⟨hp, g, d, t, os⟩) : wpAny M A (checkBuiltinCall newId ⟨.ref C :: us, []⟩) Q E ⟨hp, g, d, t, os⟩ := by
  have c2 : (Value.ref C :: bm).contains (.type B) = true := by rw [List.contains_cons, cB, Bool.or_true]
  have st := F.noStar
  simp only [checkBuiltinCall, F.newKind, F.newSplit, F.newRow]
  repeat (first
    | with_reducible refine wpAny_madeBy_exc hC ?_
    | with_reducible refine wpAny_staticBase_exc hC ?_
    | (with_reducible refine wpAny_isSubtype_exc hC ?_
       rw [c2])
    | with_reducible refine wpAny_loadPart_at hC ?_
    | simp only [Bool.false_eq_true, bne_self_eq_false, if_false]
    | wp_step)
  exact z
end
section
variable {prog : Program} {w : World} {A : Around} {E : Value → Shared → Prop} {R : Result → Shared → Prop} {hp : Heap} {g : Array GenState} {d : Drawn} {t : Nat} {os : OsState}
variable {nm q : Str} {C N : Addr} {bs bm bmB : List Value} {hdct : Bool} {sn : List Str} {sub : List Value} {ab : Bool} {col : Option Bool} {dd : Option Addr} {k0 k1 k2 k3 k5 : Option Value} {B B2 newId initId initId2 : String}

theorem new_one (F : ExcBaseFacts B newId initId bmB) (cB : bm.contains (.type B) = true) (cA : bm.contains (.type "AttributeError") = false) (cN : bm.contains (.type "NameError") = false) {us : List Value}
    (hC : hp.get? C = some (excClassObj nm q C N bs bm hdct sn sub ab col dd k0 k1 k2 k3 k5 newId))
    (z : R (.ok (.ret (.ref (hp.objs.size + 1)))) ⟨(hp.push (kdv_tup us)).push (excO C hp.objs.size), g, d, t, os⟩) (hl : us.length ≤ sizeLine) :
    codeAny (model prog w) A (.builtin newId ⟨.ref C :: us, []⟩) R ⟨hp, g, d, t, os⟩ := by
  have en := F.ends
  have c1 : (Value.ref C :: bm).contains (.type B) = true := by rw [List.contains_cons, cB, Bool.or_true]
  have c2 : (Value.ref C :: bm).contains (.type "AttributeError") = false := by rw [List.contains_cons, cA, Bool.or_false]; rfl
  have c3 : (Value.ref C :: bm).contains (.type "NameError") = false := by rw [List.contains_cons, cN, Bool.or_false]; rfl
  refine codeAny_builtinAt (F.entry) ?_
  unfold Builtin.«BaseException.__new__»
  apply wpAt_bind
  show wpAt _ _ _ ((stack : Sem _) >>= _) _ _ _
  refine wpAt_bind (wpAt_stack fun _ _ => wpAt_of_wpAny ?_)
  wp_walk
  refine wpAt_of_wpAny ?_
  rw [F.owner]
  repeat (first
    | with_reducible refine wpAny_loadPart_at hC ?_
    | with_reducible refine wpAny_madeHere_exc F.canon hC ?_
    | (with_reducible refine wpAny_isSubtype_exc hC ?_
       first | rw [c1] | rw [c2] | rw [c3])
    | wp_step)
  show R _ _
  rw [Heap.size_push]
  exact z
end
end EX
end PySem
namespace PySem
namespace EX
open PySem.W PySem.Calls PyProof.Rows PySem.HandSPX
open Builtin Builtin.ObjectAttr
section
variable {prog : Program} {w : World} {A : Around} {E : Value → Shared → Prop} {R : Result → Shared → Prop} {hp : Heap} {g : Array GenState} {d : Drawn} {t : Nat} {os : OsState}
variable {nm q : Str} {C N : Addr} {bs bm bmB : List Value} {hdct : Bool} {sn : List Str} {sub : List Value} {ab : Bool} {col : Option Bool} {dd : Option Addr} {k0 k1 k2 k3 k5 : Option Value} {B B2 newId initId initId2 : String}

/-- type.__call__: the object is made, then the own __init__ runs -/
theorem type_call (F : ExcBaseFacts B newId initId bmB) (cB : bm.contains (.type B) = true) (cA : bm.contains (.type "AttributeError") = false) (cN : bm.contains (.type "NameError") = false) {us : List Value} {fI : Addr} {Q : Fin → Shared → Prop}
    (hC : hp.get? C = some (excClassObj nm q C N bs bm hdct sn sub ab col dd k0 k1 k2 k3 k5 newId))
    (li : W.Looks (model prog w) hp (typeLookup (.ref C) "__init__") (some (.ref fI))) (lb : ∀ self, W.Looks (model prog w) hp (bindSpecial (.ref fI) self) (.ref fI, [self])) (hl : us.length ≤ sizeLine)
    (z : codeAny (model prog w) A (.call (.ref fI) ⟨.ref (hp.objs.size + 1) :: us, []⟩)
      (fun r s' => match r with | .ok (.ret v) => v = .none ∧ Q (.done (.ret (.ref (hp.objs.size + 1)))) s' | .ok _ => False | .error e => E e s')
      ⟨(hp.push (W.kdv_tup us)).push (excO C hp.objs.size), g, d, t, os⟩) :
    wpAny (model prog w) A (Builtin.«type.__call__» ⟨.ref C :: us, []⟩) Q E ⟨hp, g, d, t, os⟩ := by
  repeat (first
    | with_reducible refine wpAny_madeBy_exc hC ?_
    | with_reducible refine wpAny_loadPart_at hC ?_
    | wp_step)
  refine codeAny_call_builtin_code (Code.quiet_builtin _ (F.quiet)) (new_check F cB hC (new_one F cB cA cN hC ?_ hl))
  show wpAny _ _ _ _ _ _
  have kp : ∀ b o, hp.get? b = some o → ((hp.push (W.kdv_tup us)).push (excO C hp.objs.size)).get? b = some o := fun b o y => Heap.get?_push_of_some _ (Heap.get?_push_of_some _ y)
  have hget : ((hp.push (W.kdv_tup us)).push (excO C hp.objs.size)).get? (hp.objs.size + 1) = some (excO C hp.objs.size) := by heap_get
  have hC2 := kp _ _ hC
  have own : (Value.ref C :: bm).contains (.ref C) = true := by simp
  unfold isInstance
  repeat (first
    | (with_reducible refine wpAny_isSubtype_exc hC2 ?_
       rw [own])
    | with_reducible refine wpAny_loadPart_at hget ?_
    | wp_step)
  show wpAny _ _ (typeLookup (.ref C) _) _ _ _
  refine (li.keeps kp).at (wpAny_holding (wpAny_bind (((lb (.ref (hp.objs.size + 1))).keeps kp).at ?_)))
  refine wpAny_bind (wpAny_call (codeAny_mono z fun r s' y => ?_))
  cases r with
  | error e => exact y
  | ok fl =>
    cases fl with
    | ret v =>
      obtain ⟨rfl, y⟩ := y
      first
        | exact wpAny_pure (wpAny_pure y)
        | (wp_walk
           exact y)
    | next => exact False.elim y
    | brk => exact False.elim y
    | cont => exact False.elim y
theorem call_exc (F : ExcBaseFacts B newId initId bmB) (cB : bm.contains (.type B) = true) (cA : bm.contains (.type "AttributeError") = false) (cN : bm.contains (.type "NameError") = false) {us : List Value} {fI : Addr}
    (hC : hp.get? C = some (excClassObj nm q C N bs bm hdct sn sub ab col dd k0 k1 k2 k3 k5 newId))
    (li : W.Looks (model prog w) hp (typeLookup (.ref C) "__init__") (some (.ref fI))) (lb : ∀ self, W.Looks (model prog w) hp (bindSpecial (.ref fI) self) (.ref fI, [self])) (hl : us.length ≤ sizeLine)
    (z : codeAny (model prog w) (A.under (.builtin "type.__call__" ⟨.ref C :: us, []⟩)) (.call (.ref fI) ⟨.ref (hp.objs.size + 1) :: us, []⟩) (W.InitBack (hp.objs.size + 1) R)
      ⟨(hp.push (W.kdv_tup us)).push (excO C hp.objs.size), g, d, t, os⟩) :
    codeAny (model prog w) A (.call (.ref C) ⟨us, []⟩) R ⟨hp, g, d, t, os⟩ := by
  have g1 := tc_lookup
  have g2 := tc_bind (.ref C)
  have hTy : Shared.TypeIs ⟨hp, g, d, t, os⟩ (.ref C) "type" := ⟨_, hC, rfl⟩
  apply codeAny_of_tree
  show wpAny _ _ (callAny (.ref C) _) _ _ _
  repeat (any_goals (first
    | assumption
    | with_reducible refine wpAny_loadPart_at hC ?_
    | wp_step))
  refine ⟨rfl, codeAny_call_builtin_at (Code.quiet_builtin _ (by decide +kernel)) entry_typeCall (wpAny_check_type_call_sub hC (type_call F cB cA cN hC li lb hl (codeAny_mono z fun r s' y => ?_)))⟩
  rcases r with e | (v | _ | _ | _) <;> exact y
/-- B.__init__(e, ..) -/
theorem base_init (I : InitF B2 initId2) (cB : bm.contains (.type B2) = true) {e t0 : Addr} {us : List Value}
    (hC : hp.get? C = some (excClassObj nm q C N bs bm hdct sn sub ab col dd k0 k1 k2 k3 k5 newId)) (he : hp.get? e = some (excO C t0)) (hl : us.length ≤ sizeLine)
    (z : ∀ h' t1, (∀ b o, b ≠ e → hp.get? b = some o → h'.get? b = some o) → h'.get? e = some (excO C t1) → R (.ok (.ret .none)) ⟨h', g, d, t, os⟩) :
    codeAny (model prog w) A (.call (.builtin initId2) ⟨.ref e :: us, []⟩) R ⟨hp, g, d, t, os⟩ := by
  refine codeAny_call_builtin I.plain I.entry (init_check I cB hC he rfl ?_)
  wp_walk
  refine z _ hp.objs.size (fun b o hb ho => (Heap.get?_update_other _ _ (Ne.symm hb)).trans (Heap.get?_push_of_some _ ho)) ?_
  exact (Heap.get?_update_self _ (Heap.get?_push_of_some _ he) rfl).trans rfl
/-- self.name = v, no dict yet -/
theorem osa_first {K : W.Frag} {name : Str} {tk : Tok} {v : Value} {x C : Addr} {fv : Array Value} {cd : ClassData}
    (X : K.In hp) (hx : hp.get? x = some { cls := .ref C, data := .fields fv }) (hcd : W.clsIn K C = some cd) (hr : ∀ self, refuseLoop self "__setattr__" cd.mro = pure ()) (hne : cd.mro.isEmpty = false) (hob : cd.mro.contains (.type "object") = true) (hh : cd.hasDict = true) (ha : W.findIn K (.ref C) name = some none)
    (z : ∀ h' tk' dx, (∀ b o, b ≠ x → hp.get? b = some o → h'.get? b = some o) → hp.objs.size ≤ dx → dx ≠ x → h'.get? x = some { cls := .ref C, dict := some dx, data := .fields fv } →
      h'.Ns1 dx (fun y => if y = name then some v else none) → R (.ok (.ret .none)) ⟨h', g, d, tk', os⟩) :
    codeAny (model prog w) A (.call (.builtin "object.__setattr__") ⟨[.ref x, .str name tk, v], []⟩) R ⟨hp, g, d, t, os⟩ := by
  have I : W.InstAt hp x { cls := .ref C, data := .fields fv } C none := ⟨hx, rfl, rfl, trivial⟩
  have nx : x ≠ hp.objs.size := Nat.ne_of_lt (Heap.lt_size hx)
  have S := F.store_object
  have isO : W.Looks (model prog w) hp (isInstance (.ref x) (.type "object")) true := I.type.andThen (W.looks_mroIn X (by
    unfold W.mroIn
    rw [hcd, Option.bind_some, if_neg (by rw [hne]; decide), hob]))
  refine codeAny_call_builtin S.slot.plain S.entry (@W.check_slot (model prog w) _ _ ⟨hp, g, d, t, os⟩ "object.__setattr__" "object" "__setattr__" (.ref x) [.str name tk, v] [] _ S.kind S.split isO (S.args (.ref x) (.str name tk) v) ?_)
  have lm : W.Looks (model prog w) hp (mroOf (.ref C)) cd.mro := (W.looks_clsIn X hcd).andThen .now
  have ln : W.Looks (model prog w) hp (storeTaker? none) none := .now
  have lc : W.Looks (model prog w) hp (classData C) cd := W.looks_clsIn X hcd
  rw [W.osa_eq, refuse_eq]
  apply wpAny_bind
  refine wpAny_bind (I.type.at (wpAny_bind (lm.at ?_)))
  rw [hr]
  refine wpAny_pure (wpAny_bind (I.type.at (wpAny_bind ((W.looks_findIn X ha).at (wpAny_bind (ln.at ?_))))))
  show wpAny _ _ (storeInOwnDict (.ref x) (.ref C) (.str name tk) name v false) _ _ _
  cases cd
  dsimp only at hh
  subst hh
  unfold storeInOwnDict ownDictForStores
  repeat (first
    | with_reducible refine store_in_new ?_ ?_
    | with_reducible refine lc.at ?_
    | with_reducible refine wpAny_loadPart_at hx ?_
    | wp_step)
  · exact ⟨_, #[], _, (Heap.get?_update_ne _ _ _ _ nx.symm).trans (Heap.get?_push_at rfl rfl), rfl, fun e he => absurd he (by simp), fun _ => rfl⟩
  · intro h' tk' hn' hs
    have hx1 : (hp.push { cls := .type "dict", data := .dict #[] }).get? x = some { cls := .ref C, data := .fields fv } := Heap.get?_push_of_some _ hx
    exact z h' tk' hp.objs.size (fun b o hb ho => (hs.2 b (Nat.ne_of_lt (Heap.lt_size ho))).trans ((Heap.get?_update_ne _ _ _ _ hb).trans (Heap.get?_push_of_some _ ho))) (Nat.le_refl _) nx.symm
      ((hs.2 x nx).trans (Heap.get?_update_self _ hx1 rfl)) hn'
end
end EX
end PySem
namespace L2
open PySem PySem.Spec PyProof.Rows

/-- an own exception class, and the base that makes its objects -/
structure OwnE (K : PySem.W.Frag) (C : Addr) (bm bmB : List Value) (B newId initId : String) : Prop where
  base : ExcBaseFacts B newId initId bmB
  cls : ∃ nm q N bs sn sub ab col dd k0 k1 k2 k3 k5, K.lookup C = some (excClassObj nm q C N bs bm true sn sub ab col dd k0 k1 k2 k3 k5 newId)
  hB : bm.contains (.type B) = true
  hA : bm.contains (.type "AttributeError") = false
  hN : bm.contains (.type "NameError") = false
  hO : bm.contains (.type "object") = true
  rf : ∀ self, refuseLoop self "__setattr__" bm = pure ()
  sa : PySem.W.findIn K (.ref C) "__setattr__" = some (some (.builtin "object.__setattr__"))
  kC : PySem.W.keepIn K (.ref C) = true

/-- a name stands for a class whose __init__ is the built-in i -/
def BaseI (X : Cx) (x : Str) (i : String) : Prop := ∀ (p1 : Pos) (pins : List (Addr × Obj)) (σ : St) (H : Hp) (s : Shared) (pl : Sem Bool) (Q : Value × List Value → Shared → Prop) (E : Value → Shared → Prop), Inv X pins σ H s →
  (∀ s', Inv X pins σ H s' → Q (.builtin i, []) s') → wpAny (model X.prog X.w) X.A (eval (.Name x p1) X.env) (fun ov s1 => wpAny (model X.prog X.w) X.A (getMethod ov "__init__" pl) Q E s1) E s
section
variable {X : Cx}
theorem baseI_ty {x : Str} {T i : String} (hg : Gl X x) (hm : X.mg x = none) (hv : bootBuiltins x = some (.type T)) (ht : typeOf (.type T) = pure (.type "type")) (hs : Manifest.isStub T = false)
    (at_ : PySem.W.findCls X.K (.type T) (.type "type") "__init__" = some (.val (.builtin i))) (hh : PySem.W.handedIn (.builtin i) = true) (hn : x ≠ "__name__" := by decide) (hd : (x == ("__debug__" : Str)) = false := by decide) : BaseI X x i := fun p1 pins σ H s pl Q E I h => by
  refine ld_blt I hg hm hv ?_ hn hd
  obtain ⟨m, fr⟩ := I.fr
  exact PySem.W.method_type fr I.ok.mod.kin ht hs at_ hh (h _ (I.tok _))
theorem baseI_own {x : Str} {C : Addr} {mc : Value} {i : String} (hg : Gl X x) (hm : X.mg x = some (.ref C)) (r : ClX.CRead X.K C mc) (at_ : PySem.W.findCls X.K (.ref C) mc "__init__" = some (.val (.builtin i))) (hh : PySem.W.handedIn (.builtin i) = true)
    (hd : (x == ("__debug__" : Str)) = false := by decide) : BaseI X x i := fun p1 pins σ H s pl Q E I h =>
  ld_glob I hg hm (PySem.W.method_cls I.kIn r.ga (PySem.W.cls_value I.kIn r.rd at_ hh (h _ (I.tok _)))) hd
end

/-- B.__init__(self, ..) -/
def tBi (C : Addr) (ta : TA) : TE := fun σ H Q => ta σ H fun vs H1 => ∃ (a : Addr) (ws : List V), vs = .ref a :: ws ∧ ws.length ≤ 1000 ∧ H1 a = some (exo a C none) ∧ Q .non H1
/-- self.f = e, the only field -/
def tFd (C : Addr) (f : Str) (to te : TE) : TS := fun D σ H => te σ H fun y H1 => to σ H1 fun x H2 => ∃ a : Addr, x = .ref a ∧ H2 a = some (exo a C none) ∧ ∀ dx, H2 dx = none → dx ≠ a → D.nx σ (upd (upd H2 dx (exd dx [(f, y)])) a (exo a C (some dx)))

section
variable {X : Cx} {pins : List (Addr × Obj)} {σ : St} {H : Hp} {s : Shared} {C a : Addr} {bm bmB : List Value} {B newId initId B2 i2 : String}
theorem binit_ok {us : List Value} {Q : Value → Shared → Prop} {E : Value → Shared → Prop} {A : Around} (T : OwnE X.K C bm bmB B newId initId) (F2 : PySem.EX.InitF B2 i2) (h2 : bm.contains (.type B2) = true) (I : Inv X pins σ H s) (e : H a = some (exo a C none)) (hl : us.length ≤ sizeLine)
    (h : ∀ s', Inv X pins σ H s' → Q .none s') : wpAny (model X.prog X.w) A (call (.builtin i2) (.ref a :: us)) Q E s := by
  obtain ⟨nm, q, N, bs, sn, sub, ab, col, dd, k0, k1, k2, k3, k5, hC⟩ := T.cls
  obtain ⟨t1, he⟩ := exo_at I.hok e
  have hu : upd H a (exo a C none) = H := funext fun b => by
    by_cases hb : b = a
    · subst hb
      exact upd_same.trans e.symm
    · exact upd_ne hb
  cases s with | mk h0 g0 d0 tk0 os0 =>
  refine wpAny_call (PySem.EX.base_init F2 h2 (I.kIn _ _ hC) he hl fun h' t2 k z => h _ ?_)
  have J := Inv.write (t' := tk0) (x := a) (e := a) (o := exo a C none) I (by rw [e]; exact True.intro) (.inl rfl) k ⟨_, z⟩ (exo_ok z)
  rw [hu] at J
  exact J
theorem field_ok {f : Str} {y : V} {u : Value} {Q : Unit → Shared → Prop} {E : Value → Shared → Prop} {A : Around} (T : OwnE X.K C bm bmB B newId initId) (I : Inv X pins σ H s) (e : H a = some (exo a C none)) (no : PySem.W.findIn X.K (.ref C) f = some none) (ry : RelV y u)
    (h : ∀ dx s', H dx = none → dx ≠ a → Inv X pins σ (upd (upd H dx (exd dx [(f, y)])) a (exo a C (some dx))) s' → Q () s') : wpAny (model X.prog X.w) A (setAttr (.ref a) f u) Q E s := by
  obtain ⟨nm, q, N, bs, sn, sub, ab, col, dd, k0, k1, k2, k3, k5, hC⟩ := T.cls
  have hcd : PySem.W.clsIn X.K C = some { name := nm, bases := bs, mro := .ref C :: bm, ns := N, qualname := q, hasDict := true, slotNames := sn, subclasses := sub, abstract := ab, collection := col, hasDel := false } := by
    unfold PySem.W.clsIn
    rw [hC]
  obtain ⟨t1, he⟩ := exo_at I.hok e
  cases s with | mk h0 g0 d0 tk0 os0 =>
  have he : h0.get? a = some ({ cls := .ref C, dict := none, data := .fields #[.ref t1, .none, .none, .none, .bool false, .none] } : Obj) := he
  refine PySem.W.set_plain I.kIn (od := none) ⟨he, rfl, rfl, trivial⟩ T.sa (PySem.EX.osa_first I.kIn he hcd (fun self => ?_) rfl ?_ rfl no fun h' tk' dx k dn dne hx hn => ?_)
  · rw [refuseLoop_ref]
    exact T.rf self
  · exact (List.contains_cons ..).trans (by rw [T.hO, Bool.or_true])
  have fd : H dx = none := I.hok.fresh dn
  have nA : ∀ {b : Addr}, H b = none → b ≠ a := fun {b} n z => by
    subst z
    exact absurd (n.symm.trans e) fun y => nomatch y
  have nD : ∀ {b : Addr} {o : Obj}, h0.get? b = some o → b ≠ dx := fun z => Nat.ne_of_lt (Nat.lt_of_lt_of_le (Heap.lt_size z) dn)
  have out : ∀ {b : Addr} {u : HO}, H b = some u → u ≠ exo a C none → b ≠ a ∧ b ≠ dx := fun {b u} z n => ⟨fun y => by
    subst y
    exact n (Option.some.inj (z.symm.trans e)), ne_of_none z fd⟩
  have un : Un X.fs [] H (upd (upd H dx (exd dx [(f, y)])) a (exo a C (some dx))) h0 h' :=
    ⟨fun b o z n _ _ => k b o (nA n) z, fun b o z n _ _ => ⟨o.slots, k b o (nA n) z⟩, fun b o z n _ => (upd_ne (nA n)).trans ((upd_ne (nD z)).trans n),
      fun b o z _ => by
        by_cases hb : b = a
        · exact ⟨_, hb ▸ hx⟩
        · exact ⟨o, k b o hb z⟩,
      fun b xs z => (upd_ne (out z fun y => exo_tup y.symm).1).trans ((upd_ne (out z fun y => exo_tup y.symm).2).trans z),
      fun b o v z => (upd_ne (out z fun y => exo_frz y.symm).1).trans ((upd_ne (out z fun y => exo_frz y.symm).2).trans z),
      fun b ps z => ⟨#[], (upd_ne (out z fun y => exo_tbl y.symm).1).trans ((upd_ne (out z fun y => exo_tbl y.symm).2).trans (by rw [z]; simp))⟩⟩
  refine h dx _ fd dne (I.un (t' := tk') un fun b o z => ?_)
  by_cases hb : b = a
  · subst hb
    cases upd_same.symm.trans z
    exact exo_ok hx
  by_cases hd : b = dx
  · subst hd
    cases upd_same.symm.trans ((upd_ne hb).symm.trans z)
    exact exd_ok hn (relO_put (fs := []) ry fun _ => True.intro)
  have z := (upd_ne hd).symm.trans ((upd_ne hb).symm.trans z)
  refine (I.hok b o z).stay (fun c v hc y => k c v ?_ y) (fun c hc => ?_) fun c xs hc => ?_
  · rcases hc with rfl | hc
    · exact hb
    · exact (out hc fun y => exo_own y.symm).1
  · exact (upd_ne (out hc fun y => exo_own y.symm).1).trans ((upd_ne (out hc fun y => exo_own y.symm).2).trans hc)
  · exact (upd_ne (out hc fun y => exo_tup y.symm).1).trans ((upd_ne (out hc fun y => exo_tup y.symm).2).trans hc)
end
end L2
namespace L2
open PySem PySem.Spec PyProof.Rows

section
variable {X : Cx} {C : Addr} {bm bmB : List Value} {B newId initId B2 i2 : String} {o e : Expr} {es : List Expr} {to te : TE} {ta : TA} {f : Str} {p p' p1 p2 pos : Pos}
theorem pe_bi {x : Str} {pl : Sem Bool} (T : OwnE X.K C bm bmB B newId initId) (F2 : PySem.EX.InitF B2 i2) (h2 : bm.contains (.type B2) = true) (hx : BaseI X x i2) (ha : PA X (e :: es) ta)
    (hc : eval (.Call (.Attribute (.Name x p1) "__init__" p2) (e :: es) [] pos) X.env = (do
      let ov ← eval (.Name x p1) X.env
      standAt p2.atName
      let (f, first) ← holding [ov] (getMethod ov "__init__" pl)
      callWith pos f first (backTo pos (starEach (e :: es) X.env)) (backToKw pos (keywordEach [] X.env))) := by rfl)
    (he : starEach (e :: es) X.env = (false, eval e X.env) :: starEach es X.env := by rfl) (hpl : (backTo pos (starEach es X.env)).any (·.1) = false := by rfl) :
    PE X (.Call (.Attribute (.Name x p1) "__init__" p2) (e :: es) [] pos) (tBi C ta) := by
  refine ⟨fun pins s σ H Q I h => PySem.W.methodCall_KW (hx p1 pins σ H s pl _ _ I fun s0 I0 => ?_) hc⟩
  show wpAny _ _ (callWith pos (Value.builtin i2) [] (backTo pos (starEach (e :: es) X.env)) []) _ _ _
  refine PyProof.Rows.callWith_method1 (thn (ha.run pos pins s0 σ H _ I0 h) fun us s1 ⟨vs, H1, I1, r1, a, ws, ev, hl, ea, q⟩ => ?_) he hpl
  subst ev
  cases r1 with
  | @cons _ u0 _ ur ra rw' =>
    cases (show u0 = Value.ref a from ra)
    refine binit_ok T F2 h2 I1 ea ?_ fun s' J => ⟨.non, H1, J, rfl, q⟩
    have := Paired.length rw'
    rw [sizeLine_eq]
    omega
theorem ps_fd (T : OwnE X.K C bm bmB B newId initId) (no : PySem.W.findIn X.K (.ref C) f = some none) (ho : PE X o to) (he : PE X e te) (hs : swapsWith e (some (.Attribute o f p')) pos.line X.env = pure false := by rfl) :
    PS X (.Assign [.Attribute o f p'] e pos) (tFd C f to te) :=
  ⟨fun pins s σ H D I h => plainObj_wpAny_Assign_Attribute (thn (he.run pins s σ H _ I h) fun v s1 ⟨y, H1, I1, r1, q1⟩ => thn (ho.run pins s1 σ H1 _ I1 q1) fun u s2 ⟨x, H2, I2, r2, a, ex, ea, q⟩ => by
    subst ex
    cases (show u = Value.ref a from r2)
    exact field_ok T I2 ea no r1 fun dx s' n ne J => ⟨σ, _, J, q dx n ne⟩) hs⟩
end

/-- what such an __init__ keeps: self gets the one field -/
def spI (C : Addr) (f : Str) : Sp := fun vs H Q _ => ∃ (a : Addr) (y : V), vs = [.ref a, y] ∧ H a = some (exo a C none) ∧ ∀ dx, H dx = none → dx ≠ a → Q .non (upd (upd H dx (exd dx [(f, y)])) a (exo a C (some dx)))
theorem upd2 {H : Hp} {a dx : Addr} {o0 o1 u : HO} (h : dx ≠ a) : upd (upd (upd H a o0) dx u) a o1 = upd (upd H dx u) a o1 := funext fun b => by
  by_cases hb : b = a
  · subst hb; rw [upd_same, upd_same]
  · rw [upd_ne hb, upd_ne hb]
    by_cases hd : b = dx
    · subst hd; rw [upd_same, upd_same]
    · rw [upd_ne hd, upd_ne hd, upd_ne hb]
section
variable {X : Cx} {C : Addr} {bm bmB : List Value} {B newId initId : String}
/-- C(e), C's own __init__ storing e -/
def tMkE (C : Addr) (f : Str) (te : TE) : TE := fun σ H Q => te σ H fun y H1 => ∀ a dx, H1 a = none → H1 dx = none → dx ≠ a → Q (.ref a) (upd (upd H1 dx (exd dx [(f, y)])) a (exo a C (some dx)))
theorem pe_mkE {CX : CXT} {x : Str} {f : Str} {fI : Addr} {k : Nat} {fd : FuncData} {ps : List Str} {e : Expr} {te : TE} {p pos : Pos} (T : OwnE X.K C bm bmB B newId initId) (iC : PySem.W.findIn X.K (.ref C) "__init__" = some (some (.ref fI))) (tI : PySem.W.typeIn X.K (.ref fI) = some (.type "function"))
    (F1 : FnOk X.prog X.w X.K X.mg X.base CX k fI fd ps (spI C f)) (hps : ps.length = 2) (hr : Room (k + 1) X.A) (hb : Binds X.K fd ps []) (hx : Passes CX X (fun _ _ _ => False)) (hg : Gl X x) (hm : X.mg x = some (.ref C)) (ha : PE X e te)
    (hdb : (x == ("__debug__" : Str)) = false := by decide) (hs : starEach [e] X.env = (false, eval e X.env) :: starEach [] X.env := by rfl) : PE X (.Call (.Name x p) [e] [] pos) (tMkE C f te) := by
  refine ⟨fun pins s σ H Q I h => ?_⟩
  refine wpAny_Call_Name_kw (ld_glob I hg hm (PySem.W.callWith_K (h₀ := X.base) I.ok.mod.kin T.kC ?_ hs (by rfl)) hdb)
  rw [hs]
  show wpAny _ _ (spliced ((false, eval e X.env) :: backTo pos (starEach [] X.env))) _ _ s
  refine Calls.spliced_cons (thn (ha.run pins s σ H _ I h) fun u s1 ⟨y, H1, I1, r1, q1⟩ => Calls.spliced_nil ⟨I1.kIn, ?_⟩)
  show wpAny _ _ (call (.ref C) [u]) _ _ _
  obtain ⟨nm, q, N, bs, sn, sub, ab, col, dd, k0, k1, k2, k3, k5, hC⟩ := T.cls
  cases s1 with | mk h1 g1 d1 tk1 os1 =>
  have sz : h1.objs.size ≤ h1.objs.size + 1 := Nat.le_succ _
  have hn : H1 (h1.objs.size + 1) = none := I1.hok.fresh sz
  have kk : ∀ b o, h1.get? b = some o → ((h1.push (PySem.W.kdv_tup [u])).push (PySem.HandSPX.excO C h1.objs.size)).get? b = some o := fun b o z => Heap.get?_push_of_some _ (Heap.get?_push_of_some _ z)
  have there : ((h1.push (PySem.W.kdv_tup [u])).push (PySem.HandSPX.excO C h1.objs.size)).get? (h1.objs.size + 1) = some (PySem.HandSPX.excO C h1.objs.size) := by heap_get
  have I2 := I1.laid (t' := tk1) (a := h1.objs.size + 1) (o := exo (h1.objs.size + 1) C none) (h' := (h1.push (PySem.W.kdv_tup [u])).push (PySem.HandSPX.excO C h1.objs.size)) kk sz (exo_ok there)
  refine wpAny_call (PySem.EX.call_exc T.base T.hB T.hA T.hN (I1.kIn _ _ hC) (PySem.W.looks_findIn I1.kIn iC) (fun self => PySem.W.bind_fn I1.kIn self tI) (by show 1 ≤ sizeLine; rw [sizeLine_eq]; omega)
    (codeAny_mono (F1.run _ X.stack _ _ ⟨[Value.ref (h1.objs.size + 1), u], []⟩ [Value.ref (h1.objs.size + 1), u] [V.ref (h1.objs.size + 1), y] (fun v H2 => v = .non ∧ Q (.ref (h1.objs.size + 1)) H2) (fun _ _ _ => False) (hr.make C [u] []) (I2.env0.make C [u] []) ?_ (.cons rfl (.cons r1 .nil)) ?_) fun r s' z => ?_))
  · have := hb _ [Value.ref (h1.objs.size + 1), u] I2.kIn (by rw [List.append_nil, hps]; rfl)
    rw [List.append_nil] at this
    exact this
  · refine ⟨_, y, rfl, upd_same, fun dx n ne => ⟨rfl, ?_⟩⟩
    rw [upd2 ne]
    rw [upd_ne ne] at n
    exact q1 _ dx hn n ne
  · cases r with
    | error er => exact hx pins σ _ _ er s' I2 z
    | ok fl =>
      cases fl with
      | ret u2 =>
        obtain ⟨v, H2, J, rv, ev, q2⟩ := I2.after z
        subst ev
        exact ⟨rv, .ref (h1.objs.size + 1), H2, J, rfl, q2⟩
      | next => exact False.elim z
      | brk => exact False.elim z
      | cont => exact False.elim z
end

/-- the __init__ itself: B.__init__(self, "..") and self.f = y -/
abbrev tInit (C : Addr) (f m : Str) : TS := tSeq (tDrop (tBi C (tCons (tVar 0) (tCons (tC (.str m)) tNil)))) (tSeq (tFd C f (tVar 0) (tVar 1)) tNext)
theorem fn_init {P : Program} {w : World} {K : PySem.W.Frag} {mg : Str → Option Value} {base : Heap} {x qual : Str} {st : Stmt} {fI : Addr} {fd : FuncData} {nS nY : Str} {C : Addr} {f m : Str}
    (F : Fun K x qual st fI fd) (Sc : FnScope [nS, nY] [nS, nY] (defScope st))
    (hb : ∀ (cdv : Value) (A : Around) (outer : List Env) (s : Shared) (H : Hp) (E : XK), PSs (cxOf CX0 P w K mg base [nS, nY] qual (defScope st) fI cdv A outer s H E).nox (defBody st) (tInit C f m)) :
    FnOk P w K mg base CX0 1 fI fd [nS, nY] (spI C f) := by
  refine F.ok Sc (fun vs H Q E ⟨a, y, e, _⟩ => by rw [e]; rfl) (fun cdv A outer s H vs Q E hr ⟨a, y, e, ea, q⟩ => ?_)
  subst e
  refine ⟨_, hb cdv A outer s H E, ?_⟩
  exact ⟨.ref a, rfl, a, [.str m], rfl, show 1 ≤ 1000 by decide, ea, y, rfl, .ref a, rfl, a, rfl, ea, fun dx n ne => q dx n ne⟩
end L2
namespace L2
open PySem PySem.Spec PyProof.Rows

/-- an own exception object at a: without a dict | its dict at dx -/
inductive IsE (H : Hp) (C a : Addr) : Prop where
  | z (h : H a = some (ExO (.ref C) a))
  | f (dx : Addr) (fs : List (Str × V)) (h : H a = some (exo a C (some dx))) (hd : H dx = some (exd dx fs))
/-- how attributes of such an object are read -/
structure ExK (K : PySem.W.Frag) (C : Addr) : Prop where
  cl : PySem.W.isClsIn K C = true
  ga : PySem.W.findIn K (.ref C) "__getattribute__" = some (some (.builtin "BaseException.__getattribute__"))
  gt : ∃ g, PySem.W.findIn K (.ref C) "__getattr__" = some g
  sub : PySem.W.subIn K (.ref C) (.type "BaseException") = some true
  cc : PySem.W.findIn K (.ref C) "__class__" = some (some (.builtin "object.__class__"))
  cg : PySem.W.specialIn K (.builtin "object.__class__") "__get__" = some (some (.builtin "getset_descriptor.__get__"))
  ct : PySem.W.takesIn K (.builtin "object.__class__") = some true
  mo : PySem.W.mroIn K C (.type "object") = some true
section
variable {X : Cx} {pins : List (Addr × Obj)} {σ : St} {H : Hp} {s : Shared} {C a : Addr}
theorem isE_at (I : Inv X pins σ H s) (h : IsE H C a) : ∃ ox od, PySem.W.InstAt s.heap a ox C od := by
  cases h with
  | z h =>
    obtain ⟨⟨oe, vs, ho, ⟨hc, hz⟩, hd, _⟩, _⟩ := I.hok a _ h
    obtain ⟨oc, od, dt, sl⟩ := oe
    simp only at hc hz hd
    subst hc hz hd
    exact ⟨_, none, ho, rfl, rfl, trivial⟩
  | f dx fs h hd =>
    obtain ⟨t1, ho⟩ := exo_at I.hok h
    obtain ⟨mA, hn, _⟩ := exd_at I.hok hd
    obtain ⟨od, h1, _⟩ := lookIn_ns hn
    exact ⟨_, some od, ho, rfl, rfl, h1⟩
/-- isinstance(e, c) of such an object -/
def rIsE (K : PySem.W.Frag) : List V → Hp → VK → Prop := fun xs H Q => ∃ (a C : Addr) (c : V) (u : Value) (b : Bool), xs = [.ref a, c] ∧ ClsV c u ∧ IsE H C a ∧ ExK K C ∧ PySem.W.kitOne K (.ref C) u = some b ∧ Q (.bl b) H
theorem call_isE : CallR X (.builtin "isinstance") (rIsE X.K) := by
  intro pins s σ H xs us Q I r h
  obtain ⟨a, C, c, u, b, rfl, kc, ie, k, e, q⟩ := h
  obtain ⟨u1, u2, rfl, r1, r2⟩ := vals2 r
  cases (show u1 = Value.ref a from r1)
  have e2 := kc.eq r2
  subst e2
  obtain ⟨ox, od, J⟩ := isE_at I ie
  obtain ⟨g, hgt⟩ := k.gt
  exact PySem.W.kia_one (PySem.W.kitx_exc k.cl k.ga hgt k.sub k.cc k.cg k.ct k.mo) I.kIn J e (fun z => nomatch z) fun tk => ⟨.bl b, H, I.tok tk, rfl, q⟩
/-- e.f -/
def tExF (K : PySem.W.Frag) (f : Str) (to : TE) : TE := fun σ H Q => to σ H fun x H1 => ∃ (a C dx : Addr) (fs : List (Str × V)) (y : V), x = .ref a ∧ H1 a = some (exo a C (some dx)) ∧ H1 dx = some (exd dx fs) ∧ ExK K C ∧
  PySem.W.findIn K (.ref C) f = some none ∧ (∃ cd, PySem.W.clsIn K C = some cd ∧ cd.hasDict = true) ∧ fs.lookup f = some y ∧ Q y H1
theorem exf_ok {f : Str} {y : V} {dx : Addr} {fs : List (Str × V)} {b : Bool} {A : Around} {E : Value → Shared → Prop} {Q : Value → Shared → Prop} (I : Inv X pins σ H s) (h : H a = some (exo a C (some dx))) (hd : H dx = some (exd dx fs)) (k : ExK X.K C)
    (no : PySem.W.findIn X.K (.ref C) f = some none) (cd : ∃ cd, PySem.W.clsIn X.K C = some cd ∧ cd.hasDict = true) (l : fs.lookup f = some y) (q : ∀ u s', RelV y u → Inv X pins σ H s' → Q u s') : wpAny (model X.prog X.w) A (getAttr (.ref a) f b) Q E s := by
  obtain ⟨t1, ho⟩ := exo_at I.hok h
  obtain ⟨mA, hn, rel⟩ := exd_at I.hok hd
  obtain ⟨od, h1, lk⟩ := lookIn_ns hn
  obtain ⟨g, hgt⟩ := k.gt
  obtain ⟨c, hc, hdc⟩ := cd
  have r := rel f
  rw [l] at r
  cases hm : mA f with
  | none => rw [hm] at r; exact r.elim
  | some u =>
    rw [hm] at r
    have ry : RelV y u := r
    refine PySem.HandSPX.exc_get I.kIn (od := some od) ⟨ho, rfl, rfl, h1⟩ k.ga hgt k.sub ?_ (handed_of ry) (q u _ ry (I.tok _))
    unfold PySem.W.findObj
    rw [hc, Option.bind_some, no, Option.bind_some]
    simp only [Option.bind_some, PySem.W.ownOf, hdc, if_true, lk f, hm]
theorem pe_exf {o : Expr} {f : Str} {to : TE} {p : Pos} (ho : PE X o to) (hb : attributeBase o f X.env (eval o X.env) = eval o X.env := by rfl) : PE X (.Attribute o f p) (tExF X.K f to) := by
  refine ⟨fun pins s σ H Q I h => attr_of hb (thn (ho.run pins s σ H _ I h) fun u s1 ⟨x, H1, I1, r1, a, C, dx, fs, y, ex, h1, h2, k, no, cd, l, q⟩ => ?_)⟩
  subst ex
  cases (show u = Value.ref a from r1)
  exact exf_ok I1 h1 h2 k no cd l fun u s' ry J => ⟨y, H1, J, ry, q⟩
end
end L2
namespace L2
open PySem PySem.Spec PyProof.Rows
section
variable {X : Cx}
theorem pe_exc0 {C : Addr} {bmB : List Value} {B newId initId : String} {x : Str} {p pos : Pos} (F : ExcBaseFacts B newId initId bmB) (q : PySem.W.excIn X.K C bmB newId = true) (gC : X.mg x = some (.ref C)) (kC : PySem.W.keepIn X.K (.ref C) = true) (hg : Gl X x)
    (hdb : (x == ("__debug__" : Str)) = false := by decide) :
    PE X (.Call (.Name x p) [] [] pos) (fun σ H Q => ∀ a, H a = none → Q (.ref a) (upd H a (ExO (.ref C) a))) := by
  refine ⟨fun pins s σ H Q I h => wpAny_Call_Name_kw (ld_glob I hg gC ?_ hdb)⟩
  refine PySem.W.callWith_K0 I.kIn kC ?_
  obtain ⟨bm, N, nm, qn, bs, hdct, sn, sub, ab, col, dd, k0, k1, k2, k3, k5, mN, hC, hN, hni, T⟩ := exc_obj I.kIn q
  show wpAny _ _ (call (.ref C) []) _ _ _
  refine wpAny_call_exc_subT F T hC hN hni (fun h' a hm => ?_) (Nat.zero_le _)
  obtain ⟨t, ht, _, _⟩ := hm.there
  have hn : H a = none := I.hok.gone hm.new
  exact ⟨.ref a, _, I.laidN hm.keeps hm.new hn (exO_ok ht ⟨rfl, rfl⟩ rfl rfl rfl (show 4 < 6 by decide)), rfl, h a hn⟩
end
end L2
/-! DL10: own exceptions as data: made, asked for their class, read. -/
namespace DL
open PySem PySem.Spec PyProof.Rows L2
section
variable {X : Cx} {K : PySem.W.Frag} {e : Expr} {te ta : TE} {fe fa : FE}
/-- C(e), C keeping e as f -/
def fMkE (C : Addr) (f : Str) (fa : FE) : FE := fun s => match fa s with
  | some (d, s1) => some (.exf C f d, s1)
  | none => none
theorem se_mkE {C : Addr} {f : Str} (h : SE K ta fa) : SE K (tMkE C f ta) (fMkE C f fa) := by
  intro S H s σ Q r q
  unfold fMkE at q
  cases e : fa s with
  | none => rw [e] at q; exact q.elim
  | some x =>
    obtain ⟨d, s1⟩ := x
    rw [e] at q
    refine h.use r e fun y S1 H1 g dv => fun a dx ha hd ne => ?_
    have a1 := Al.new (o := exd dx [(f, y)]) g.rep.sub hd
    have n2 : upd H1 dx (exd dx [(f, y)]) a = none := by rw [upd_ne (Ne.symm ne)]; exact ha
    have a2 := Al.new (o := exo a C (some dx)) a1.sub n2
    have al := a1.trans a2
    exact q _ _ _ (g.trans (al.go g.rep)) (.exf upd_same (by rw [upd_ne ne, upd_same]) (dv.mono al.ext))
/-- C(e), C() without an own __init__ -/
def fEx1 (C : Addr) (fa : FE) : FE := fun s => match fa s with
  | some (_, s1) => some (.ex C, s1)
  | none => none
abbrev tEx1 (C : Addr) (ta : TE) : TE := fun σ H Q => ta σ H fun _ H1 => ∀ a, H1 a = none → Q (.ref a) (upd H1 a (ExO (.ref C) a))
abbrev tEx0 (C : Addr) : TE := fun _ H Q => ∀ a, H a = none → Q (.ref a) (upd H a (ExO (.ref C) a))
theorem se_ex1 {C : Addr} (h : SE K ta fa) : SE K (tEx1 C ta) (fEx1 C fa) := by
  intro S H s σ Q r q
  unfold fEx1 at q
  cases e : fa s with
  | none => rw [e] at q; exact q.elim
  | some x =>
    obtain ⟨d, s1⟩ := x
    rw [e] at q
    refine h.use r e fun y S1 H1 g dv => fun a ha => ?_
    have al := Al.new (o := ExO (.ref C) a) g.rep.sub ha
    exact q _ _ _ (g.trans (al.go g.rep)) (.ex upd_same)
theorem se_ex0 {C : Addr} : SE K (tEx0 C) (fC (.ex C)) := fun S H s σ Q r q a ha => q _ _ _ ((Al.new (o := ExO (.ref C) a) r.sub ha).go r) (.ex upd_same)
/-- the class of an exception -/
def D.exC : D → Option Addr
  | .ex C => some C
  | .exf C _ _ => some C
  | _ => none
theorem Dt.isE {S H : Hp} {v : V} {d : D} {C : Addr} (sm : Same S H) (h : Dt K S v d) (e : d.exC = some C) : ∃ a, v = .ref a ∧ IsE H C a := by
  cases h with
  | ex h => cases e; exact ⟨_, rfl, .z (sm _ _ h)⟩
  | exf h1 h2 _ => cases e; exact ⟨_, rfl, .f _ _ (sm _ _ h1) (sm _ _ h2)⟩
  | _ => cases e
/-- isinstance(e, c): tb tells the answer by the class of e -/
def fIsE (tb : Addr → Option Bool) (fa : FE) : FE := fun s => match fa s with
  | some (d, s1) => match d.exC with
    | some C => match tb C with
      | some b => some (.bl b, s1)
      | none => none
    | none => none
  | none => none
theorem se_isE {tb : Addr → Option Bool} {c : V} {u : Value} (kc : ClsV c u) (ht : ∀ C b, tb C = some b → ExK K C ∧ PySem.W.kitOne K (.ref C) u = some b) (h : SE K ta fa) : SE K (tCB (rIsE K) (tCons ta (tCons (tC c) tNil))) (fIsE tb fa) := by
  intro S H s σ Q r q
  unfold fIsE at q
  cases e : fa s with
  | none => rw [e] at q; exact q.elim
  | some x =>
    obtain ⟨d, s1⟩ := x
    rw [e] at q
    refine h.use r e fun v S1 H1 g dv => ?_
    cases e2 : d.exC with
    | none => simp only [e2] at q; exact q.elim
    | some C =>
      cases e3 : tb C with
      | none => simp only [e2, e3] at q; exact q.elim
      | some b =>
        simp only [e2, e3] at q
        obtain ⟨a, rfl, ie⟩ := dv.isE g.rep.sub e2
        obtain ⟨k, ko⟩ := ht C b e3
        exact ⟨a, C, c, u, b, rfl, kc, ie, k, ko, q _ S1 H1 g (.bl b)⟩
theorem pd_isE (hK : X.K = K) {tb : Addr → Option Bool} {c : V} {u : Value} {a e2 : Expr} {p pos : Pos} (kc : ClsV c u) (ht : ∀ C b, tb C = some b → ExK K C ∧ PySem.W.kitOne K (.ref C) u = some b) (hg : Gl X "isinstance") (hm : X.mg "isinstance" = none) (pc : PE X e2 (tC c)) (h : PD X a ta fa)
    (hs : starEach [a, e2] X.env = (false, eval a X.env) :: starEach [e2] X.env := by rfl) (hs2 : starEach [e2] X.env = (false, eval e2 X.env) :: starEach [] X.env := by rfl)
    (hpl : (backTo pos (starEach [e2] X.env)).any (·.1) = false := by rfl) :
    PD X (.Call (.Name "isinstance" p) [a, e2] [] pos) (tCB (rIsE K) (tCons ta (tCons (tC c) tNil))) (fIsE tb fa) := by
  subst hK
  exact ⟨pe_callB call_isE hg hm (by decide +kernel) (pa_cons h.pe (pa_cons pc pa_nil hs2) hs) (by decide) (by decide) hs hpl, se_isE kc ht h.ok⟩
/-- e.f, e of one of the classes cs -/
def fExF (cs : Addr → Bool) (f : Str) (fa : FE) : FE := fun s => match fa s with
  | some (.exf C g d, s1) => if cs C && g == f then some (d, s1) else none
  | _ => none
theorem se_exf {cs : Addr → Bool} {f : Str} (hc : ∀ C, cs C = true → ExK K C ∧ PySem.W.findIn K (.ref C) f = some none ∧ ∃ cd, PySem.W.clsIn K C = some cd ∧ cd.hasDict = true) (h : SE K ta fa) : SE K (tExF K f ta) (fExF cs f fa) := by
  intro S H s σ Q r q
  unfold fExF at q
  cases e : fa s with
  | none => rw [e] at q; exact q.elim
  | some x =>
    obtain ⟨d, s1⟩ := x
    rw [e] at q
    cases d with
    | exf C g d =>
      simp only at q
      split at q
      · rename_i c
        obtain ⟨c1, c2⟩ := Bool.and_eq_true_iff.mp c
        obtain ⟨k, no, cd⟩ := hc C c1
        have c2 : g = f := by simpa using c2
        subst c2
        refine h.use r e fun v S1 H1 gg dv => ?_
        cases dv with
        | @exf a _ dx _ y _ h1 h2 dy => exact ⟨a, C, dx, [(g, y)], y, rfl, gg.rep.sub _ _ h1, gg.rep.sub _ _ h2, k, no, cd, by simp [List.lookup], q _ S1 H1 gg dy⟩
      · exact q.elim
    | _ => exact q.elim
theorem pd_exf (hK : X.K = K) {cs : Addr → Bool} {o : Expr} {f : Str} {p : Pos} (hc : ∀ C, cs C = true → ExK K C ∧ PySem.W.findIn K (.ref C) f = some none ∧ ∃ cd, PySem.W.clsIn K C = some cd ∧ cd.hasDict = true) (h : PD X o ta fa)
    (hb : attributeBase o f X.env (eval o X.env) = eval o X.env := by rfl) : PD X (.Attribute o f p) (tExF K f ta) (fExF cs f fa) := by
  subst hK
  exact ⟨pe_exf h.pe hb, se_exf hc h.ok⟩
end
end DL
/-! G0: defs that run where no repr is under way (what is shown of lists and dicts hangs on that). -/
namespace DL
open PySem PySem.Spec PyProof.Rows L2

/-- as FnOk, asked only where nothing is being shown -/
structure FnG (P : Program) (w : World) (K : PySem.W.Frag) (mg : Str → Option Value) (base : Heap) (CX : CXT) (k : Nat) (f : Addr) (fd : FuncData) (ps : List Str) (sp : Sp) : Prop where
  len : ∀ vs H Q E, sp vs H Q E → vs.length = ps.length
  run : ∀ (A : Around), A.guards = some [] → ∀ (outer : List Env) (s : Shared) (H : Hp) (args : Args) (us : List Value) (vs : List V) (Q : VK) (E : XK), Room k A → Env0 P w K mg base A outer s H → BindsTo s fd args (ps.zip us) → Vals vs us → sp vs H Q E →
    codeAny (model P w) A (.call (.ref f) args) (CR CX outer P w H s Q E) s
section
variable {P : Program} {w : World} {K : PySem.W.Frag} {mg : Str → Option Value} {base : Heap} {CX : CXT}
theorem FnG.of {k : Nat} {f : Addr} {fd : FuncData} {ps : List Str} {sp : Sp} (F : FnOk P w K mg base CX k f fd ps sp) : FnG P w K mg base CX k f fd ps sp := ⟨F.len, fun A _ outer s H args us vs Q E => F.run A outer s H args us vs Q E⟩
theorem fnG_ok {x qual : Str} {st : Stmt} {f : Addr} {fd : FuncData} {N ps : List Str} {k : Nat} {sp : Sp} (F : Fun K x qual st f fd) (Sc : FnScope N ps (defScope st)) (len : ∀ vs H Q E, sp vs H Q E → vs.length = ps.length)
    (hb : ∀ (cdv : Value) (A : Around) (outer : List Env) (s : Shared) (H : Hp) (vs : List V) (Q : VK) (E : XK), A.guards = some [] → Room k (A.deeper (envOfC qual (defScope st) s.heap.objs.size f cdv)) → sp vs H Q E →
      ∃ t, PSs (cxOf CX0 P w K mg base N qual (defScope st) f cdv A outer s H E).nox (defBody st) t ∧ t { nx := fun _ H' => Q .non H', rt := Q } (start N vs) H) : FnG P w K mg base CX0 (k + 1) f fd ps sp := by
  obtain ⟨oc, od, kV, doc, pm, an, cdv, ct, osl, rfl, lk, cod⟩ := F.ex
  refine ⟨len, fun A gd outer s H args us vs Q E rm env0 bnd rel hs => ?_⟩
  have ln := len _ _ _ _ hs
  have bk : ∀ b o, base.get? b = some o → s.heap.get? b = some o := fun b o z => (env0.bs b o z).1
  have kinds : ∀ y ∈ ps.zip us, (defScope st).names.lookup y.1 = some .local ∨ ((defScope st).names.lookup y.1 = some .cell ∧ ((cellsFrom (s.heap.objs.size + 1) (defScope st).names []).lookup y.1).isSome = true) := fun y hy =>
    (Sc.par y.1 (List.of_mem_zip hy).1).imp id fun q => ⟨q, PySem.W.cellsFrom_some _ _ _ (.inl q)⟩
  refine codeAny_call_function rm.depth (env0.mod.kin.keeps bk _ _ lk) rfl Sc.co Sc.gen rfl (PySem.W.codeRec_of (env0.mod.kin.keeps bk) cod) (bnd _ _ _ _ (wpAny_newFunctionEnv_cells Sc.kind kinds fun env he s1 ic => ?_))
  subst he
  obtain ⟨t, ht, q⟩ := hb cdv A outer s H vs Q E gd (rm.deeper _) hs
  have I0 : Inv (cxOf CX0 P w K mg base N qual (defScope st) f cdv A outer s H E) [] (start N vs) H s1 := inv_start Sc rm.hd env0 ln rel ic
  refine ⟨(env0.mod.nolimit.keeps bk).keeps ic.toInCall.keep, codeAny_func (wpAny_mono (ht.nox.run [] s1 (start N vs) H _ I0 q) (fun fl s2 z => ?_) fun _ _ z => z)⟩
  cases fl with
  | next =>
    obtain ⟨τ, H2, J, z⟩ := z
    exact ⟨.non, H2, J.os, J.bare, J.base, J.hok, rfl, z⟩
  | ret u =>
    obtain ⟨v, τ, H2, J, rv, z⟩ := z
    exact ⟨v, H2, J.os, J.bare, J.base, J.hok, rv, z⟩
  | brk =>
    obtain ⟨_, _, _, z⟩ := z
    exact z.elim
  | cont =>
    obtain ⟨_, _, _, z⟩ := z
    exact z.elim
theorem defG_ok {x qual : Str} {st : Stmt} {f : Addr} {fd : FuncData} {N ps : List Str} {k : Nat} {fb : FS} (F : Fun K x qual st f fd) (Sc : FnScope N ps (defScope st))
    (hb : ∀ (cdv : Value) (A : Around) (outer : List Env) (s : Shared) (H : Hp) (E : XK), A.guards = some [] → Room k (A.deeper (envOfC qual (defScope st) s.heap.objs.size f cdv)) →
      ∃ t, PDss (cxOf CX0 P w K mg base N qual (defScope st) f cdv A outer s H E).nox (defBody st) t fb) : FnG P w K mg base CX0 (k + 1) f fd ps (spF K ps.length (defF ps.length N.length fb)) := by
  refine fnG_ok F Sc (fun vs H Q E h => h.1) (fun cdv A outer s H vs Q E gd hr h => ?_)
  obtain ⟨t, ht⟩ := hb cdv A outer s H E gd hr
  exact ⟨t, ht.ps, body_ok (by rw [h.1]) ht.ok h⟩
end
/-- at one place FnG is as good as FnOk: a call -/
theorem run_g {X : Cx} {CX : CXT} {k : Nat} {f : Addr} {fd : FuncData} {ps : List Str} {sp : Sp} {E : XK} {pins : List (Addr × Obj)} {σ : L2.St} {H : Hp} {s : Shared} {Q : VK} {us : List Value} {vs : List V} (F : FnG X.prog X.w X.K X.mg X.base CX k f fd ps sp) (gd : X.A.guards = some []) (hr : Room k X.A) (hb : Binds X.K fd ps []) (hx : Passes CX X E)
    (I : Inv X pins σ H s) (r : Vals vs us) (h : sp vs H Q E) : wpAny (model X.prog X.w) X.A (call (.ref f) us) (EP X pins σ Q) X.xe s := by
  have ln : us.length = ps.length := by rw [← r.length]; exact F.len _ _ _ _ h
  have bd := hb s us I.kIn (by rw [List.append_nil]; exact ln)
  rw [List.append_nil] at bd
  refine wpAny_call (codeAny_mono (F.run X.A gd X.stack s H ⟨us, []⟩ us vs Q E hr I.env0 bd r h) fun res s2 z => ?_)
  cases res with
  | error e => exact hx pins σ H s e s2 I z
  | ok fl =>
    cases fl with
    | ret u => exact I.after z
    | next => exact z.elim
    | brk => exact z.elim
    | cont => exact z.elim
end DL
namespace DL
open PySem PySem.Spec PyProof.Rows L2
section
variable {X : Cx} {K : PySem.W.Frag} {CX : CXT} {k : Nat} {f : Addr} {fd : FuncData} {ps : List Str} {E : XK} {x : Str} {p pos : Pos} {e : Expr} {es : List Expr} {tr : TA} {fr : FA}
theorem pe_callG {sp : Sp} (F : FnG X.prog X.w X.K X.mg X.base CX k f fd ps sp) (gd : X.A.guards = some []) (hr : Room k X.A) (hg : Gl X x) (hm : X.mg x = some (.ref f)) (hk : PySem.W.keepIn X.K (.ref f) = true) (hb : Binds X.K fd ps []) (hx : Passes CX X E)
    (ha : PA X (e :: es) tr) (hdb : (x == ("__debug__" : Str)) = false := by decide) (he : starEach (e :: es) X.env = (false, eval e X.env) :: starEach es X.env := by rfl) (hpl : (backTo pos (starEach es X.env)).any (·.1) = false := by rfl) :
    PE X (.Call (.Name x p) (e :: es) [] pos) (tCall sp [] E tr) :=
  ⟨fun pins s σ H Q I h => wpAny_Call_Name_kw (ld_glob I hg hm (PySem.W.callWith_K (h₀ := X.base) I.ok.mod.kin hk (thn (ha.run pos pins s σ H _ I h) fun us s1 ⟨vs, H1, I1, r, q⟩ => ⟨I1.kIn, run_g F gd hr hb hx I1 r (by rw [← List.append_nil vs]; exact q)⟩) he hpl) hdb)⟩
variable {n : Nat} {g : List Sl → Option (D × Sd)}
theorem pd_callGK (hK : X.K = K) (F : FnG X.prog X.w K X.mg X.base CX k f fd ps (spF K n g)) (gd : X.A.guards = some []) (hr : Room k X.A) (hg : Gl X x) (hm : X.mg x = some (.ref f)) (hk : PySem.W.keepIn K (.ref f) = true) (hb : Binds K fd ps []) (hx : Passes CX X E)
    (ha : PDa X (e :: es) tr fr) (hdb : (x == ("__debug__" : Str)) = false := by decide) (he : starEach (e :: es) X.env = (false, eval e X.env) :: starEach es X.env := by rfl) (hpl : (backTo pos (starEach es X.env)).any (·.1) = false := by rfl) :
    PD X (.Call (.Name x p) (e :: es) [] pos) (tCall (spF K n g) [] E tr) (fCall n g fr) := by
  subst hK
  exact ⟨pe_callG F gd hr hg hm hk hb hx ha.pe hdb he hpl, se_call ha.ok⟩
theorem pd_callOGK (hK : X.K = K) (i : Nat) (F : FnG X.prog X.w K X.mg X.base CX k f fd ps (spF K n g)) (gd : X.A.guards = some []) (hr : Room k X.A) (hg : Gl X x) (hm : X.mg x = some (.ref f)) (hk : PySem.W.keepIn K (.ref f) = true) (hb : Binds K fd ps []) (hx : Passes CX X E)
    (h1 : PE X e (tVar i)) (ha : PDa X es tr fr) (hs : starEach (e :: es) X.env = (false, eval e X.env) :: starEach es X.env := by rfl) (hdb : (x == ("__debug__" : Str)) = false := by decide) (hpl : (backTo pos (starEach es X.env)).any (·.1) = false := by rfl) :
    PD X (.Call (.Name x p) (e :: es) [] pos) (tCall (spF K n g) [] E (tCons (tVar i) tr)) (fCallO n g i fr) := by
  subst hK
  exact ⟨pe_callG F gd hr hg hm hk hb hx (pa_cons h1 ha.pe hs) hdb hs hpl, se_callO ha.ok⟩
end

/-! ### the law's head -/
theorem law_g {P : Program} {w : World} {K : PySem.W.Frag} {mg mb : Str → Option Value} {k : Nat} {fa a : Addr} {fd : FuncData} {x : Str} {sp : Sp} {s1 : Shared} {vs : List Value} {ns : List Int}
    (KX : K.In s1.heap) (gl : s1.heap.Ns mainGlobals mg) (bl : s1.heap.Ns builtinsNs mb) (bb : ∀ x : Str, x ≠ "__name__" → mb x = bootBuiltins x) (lm : s1.heap.NoLimit) (gn : s1.gens = #[])
    (ha : s1.heap.get? a = some { cls := .type "list", data := .seq vs.toArray }) (hi : IntsAre vs ns) (hl : ns.length ≤ sizeLine) (hr : Room k callerA)
    (F : ∀ base : Heap, K.In base → base.Ns mainGlobals mg → FnG P w K mg base CX0 k fa fd [x] sp) (bd : ∀ (s : Shared) (u : Value), BindsTo s fd ⟨[u], []⟩ [(x, u)])
    (hsp : ∀ H : Hp, Only H → SqL K H a (ns.map V.int) → sp [.ref a] H (fun v _ => v = .bl true) fun _ _ _ => False) :
    codeAny (model P w) callerA (.call (.ref fa) ⟨[.ref a], []⟩) (fun r s' => r = .ok (.ret (.bool true)) ∧ OldK s1.heap s'.heap ∧ s'.os = s1.os ∧ AllBare s'.gens) s1 := by
  have rv := vals_ints hi
  have ln := hi.length
  have main : ∀ H : Hp, Only H → SqL K H a (ns.map V.int) → HOk P w H s1.heap → (∀ b, H b ≠ none → b = a ∧ K.lookup a = none) →
      codeAny (model P w) callerA (.call (.ref fa) ⟨[.ref a], []⟩) (fun r s' => r = .ok (.ret (.bool true)) ∧ OldK s1.heap s'.heap ∧ s'.os = s1.os ∧ AllBare s'.gens) s1 := by
    intro H on sq ok own
    have free : ∀ {b : Addr} {o : Obj} {es : Array DictEntry} {ep : Nat}, s1.heap.get? b = some o → o.data = .dict es ep → H b = none := by
      intro b o es ep h1 h2
      refine Classical.byContradiction fun n => ?_
      obtain ⟨rfl, _⟩ := own b n
      cases ha.symm.trans h1
      cases (show Data.seq vs.toArray _ = Data.dict es ep from h2)
    have ns' : ∀ {b : Addr} {m : Str → Option Value}, s1.heap.Ns b m → (hidT s1.heap H).Ns b m := fun ⟨o, es, ep, z, d, r⟩ => ⟨o, es, ep, hidT_get z (free z d), d, r⟩
    have kin : K.In (hidT s1.heap H) := fun b o z => hidT_get (KX b o z) (Classical.byContradiction fun n => by
      obtain ⟨rfl, q⟩ := own b n
      exact absurd (q.symm.trans z) fun y => nomatch y)
    have md : Mod K mg (hidT s1.heap H) := ⟨kin, ns' gl, ⟨mb, ns' bl, bb⟩, by
      obtain ⟨mc, h1, h2⟩ := lm
      exact ⟨mc, ns' h1, h2⟩⟩
    have ev : Env0 P w K mg (hidT s1.heap H) callerA [] s1 H := by
      refine ⟨rfl, md, fun b o z => of_hidT z, Nat.le_of_eq (hidT_size _ _), trivial, fun b z => ?_, ok, .of_eq gn⟩
      exact absurd (show b ∈ ([] : List Addr) from z) (by simp)
    refine codeAny_mono ((F _ kin (ns' gl)).run callerA rfl [] s1 H ⟨[.ref a], []⟩ [.ref a] [.ref a] _ _ hr ev (bd s1 (.ref a)) (.cons rfl .nil) (hsp H on sq)) fun r s2 z => ?_
    match r, z with
    | .error e, z => exact z.elim
    | .ok .next, z => exact z.elim
    | .ok .brk, z => exact z.elim
    | .ok .cont, z => exact z.elim
    | .ok (.ret u), ⟨v, H2, os, bare, un, ok2, r2, q⟩ =>
      cases (show v = .bl true from q)
      cases (show u = Value.bool true from r2)
      refine ⟨rfl, OldK.of_keep fun b o z => ?_, os, bare⟩
      rcases on b with y | ⟨ob, xs, y⟩
      · exact un.keep b o z y (fun q => absurd (show b ∈ ([] : List Addr) from q) (by simp)) (by simp)
      · have h1 := (ok b _ y).1
        have h2 := (ok2 b _ (un.frzs b ob _ y)).1
        cases z.symm.trans h1
        exact h2
  cases lk : K.lookup a with
  | some o =>
    cases ha.symm.trans (KX a o lk)
    refine main (fun _ => none) (fun _ => .inl rfl) (.inr ⟨_, vs.toArray, _, lk, rfl, rfl, rfl, ?_, by simpa using rv⟩) (fun b u z => nomatch (show (none : Option HO) = some u from z)) fun b z => absurd rfl z
    rw [List.size_toArray, ln]
    exact hl
  | none =>
    have at_a : ∀ b, b ≠ a → (fun b => if b = a then some (HO.frz { cls := .type "list", data := .seq vs.toArray } (.lst (ns.map V.int))) else none) b = none := fun b h => if_neg h
    refine main (fun b => if b = a then some (HO.frz { cls := .type "list", data := .seq vs.toArray } (.lst (ns.map V.int))) else none) (fun b => ?_) (.inl (.inr ⟨{ cls := .type "list", data := .seq vs.toArray }, if_pos rfl⟩)) (fun b u z => ?_) fun b z => ⟨Classical.byContradiction fun h => z (at_a b h), lk⟩
    · rcases Classical.em (b = a) with h | h
      · exact .inr ⟨_, _, if_pos h⟩
      · exact .inl (at_a b h)
    · rcases Classical.em (b = a) with h | h
      · subst h
        cases (show some (HO.frz { cls := .type "list", data := .seq vs.toArray } (.lst (ns.map V.int))) = some u from (if_pos rfl).symm.trans z)
        exact ⟨ha, by rw [List.length_map]; exact hl, vs, _, rv, ha⟩
      · exact nomatch (at_a b h).symm.trans z
theorem walk_g {l : PySem.W.OpenLaw} {n k : Nat} {q : Program} {loose : List Str} {XP : (Str → Option Value) → Heap → Prop} {YP : World → Heap → Prop} {d : DefRec} {K : Params → PySem.W.Frag} {sp : World → Sp} {x : Str}
    (hn : l.most = some n) (hn2 : n ≤ sizeLine) (hdf : d.params.defaults = []) (hr : Room k callerA) (hY : ∀ (w : World) (h : Heap), YP w h → (K w.params).In h)
    (F : ∀ (w : World) (mg : Str → Option Value) (fa : Addr) (h : Heap), (K w.params).In h → h.Ns mainGlobals mg → mg d.name = some (.ref fa) →
      ∃ fd : FuncData, (∀ (s : Shared) (u : Value), BindsTo s fd ⟨[u], []⟩ [(x, u)]) ∧ ∀ base : Heap, (K w.params).In base → base.Ns mainGlobals mg → FnG l.prog w (K w.params) mg base CX0 k fa fd [x] (sp w))
    (hsp : ∀ (w : World) (H : Hp) (a : Addr) (ns : List Int), ns.length ≤ n → Only H → SqL (K w.params) H a (ns.map V.int) → sp w [.ref a] H (fun v _ => v = .bl true) fun _ _ _ => False) :
    PySem.W.WalkO q loose XP YP l.row.toRowW d [] (fun f vs => PySem.call f vs) := by
  refine Att.attach_call hn hdf fun w s0 s1 mg mb fa o pm cd doc a vs ns G Y _ _ _ at_ hobj hints hlen hg => ?_
  obtain ⟨fd, bd, hF⟩ := F w mg fa _ (hY w _ Y) G.T.g at_
  exact law_g (hY w _ Y) G.T.g G.T.b G.T.builtins G.T.nolimit hg hobj hints (Nat.le_trans hlen hn2) hr hF bd fun H on sq => hsp w H a ns hlen on sq
end DL
/-! RP: repr of lists of data. -/
namespace DL
open PySem PySem.Spec PyProof.Rows L2
def keyP : Key → PyData
  | .inl i => .int i
  | .inr x => .str x
mutual
/-- data as the library shows them -/
def D.sh : D → PyData
  | .non => .none
  | .bl b => .bool b
  | .int i => .int i
  | .str s => .str s
  | .tup xs => .tuple (D.shs xs)
  | .lst xs => .list (D.shs xs)
  | .rl xs => .list (D.shs xs)
  | .dK kvs => .dict (D.shk kvs)
  | .dT _ => .none
  | .ex _ => .none
  | .exf _ _ _ => .none
def D.shs : List D → List PyData
  | [] => []
  | x :: r => D.sh x :: D.shs r
def D.shk : List (Key × D) → List (PyData × PyData)
  | [] => []
  | (k, x) :: r => (keyP k, D.sh x) :: D.shk r
end
mutual
def D.shOk : D → Bool
  | .tup xs => D.shOks xs
  | .lst xs => D.shOks xs
  | .rl xs => D.shOks xs
  | .dK kvs => D.shOkk kvs
  | .dT _ => false
  | .ex _ => false
  | .exf _ _ _ => false
  | _ => true
def D.shOks : List D → Bool
  | [] => true
  | x :: r => D.shOk x && D.shOks r
def D.shOkk : List (Key × D) → Bool
  | [] => true
  | (_, x) :: r => D.shOk x && D.shOkk r
end
mutual
/-- no list is in it -/
def D.noL : D → Bool
  | .tup xs => D.noLs xs
  | .lst _ => false
  | .rl _ => false
  | .dK kvs => D.noLk kvs
  | _ => true
def D.noLs : List D → Bool
  | [] => true
  | x :: r => D.noL x && D.noLs r
def D.noLk : List (Key × D) → Bool
  | [] => true
  | (_, x) :: r => D.noL x && D.noLk r
end
section
variable {X : Cx} {pins : List (Addr × Obj)} {σ : L2.St} {H S : Hp} {s : Shared}
theorem keys_rd {h : Heap} : ∀ {es : List DictEntry} {ps : List (Key × Value)}, Pairs (mixKind X.prog X.w) es ps → ReadsAll h (es.map (·.key)) (ps.map fun p => keyP p.1) [] ∧ es.map (·.val) = ps.map (·.2)
  | _, _, .nil => ⟨.nil, rfl⟩
  | e :: es, kv :: ps, .cons h1 h2 r => by
    obtain ⟨q1, q2⟩ := keys_rd r
    refine ⟨?_, by rw [List.map_cons, List.map_cons, h2, q2]⟩
    rw [List.map_cons, List.map_cons]
    rcases keyIs_shape h1 with ⟨i, t, e1, e2⟩ | ⟨x, t, e1, e2⟩
    · rw [e1, e2]
      exact ReadsAll.cons (as := []) (.int i t) q1
    · rw [e1, e2]
      exact ReadsAll.cons (as := []) (.str x t) q1
theorem shk_keys : ∀ kds : List (Key × D), (D.shk kds).map (·.1) = kds.map fun p => keyP p.1
  | [] => rfl
  | (k, d) :: r => by rw [D.shk, List.map_cons, List.map_cons, shk_keys r]
theorem dtk_keys {K : PySem.W.Frag} : ∀ {kvs : List (Key × V)} {kds : List (Key × D)} {ps : List (Key × Value)}, DtK K S kvs kds → KV kvs ps → ps.map (fun p => keyP p.1) = kds.map fun p => keyP p.1
  | _, _, _, .nil, .nil => rfl
  | _, _, _, .cons _ a, .cons ⟨e, _⟩ r => by
    rw [List.map_cons, List.map_cons, dtk_keys a r, ← e]
mutual
theorem Dt.rd (I : Inv X pins σ H s) (sm : Same S H) : ∀ {v : V} {d : D}, Dt X.K S v d → d.shOk = true → ∀ u, RelV v u → ∃ as, Reads s.heap u d.sh as ∧ (d.noL = true → sysModules ∉ as)
  | _, _, .non, _, u, r => by
    cases (show u = Value.none from r)
    exact ⟨[], .none, fun _ z => nomatch z⟩
  | _, _, .bl b, _, u, r => by
    cases (show u = Value.bool b from r)
    exact ⟨[], .bool b, fun _ z => nomatch z⟩
  | _, _, .int i, _, u, r => by
    obtain ⟨t, rfl⟩ := (show ∃ t, u = Value.int i t from r)
    exact ⟨[], .int i t, fun _ z => nomatch z⟩
  | _, _, .str x, _, u, r => by
    obtain ⟨t, rfl⟩ := (show ∃ t, u = Value.str x t from r)
    exact ⟨[], .str x t, fun _ z => nomatch z⟩
  | _, _, .lst (a := a) h da, c, u, r => by
    cases (show u = Value.ref a from r)
    obtain ⟨its, rv, ⟨o, n, ho, hc, _, hd⟩, _⟩ := I.list (.inl (.inl (sm _ _ h)))
    obtain ⟨as, q, _⟩ := DtA.rd I sm da (by simpa [D.shOk] using c) its rv
    exact ⟨_, .list ho hc hd q, fun z => by simp [D.noL] at z⟩
  | _, _, .rl (a := a) h da, c, u, r => by
    cases (show u = Value.ref a from r)
    obtain ⟨its, rv, ⟨o, n, ho, hc, _, hd⟩, _⟩ := I.list (sm.seq h)
    obtain ⟨as, q, _⟩ := DtA.rd I sm da (by simpa [D.shOk] using c) its rv
    exact ⟨_, .list ho hc hd q, fun z => by simp [D.noL] at z⟩
  | _, _, .tup (a := a) h da, c, u, r => by
    cases (show u = Value.ref a from r)
    obtain ⟨its, rv, ⟨o, ho, hc, n, hd⟩, _⟩ := I.tuple (same_t sm h)
    obtain ⟨as, q, nl⟩ := DtA.rd I sm da (by simpa [D.shOk] using c) its rv
    exact ⟨_, .tuple ho hc hd q, fun z => nl (by simpa [D.noL] using z)⟩
  | _, _, .dK (a := a) h da, c, u, r => by
    cases (show u = Value.ref a from r)
    obtain ⟨_, ns, vs, rel, o, es, ep, ho, hx, hd, _, hp, _⟩ := dk_of I.hok (sm _ _ h)
    obtain ⟨k1, k2⟩ := keys_rd (X := X) (h := s.heap) hp
    obtain ⟨bs, q, nl⟩ := DtK.rd I sm da (by simpa [D.shOk] using c) vs rel
    rw [← k2] at q
    rw [dtk_keys da rel, ← shk_keys] at k1
    refine ⟨_, .dict ho hx.1 hd k1 q, fun z => ?_⟩
    have y := nl (by simpa [D.noL] using z)
    intro m
    rcases List.mem_append.mp m with m | m
    · rcases List.mem_cons.mp m with m | m
      · rw [← m] at ns
        simp at ns
      · exact nomatch m
    · exact y m
  | _, _, .dT _ _, c, _, _ => by simp [D.shOk] at c
  | _, _, .ex _, c, _, _ => by simp [D.shOk] at c
  | _, _, .exf _ _ _, c, _, _ => by simp [D.shOk] at c
theorem DtA.rd (I : Inv X pins σ H s) (sm : Same S H) : ∀ {vs : List V} {ds : List D}, DtA X.K S vs ds → D.shOks ds = true → ∀ us, Vals vs us → ∃ as, ReadsAll s.heap us (D.shs ds) as ∧ (D.noLs ds = true → sysModules ∉ as)
  | _, _, .nil, _, us, r => by
    cases r
    exact ⟨[], .nil, fun _ z => nomatch z⟩
  | v :: vs, d :: ds, .cons h a, c, us, r => by
    cases r with
    | cons r1 r2 =>
      obtain ⟨c1, c2⟩ := Bool.and_eq_true_iff.mp (show (D.shOk d && D.shOks ds) = true by simpa [D.shOks] using c)
      obtain ⟨as, q1, n1⟩ := Dt.rd I sm h c1 _ r1
      obtain ⟨bs, q2, n2⟩ := DtA.rd I sm a c2 _ r2
      refine ⟨_, .cons q1 q2, fun z m => ?_⟩
      obtain ⟨z1, z2⟩ := Bool.and_eq_true_iff.mp (show (D.noL d && D.noLs ds) = true by simpa [D.noLs] using z)
      exact (List.mem_append.mp m).elim (n1 z1) (n2 z2)
theorem DtK.rd (I : Inv X pins σ H s) (sm : Same S H) : ∀ {kvs : List (Key × V)} {kds : List (Key × D)}, DtK X.K S kvs kds → D.shOkk kds = true → ∀ ps : List (Key × Value), KV kvs ps → ∃ as, ReadsAll s.heap (ps.map (·.2)) ((D.shk kds).map (·.2)) as ∧ (D.noLk kds = true → sysModules ∉ as)
  | _, _, .nil, _, ps, r => by
    cases r
    exact ⟨[], .nil, fun _ z => nomatch z⟩
  | (k, v) :: vs, (_, d) :: ds, .cons h a, c, ps, r => by
    cases r with
    | cons r1 r2 =>
      obtain ⟨c1, c2⟩ := Bool.and_eq_true_iff.mp (show (D.shOk d && D.shOkk ds) = true by simpa [D.shOkk] using c)
      obtain ⟨as, q1, n1⟩ := Dt.rd I sm h c1 _ r1.2
      obtain ⟨bs, q2, n2⟩ := DtK.rd I sm a c2 _ r2
      refine ⟨_, .cons q1 q2, fun z m => ?_⟩
      obtain ⟨z1, z2⟩ := Bool.and_eq_true_iff.mp (show (D.noL d && D.noLk ds) = true by simpa [D.noLk] using z)
      exact (List.mem_append.mp m).elim (n1 z1) (n2 z2)
end
end
end DL
namespace DL
open PySem PySem.Spec PyProof.Rows L2
def reprOk (ds : List D) : Bool :=
  D.shOks ds && (D.noLs ds || !PyData.hasDictAll (D.shs ds)) && PyData.showableAll (D.shs ds) && decide (PyData.depthAll (D.shs ds) ≤ 50) && decide ((PyData.list (D.shs ds)).shown.length ≤ 100000)
def gRepr : List D → Option D
  | [.lst ds] => if reprOk ds then some (.str (PyData.list (D.shs ds)).shown) else none
  | _ => none
/-- repr of a list of data -/
def rRepr (K : PySem.W.Frag) : List V → Hp → VK → Prop := fun xs H Q => ∃ (S : Hp) (a : Addr) (ds : List D), Same S H ∧ xs = [.ref a] ∧ Dt K S (.ref a) (.lst ds) ∧ reprOk ds = true ∧ Q (.str (PyData.list (D.shs ds)).shown) H
section
variable {X : Cx} {K : PySem.W.Frag}
theorem cr_repr (gd : X.A.guards = some []) (hu : X.A.units + 65 < cLine) : CallR X (.builtin "repr") (rRepr X.K) := by
  intro pins s σ H xs us Q I r h
  obtain ⟨S, a, ds, sm, rfl, dt, ok, q⟩ := h
  obtain ⟨u, rfl, r1⟩ := vals1 r
  cases (show u = Value.ref a from r1)
  simp only [reprOk, Bool.and_eq_true, Bool.or_eq_true, decide_eq_true_eq, Bool.not_eq_true'] at ok
  obtain ⟨⟨⟨⟨o1, o2⟩, o3⟩, o4⟩, o5⟩ := ok
  have o5' : (PyData.list (D.shs ds)).shown.length ≤ sizeLine := sz_of o5
  have o6 : (listText (PyData.shownAll (D.shs ds))).length ≤ sizeLine := by simpa only [PyData.shown] using o5'
  cases dt with
  | lst h da =>
    obtain ⟨its, rv, ⟨o, n, ho, hc, _, hd⟩, _⟩ := I.list (.inl (.inl (sm _ _ h)))
    obtain ⟨as, rd, nl⟩ := DtA.rd I sm da o1 its rv
    obtain ⟨bs, hb, hk⟩ := ReprAllK.of_readsAll (prog := X.prog) (w := X.w) rd o3 (fun hx => o2.elim nl fun z => absurd hx (by rw [z]; exact fun y => nomatch y)) fun t ht => Nat.le_trans (listText_mem_le ht) o6
    have hna : a ∉ bs := not_mem_of_deeper (.list ho hc hd rd) (by simp only [PyData.depth]; omega) hb
    have gd1 : X.A.in1.guards = some [] := gd
    have fin : ∀ h' u tk, (∀ b o, s.heap.get? b = some o → h'.get? b = some o) → ∃ x t, Value.str (listText (PyData.shownAll (D.shs ds))) u = Value.str x t ∧ EP X pins σ Q (Value.str (listText (PyData.shownAll (D.shs ds))) u) { s with heap := h', toks := tk } := fun h' u tk k =>
      ⟨_, _, rfl, .str (PyData.list (D.shs ds)).shown, H, I.kept k, ⟨u, by simp only [PyData.shown]⟩, q⟩
    refine call_repr_slot (by omega) ⟨o, ho, hc⟩ F.slot_list_repr.toG ?_
    cases its with
    | nil =>
      have e : D.shs ds = [] := by
        generalize D.shs ds = l at rd
        cases rd
        rfl
      rw [e] at fin
      exact call_list_repr_empty ⟨o, ho, hc⟩ ho hd (fin s.heap _ _ fun _ _ z => z)
    | cons x l =>
      exact call_list_reprK ho hc hd hna (by simpa using hk.length_eq) (fun i y e => hk.item i y (by simpa using e)) gd1 (fun b _ => Clear.nil b) (by show X.A.units + 1 + _ < cLine; omega) (fun _ _ z => z) fin o6
theorem cr_reprK (hK : X.K = K) (gd : X.A.guards = some []) (hu : X.A.units + 65 < cLine) : CallR X (.builtin "repr") (rRepr K) := by subst hK; exact cr_repr gd hu
theorem cs_repr : CallS K (rRepr K) gRepr := by
  intro S H vs ds z Q sm da e q
  unfold gRepr at e
  split at e
  · rename_i es
    split at e
    · rename_i c
      cases e
      cases da with
      | cons dv dn =>
        cases dn
        cases dv with
        | lst h2 d2 => exact ⟨S, _, es, sm, rfl, .lst h2 d2, c, q _ S H (Al.refl sm) (.str _)⟩
    · cases e
  · cases e
end
end DL
/-! DD: a dict display {"k": d}. -/
namespace DL
open PySem PySem.Spec PyProof.Rows L2
section
variable {K : PySem.W.Frag} {S H S' H' : Hp} {s s' : Sd} {σ σ' : L2.St} {p : Addr} {o0 o1 : HO}
theorem Rep.aside (r : Rep K S H s σ) (hp : H p = none) : Rep K S (upd H p o0) s σ := by
  refine ⟨fun a o e => ?_, r.len, r.tr, fun i q ds e => ?_, r.ne⟩
  · rw [upd_ne (ne_of_none (r.sub _ _ e) hp)]
    exact r.sub _ _ e
  · obtain ⟨a, o, h1, h2, h3, h4⟩ := r.ow i q ds e
    exact ⟨a, o, h1, by rw [upd_ne (ne_of_none h2 hp)]; exact h2, h3, h4⟩
theorem Rep.notOwn (r : Rep K S H s σ) (hp : H p = none) : ¬ Own s σ p := by
  rintro ⟨i, q, ds, h1, h2⟩
  obtain ⟨a, o, e1, e2, _⟩ := r.ow i q ds h1
  rw [h2] at e1
  cases e1
  rw [hp] at e2
  cases e2
theorem Go.aside (r : Rep K S H s σ) (hp : H p = none) (g : Go K S (upd H p o0) s σ S' H' s' σ') : H' p = some o0 ∧ Go K S H s σ (upd S' p o1) (upd H' p o1) s' σ' := by
  have nO := r.notOwn hp
  have h1 : H' p = some o0 := g.keep p o0 upd_same nO
  have hS : S' p = none := by
    cases e : S' p with
    | none => rfl
    | some x =>
      rcases g.grow p (by rw [e]; exact fun z => nomatch z) with z | z | z
      · exact absurd (r.sub.free hp) z
      · rw [upd_same] at z
        cases z
      · exact absurd z nO
  have own' : ∀ a, Own s' σ' a → a ≠ p := fun a o z => by
    subst z
    rcases g.own a o with y | y
    · exact nO y
    · rw [upd_same] at y
      cases y
  have back : ∀ {a : Addr}, a ≠ p → upd H p o0 a = none → H a = none := fun n z => by
    rw [upd_ne n] at z
    exact z
  refine ⟨h1, ⟨⟨fun a o e => ?_, g.rep.len, fun i d e => ?_, fun i q ds e => ?_, g.rep.ne⟩, g.ext.trans (same_upd hS), fun a o e n => ?_, fun a o => ?_, fun a e => ?_, fun a e => ?_, g.stay, g.lens⟩⟩
  · by_cases hb : a = p
    · subst hb
      rw [upd_same] at e ⊢
      exact e
    · rw [upd_ne hb] at e ⊢
      exact g.rep.sub _ _ e
  · obtain ⟨v, e1, q⟩ := g.rep.tr i d e
    exact ⟨v, e1, q.mono (same_upd hS)⟩
  · obtain ⟨a, o, e1, e2, e3, e4⟩ := g.rep.ow i q ds e
    have hb := own' a ⟨i, q, ds, e, e1⟩
    exact ⟨a, o, e1, by rw [upd_ne hb]; exact e2, by rw [upd_ne hb]; exact e3, e4.mono (same_upd hS)⟩
  · have hb := ne_of_none e hp
    rw [upd_ne hb]
    exact g.keep a o (by rw [upd_ne hb]; exact e) n
  · rcases g.own a o with z | z
    · exact .inl z
    · exact .inr (back (own' a o) z)
  · have hb : a ≠ p := fun z => by
      subst z
      rw [upd_same] at e
      cases e
    rw [upd_ne hb] at e
    exact back hb (g.live a e)
  · by_cases hb : a = p
    · subst hb
      exact .inr (.inl hp)
    · rw [upd_ne hb] at e
      rcases g.grow a e with z | z | z
      · exact .inl z
      · exact .inr (.inl (back hb z))
      · exact .inr (.inr z)
variable {X : Cx} {tv : TE} {fv : FE}
/-- {"k": v} -/
def fDis1 (k : Str) (fv : FE) : FE := fun s => match fv s with
  | some (d, s1) => some (.dK [(.inr k, d)], s1)
  | none => none
theorem se_dis1 {k : Str} (h : SE K tv fv) : SE K (tDisp [(tC (.str k), tv)]) (fDis1 k fv) := by
  intro S H s σ Q r q p hp
  unfold fDis1 at q
  cases e : fv s with
  | none => rw [e] at q; exact q.elim
  | some x =>
    obtain ⟨d, s1⟩ := x
    rw [e] at q
    refine h.use (r.aside (o0 := .dK []) hp) e fun v S1 H1 g dv => ?_
    obtain ⟨h1, g2⟩ := Go.aside (o1 := .dK [(.inr k, v)]) r hp g
    refine ⟨h1, [(.inr k, v)], rfl, (by show 1 ≤ 15; decide), q _ _ _ g2 (.dK upd_same (.cons (dv.mono ?_) .nil))⟩
    have := g2.rep.sub
    refine same_upd ?_
    cases e3 : S1 p with
    | none => rfl
    | some x =>
      rcases g.grow p (by rw [e3]; exact fun z => nomatch z) with z | z | z
      · exact absurd (r.sub.free hp) z
      · rw [upd_same] at z
        cases z
      · exact absurd z (r.notOwn hp)
theorem pd_dis1 {k : Str} {v : Expr} {j p1 pos} (h : PD X v tv fv) : PD X (.Dict [some (.Constant (.str k) j p1)] [v] pos) (tDisp [(tC (.str k), tv)]) (fDis1 k fv) :=
  ⟨pe_disp (pps_cons pe_str h.pe pps_nil) rfl rfl (by simp) (show 1 ≤ 15 by decide), se_dis1 h.ok⟩
end
end DL
namespace DL
open PySem PySem.Spec PyProof.Rows L2
section
variable {X : Cx} {te : TE} {fe : FE}
/-- x.append(e), x an own list -/
theorem pd_appK {K : PySem.W.Frag} (hK : X.K = K) (i : Nat) {o e : Expr} {apos cpos : Pos} (pa : PlainAttrs "list") (ho : PE X o (tVar i)) (h : PD X e te fe)
    (hbase : attributeBase o "append" X.env (eval o X.env) = eval o X.env := by rfl)
    (hfew : ((backTo cpos (starEach [e] X.env)).all (fun x => !x.1) && (backToKw cpos (keywordEach [] X.env)).all (fun x => x.1.isSome)
      && decide ([e].length + ([] : List Keyword).length + (if ([] : List Keyword).isEmpty then 0 else 1) < 30)) = true := by rfl)
    (hline : (apos.endLine == cpos.line) = true := by rfl) (hs : starEach [e] X.env = (false, eval e X.env) :: starEach [] X.env := by rfl) (hplain : (backTo cpos (starEach [] X.env)).any (·.1) = false := by rfl) :
    PD X (.Call (.Attribute o "append" apos) [e] [] cpos) (tBM K "list" rAppend (tVar i) (tCons te tNil)) (fApp i fe) := by
  subst hK
  exact ⟨pe_bm pa F.slot_list_append F.type_list_append mt_append ho (pa_cons h.pe pa_nil hs) hbase hfew hline hs hplain, se_app h.ok⟩
end
end DL
/-! DL11: own exceptions made, as PD; tables of answers by class. -/
namespace DL
open PySem PySem.Spec PyProof.Rows L2
section
variable {X : Cx} {K : PySem.W.Frag} {C : Addr} {bm bmB : List Value} {B newId initId : String} {x : Str} {p pos : Pos} {e : Expr} {ta : TE} {fa : FE}
theorem pd_ex1 (hK : X.K = K) (F : ExcBaseFacts B newId initId bmB) (q : PySem.W.excIn K C bmB newId = true) (gC : X.mg x = some (.ref C)) (kC : PySem.W.keepIn K (.ref C) = true) (hg : Gl X x) (h : PD X e ta fa)
    (hs : starEach [e] X.env = (false, eval e X.env) :: starEach [] X.env := by rfl) (hdb : (x == ("__debug__" : Str)) = false := by decide) : PD X (.Call (.Name x p) [e] [] pos) (tEx1 C ta) (fEx1 C fa) := by
  subst hK
  exact ⟨pe_exc1 F q gC kC hg h.pe hs hdb, se_ex1 h.ok⟩
theorem pd_ex0 (hK : X.K = K) (F : ExcBaseFacts B newId initId bmB) (q : PySem.W.excIn K C bmB newId = true) (gC : X.mg x = some (.ref C)) (kC : PySem.W.keepIn K (.ref C) = true) (hg : Gl X x)
    (hdb : (x == ("__debug__" : Str)) = false := by decide) : PD X (.Call (.Name x p) [] [] pos) (tEx0 C) (fC (.ex C)) := by
  subst hK
  exact ⟨pe_exc0 F q gC kC hg hdb, se_ex0⟩
theorem pd_mkE (hK : X.K = K) {CX : CXT} {f : Str} {fI : Addr} {k : Nat} {fd : FuncData} {ps : List Str} (T : OwnE K C bm bmB B newId initId) (iC : PySem.W.findIn K (.ref C) "__init__" = some (some (.ref fI))) (tI : PySem.W.typeIn K (.ref fI) = some (.type "function"))
    (F1 : FnOk X.prog X.w K X.mg X.base CX k fI fd ps (spI C f)) (hps : ps.length = 2) (hr : Room (k + 1) X.A) (hb : Binds K fd ps []) (hx : Passes CX X (fun _ _ _ => False)) (hg : Gl X x) (hm : X.mg x = some (.ref C)) (h : PD X e ta fa)
    (hdb : (x == ("__debug__" : Str)) = false := by decide) (hs : starEach [e] X.env = (false, eval e X.env) :: starEach [] X.env := by rfl) : PD X (.Call (.Name x p) [e] [] pos) (tMkE C f ta) (fMkE C f fa) := by
  subst hK
  exact ⟨pe_mkE T iC tI F1 hps hr hb hx hg hm h.pe hdb hs, se_mkE h.ok⟩
end
/-- the answers by class: cl numbers the classes, f tells the answer of each -/
def clsTab (cl : Nat → Addr) (f : List Bool) (C : Addr) : Option Bool := (List.range f.length).findSome? fun i => if cl i = C then f[i]? else none
theorem clsTab_of {cl : Nat → Addr} {f : List Bool} {C : Addr} {b : Bool} (h : clsTab cl f C = some b) : ∃ i, i < f.length ∧ cl i = C ∧ f[i]? = some b := by
  unfold clsTab at h
  obtain ⟨i, h1, h2⟩ := List.exists_of_findSome?_eq_some h
  by_cases c : cl i = C
  · rw [if_pos c] at h2
    exact ⟨i, List.mem_range.mp h1, c, h2⟩
  · rw [if_neg c] at h2
    cases h2
def clsIs (cl : Nat → Addr) (n : Nat) (C : Addr) : Bool := (List.range n).any fun i => decide (cl i = C)
theorem clsIs_of {cl : Nat → Addr} {n : Nat} {C : Addr} (h : clsIs cl n C = true) : ∃ i, i < n ∧ cl i = C := by
  unfold clsIs at h
  obtain ⟨i, h1, h2⟩ := List.any_eq_true.mp h
  exact ⟨i, List.mem_range.mp h1, of_decide_eq_true h2⟩
/-- where classes stand at different places, the table answers by the number -/
theorem clsTab_at {cl : Nat → Addr} {f : List Bool} {i : Nat} {b : Bool} (nd : ∀ i j, i < f.length → j < f.length → cl i = cl j → i = j) (h : f[i]? = some b) : clsTab cl f (cl i) = some b := by
  have hi : i < f.length := by
    rcases Nat.lt_or_ge i f.length with c | c
    · exact c
    · rw [List.getElem?_eq_none c] at h
      cases h
  unfold clsTab
  cases e : (List.range f.length).findSome? fun j => if cl j = cl i then f[j]? else none with
  | some x =>
    obtain ⟨j, h1, h2⟩ := List.exists_of_findSome?_eq_some e
    by_cases c : cl j = cl i
    · have := nd j i (List.mem_range.mp h1) hi c
      subst this
      rw [if_pos rfl, h] at h2
      exact h2.symm
    · rw [if_neg c] at h2
      cases h2
  | none =>
    rw [List.findSome?_eq_none_iff] at e
    have := e i (List.mem_range.mpr hi)
    rw [if_pos rfl, h] at this
    cases this
end DL
/-! DL12: what the written part says of own exceptions, from what a head can ask of it. -/
namespace DL
open PySem PySem.Spec PyProof.Rows L2
section
variable {K : PySem.W.Frag} {C C0 N N0 : Addr} {nm q nm0 q0 : Str} {bs bm bmB bs0 sub sub0 : List Value} {sn sn0 : List Str} {ab ab0 : Bool} {col col0 : Option Bool} {dd dd0 dn dn0 : Option Addr} {k0 k1 k2 k3 k5 j0 j1 j2 j3 j5 : Option Value} {newId n0 : String} {cn cn0 : Value} {es es0 : Array DictEntry} {ep ep0 : Nat} {sl sl0 : Array (Option Value)} {b : Bool}
abbrev strKeys (es : Array DictEntry) : Bool := es.all fun e => match e.key with | .str _ _ => true | _ => false
theorem nsOk_of (ln : K.lookup N = some ⟨cn, dn, .dict es ep, sl⟩) (he : strKeys es = true) : PySem.W.nsOkIn K N = true := by
  unfold PySem.W.nsOkIn
  rw [ln]
  exact he
theorem excIn0 (lc : K.lookup C = some (excClassObj nm q C N bs bm true sn sub ab col dd k0 k1 k2 k3 k5 newId)) (hok : PySem.W.nsOkIn K N = true) (hi : PySem.W.nsIn K N "__init__" = some none) (ht : PySem.W.tailIn K bmB bm = true) : PySem.W.excIn K C bmB newId = true := by
  unfold PySem.W.excIn
  rw [lc]
  show (C == C && newId == newId && !false && PySem.W.tailIn K bmB bm && PySem.W.nsOkIn K N && PySem.W.nsIn K N "__init__" == some none) = true
  rw [ht, hok, hi]
  simp
theorem tail0 : ∀ bm : List Value, PySem.W.tailIn K bm bm = true
  | [] => rfl
  | v :: r => by
    unfold PySem.W.tailIn
    simp
theorem tail1 (lc : K.lookup C0 = some (excClassObj nm0 q0 C0 N0 bs0 bmB true sn0 sub0 ab0 col0 dd0 j0 j1 j2 j3 j5 n0)) (hok : PySem.W.nsOkIn K N0 = true) (hi : PySem.W.nsIn K N0 "__init__" = some none) : PySem.W.tailIn K bmB (.ref C0 :: bmB) = true := by
  unfold PySem.W.tailIn
  dsimp only
  rw [lc]
  show ((Value.ref C0 :: bmB) == bmB || (PySem.W.nsOkIn K N0 && PySem.W.nsIn K N0 "__init__" == some none && PySem.W.tailIn K bmB bmB)) = true
  rw [hok, hi, tail0]
  simp
theorem cls_has (lc : K.lookup C = some (excClassObj nm q C N bs bm true sn sub ab col dd k0 k1 k2 k3 k5 newId)) : ∃ cd, PySem.W.clsIn K C = some cd ∧ cd.hasDict = true :=
  ⟨_, by
    unfold PySem.W.clsIn
    rw [lc], rfl⟩
theorem kit_T {T : String} (hm : PySem.W.kitMeta T = true) (h : PySem.W.subIn K (.ref C) (.type T) = some b) : PySem.W.kitOne K (.ref C) (.type T) = some b := by
  have e : (Value.ref C == Value.type T) = false := rfl
  unfold PySem.W.kitOne
  rw [e, if_neg (by decide)]
  unfold PySem.W.kitCls
  dsimp only
  rw [if_pos hm]
  exact h
theorem kit_C (h1 : PySem.W.isClsIn K C0 = true) (h2 : PySem.W.typeIn K (.ref C0) = some (.type "type")) (hb : C = C0 → b = true) (h : PySem.W.subIn K (.ref C) (.ref C0) = some b) : PySem.W.kitOne K (.ref C) (.ref C0) = some b := by
  unfold PySem.W.kitOne
  by_cases e : C = C0
  · subst e
    rw [if_pos (beq_self_eq_true _), hb rfl]
  · rw [if_neg (by intro z; exact e (Value.ref.inj (beq_iff_eq.mp z)))]
    have c : ((PySem.W.clsIn K C0).isSome && PySem.W.typeIn K (.ref C0) == some (.type "type")) = true := by
      rw [show (PySem.W.clsIn K C0).isSome = true from h1, h2]
      rfl
    unfold PySem.W.kitCls
    dsimp only
    rw [if_pos c]
    exact h
theorem tab_all {cl : Nat → Addr} {n : Nat} {u : Value} {tab : List Bool} (x : ∀ i, i < n → ExK K (cl i)) (hl : tab.length = n) (s : ∀ i b, i < n → tab[i]? = some b → PySem.W.kitOne K (.ref (cl i)) u = some b) :
    ∀ C b, clsTab cl tab C = some b → ExK K C ∧ PySem.W.kitOne K (.ref C) u = some b := by
  intro C b h
  obtain ⟨i, hi, rfl, e⟩ := clsTab_of h
  exact ⟨x i (by omega), s i b (by omega) e⟩
end
end DL
namespace K00
open PySem PySem.Spec PyProof.Rows L2 DL
/-- where the classes stand -/
class Cl where
  at_ : Nat → Addr
def cl [Cl] : Nat → Addr := Cl.at_
variable [Cl]
/-! ### what the defs compute -/
def b_law_dice : FS :=
  (fSeq (fAsg (fOp gAdd (fOp gMulA (fC (.int 97)) (fV 1)) (fC (.int 53))) (fgN 2))
    (fSeq (fIfS (fB (fOp gLt (fV 1) (fCB gLen (fCons (fV 0) fNil)))) (fAsg (fOp gIx (fV 0) (fV 1)) (fgN 2)) fNx)
    (fSeq (fAsg (fOp gMod (fCB gInt (fCons (fCB gAbs (fCons (fV 2) fNil)) fNil)) (fOp gPow (fOp gPow (fC (.int 10)) (fC (.int 60))) (fC (.int 10)))) (fgN 3))
    (fSeq (fAsg (fOp gDivA (fV 3) (fOp gPow (fC (.int 10)) (fC (.int 18)))) (fgN 4))
    (fSeq (fAsg (fOp gAdd (fOp gAdd (fOp gAdd (fOp gMulA (fOp gMod (fV 3) (fC (.int 2147482951))) (fC (.int 61291))) (fOp gMulA (fC (.int 3517)) (fV 1))) (fOp gMulA (fC (.int 71)) (fCB gInt (fCons (fOp gLt (fV 2) (fC (.int 0))) fNil)))) (fC (.int 83))) (fgN 5))
    (fRetN (fCons (fV 4) (fCons (fOp gMod (fV 5) (fC (.int 2147482949))) (fCons (fC (.int 0)) fNil)))))))))
def m_law_dice : List Sl → Option (List D × Sd) := defN 2 6 b_law_dice
def b_law_kinds : FS :=
  (fSeq (fAsg (fLst (fCons (fIsE (clsTab cl [false, true, false, false, false, false, false, false, false, false, false]) (fV 0)) (fCons (fIsE (clsTab cl [false, false, true, false, false, false, false, false, false, false, false]) (fV 0)) (fCons (fIsE (clsTab cl [false, false, false, true, false, false, false, false, false, false, false]) (fV 0)) fNil)))) (fgN 1))
    (fSeq (fAsg (fOp gAdd (fV 1) (fLst (fCons (fIsE (clsTab cl [false, false, false, false, true, false, false, false, false, false, false]) (fV 0)) (fCons (fIsE (clsTab cl [false, false, false, false, false, true, false, false, false, false, false]) (fV 0)) (fCons (fIsE (clsTab cl [true, true, true, true, true, true, false, false, false, false, false]) (fV 0)) fNil))))) (fgN 1))
    (fSeq (fAsg (fOp gAdd (fV 1) (fLst (fCons (fIsE (clsTab cl [true, true, true, true, true, true, false, false, false, false, false]) (fV 0)) (fCons (fIsE (clsTab cl [false, false, false, false, false, false, true, false, false, false, false]) (fV 0)) (fCons (fIsE (clsTab cl [false, false, false, false, false, false, false, true, false, false, false]) (fV 0)) fNil))))) (fgN 1))
    (fSeq (fAsg (fOp gAdd (fV 1) (fLst (fCons (fIsE (clsTab cl [false, false, false, false, false, false, false, false, true, false, false]) (fV 0)) (fCons (fIsE (clsTab cl [false, false, false, false, false, false, false, false, false, true, false]) (fV 0)) (fCons (fIsE (clsTab cl [false, false, false, false, false, false, false, false, false, false, true]) (fV 0)) fNil))))) (fgN 1))
    (fSeq (fAsg (fOp gAdd (fV 1) (fLst (fCons (fIsE (clsTab cl [false, false, false, false, false, false, true, false, false, false, false]) (fV 0)) (fCons (fIsE (clsTab cl [false, false, false, false, false, false, false, true, true, false, false]) (fV 0)) fNil)))) (fgN 1))
    (fSeq (fAsg (fOp gAdd (fV 1) (fLst (fCons (fIsE (clsTab cl [false, false, false, false, false, false, false, false, true, false, false]) (fV 0)) (fCons (fIsE (clsTab cl [false, false, false, false, false, false, false, false, false, true, false]) (fV 0)) (fCons (fIsE (clsTab cl [false, false, false, false, false, false, false, false, false, false, true]) (fV 0)) fNil))))) (fgN 1))
    (fRet (fJoin (fC (.str ("" : Str))) (fCons (fLc (fiA (fV 1)) (fgN 2) (fYes) (fIf (fTru (fV 2)) (fC (.str ("x" : Str))) (fC (.str ("." : Str)))) [2]) fNil)))))))))
def m_law_kinds : List Sl → Option (D × Sd) := defF 1 3 b_law_kinds
def b_law_roll : FS :=
  (fSeq (fAsg (fCB gInt (fCons (fV 1) fNil)) (fgN 2))
    (fSeq (fIfS (fB (fOp gGt (fIxO 0 (fC (.int 0))) (fC (.int 0)))) (fSeq (fAsg (fOp gMod (fIxO 0 (fC (.int 0))) (fV 2)) (fgN 3))
    (fSeq (fSetO 0 (fC (.int 0)) (fOp gDivA (fIxO 0 (fC (.int 0))) (fV 2)))
    (fRet (fCB gInt (fCons (fV 3) fNil))))) fNx)
    (fSeq (fSetO 0 (fC (.int 2)) (fOp gAdd (fIxO 0 (fC (.int 2))) (fC (.int 1))))
    (fSeq (fAsg (fOp gMod (fOp gAdd (fIxO 0 (fC (.int 1))) (fOp gMulA (fC (.int 1000249)) (fIxO 0 (fC (.int 2))))) (fC (.int 2305843009213693951))) (fgN 4))
    (fSeq (fAsg (fOp gAdd (fOp gMulA (fOp gMod (fOp gMulA (fV 4) (fV 4)) (fC (.int 2305843009213693921))) (fV 4)) (fOp gMulA (fC (.int 9437)) (fIxO 0 (fC (.int 2))))) (fgN 5))
    (fSeq (fAsg (fOp gMod (fV 5) (fC (.int 2305843009213693907))) (fgN 5))
    (fRet (fCB gInt (fCons (fOp gMod (fOp gDivA (fV 5) (fC (.int 4096))) (fV 2)) fNil)))))))))
def m_law_roll : List Sl → Option (D × Sd) := defF 2 6 b_law_roll
def b_law_one_of : FS :=
  (fRet (fOp gIx (fV 1) (fCallO 2 m_law_roll 0 (fCons (fCB gLen (fCons (fV 1) fNil)) fNil))))
def m_law_one_of : List Sl → Option (D × Sd) := defF 2 2 b_law_one_of
def b_law_right : FS :=
  (fSeq (fAsg (fCallO 2 m_law_one_of 0 (fCons (fLst (fCons (fC (.int 0)) (fCons (fC (.str ("" : Str))) (fCons (fC (.str ("a" : Str))) (fCons (fC .non) (fCons (fTup fNil) (fCons (fTup (fCons (fC (.str ("a" : Str))) (fCons (fC (.int 1)) fNil))) (fCons (fOp gPow (fC (.int 10)) (fC (.int 30))) (fCons (fC (.bl true)) (fCons (fLst (fCons (fC (.int 1)) fNil)) (fCons (fDis1 ("a" : Str) (fTup fNil)) (fCons (fUn gNeg (fC (.int 7))) fNil)))))))))))) fNil)) (fgN 1))
    (fSeq (fSetW 2 (fNLst (fCons (fEx1 (cl 1) (fV 1)) (fCons (fEx1 (cl 2) (fV 1)) (fCons (fEx1 (cl 3) (fV 1)) (fCons (fEx1 (cl 4) (fV 1)) (fCons (fMkE (cl 5) "line" (fV 1)) fNil)))))))
    (fSeq (fDrop (fApp 2 (fEx1 (cl 0) (fV 1))))
    (fSeq (fAsg (fLst (fCons (fC (.str ("x....xx.........." : Str))) (fCons (fC (.str (".x...xx.........." : Str))) (fCons (fC (.str ("..x..xx.........." : Str))) (fCons (fC (.str ("...x.xx.........." : Str))) fNil))))) (fgN 3))
    (fSeq (fIfS (fB (fOp gNeD (fLc (fiA (fV 2)) (fgN 7) (fYes) (fCall 1 m_law_kinds (fCons (fV 7) fNil)) [7]) (fOp gAdd (fV 3) (fLst (fCons (fC (.str ("....xxx.........." : Str))) (fCons (fC (.str (".....xx.........." : Str))) fNil)))))) (fRet (fC (.bl false))) fNx)
    (fSeq (fAsg (fLst (fCons (fC (.ex (cl 1))) (fCons (fC (.ex (cl 2))) (fCons (fC (.ex (cl 3))) (fCons (fC (.ex (cl 4))) (fCons (fC (.ex (cl 0))) fNil)))))) (fgN 4))
    (fSeq (fIfS (fB (fOp gNeD (fLc (fiA (fV 4)) (fgN 7) (fYes) (fCall 1 m_law_kinds (fCons (fV 7) fNil)) [7]) (fOp gAdd (fV 3) (fLst (fCons (fC (.str (".....xx.........." : Str))) fNil))))) (fRet (fC (.bl false))) fNx)
    (fSeq (fAsg (fLst (fCons (fMkE (cl 6) "place" (fV 1)) (fCons (fMkE (cl 7) "value" (fV 1)) (fCons (fMkE (cl 8) "limit" (fV 1)) (fCons (fMkE (cl 9) "many" (fV 1)) (fCons (fMkE (cl 10) "reason" (fV 1)) fNil)))))) (fgN 5))
    (fSeq (fAsg (fLst (fCons (fC (.str (".......x....x...." : Str))) (fCons (fC (.str ("........x....x..." : Str))) (fCons (fC (.str (".........x...xx.." : Str))) (fCons (fC (.str ("..........x....x." : Str))) (fCons (fC (.str ("...........x....x" : Str))) fNil)))))) (fgN 3))
    (fSeq (fIfS (fB (fOp gNeD (fLc (fiA (fV 5)) (fgN 7) (fYes) (fCall 1 m_law_kinds (fCons (fV 7) fNil)) [7]) (fV 3))) (fRet (fC (.bl false))) fNx)
    (fSeq (fAsg (fLst (fCons (fExF (fun C => decide (C = cl 5)) "line" (fOp gIx (fV 2) (fC (.int 4)))) (fCons (fExF (fun C => decide (C = cl 6)) "place" (fOp gIx (fV 5) (fC (.int 0)))) (fCons (fExF (fun C => decide (C = cl 7)) "value" (fOp gIx (fV 5) (fC (.int 1)))) (fCons (fExF (fun C => decide (C = cl 8)) "limit" (fOp gIx (fV 5) (fC (.int 2)))) (fCons (fExF (fun C => decide (C = cl 9)) "many" (fOp gIx (fV 5) (fC (.int 3)))) (fCons (fExF (fun C => decide (C = cl 10)) "reason" (fOp gIx (fV 5) (fC (.int 4)))) fNil))))))) (fgN 6))
    (fRet (fOp gEqD (fCB gRepr (fCons (fV 6) fNil)) (fCB gRepr (fCons (fOp gMulA (fLst (fCons (fV 1) fNil)) (fC (.int 6))) fNil)))))))))))))))
def m_law_right : List Sl → Option (D × Sd) := defF 1 8 b_law_right
def b_law : FS :=
  (fSeq (fFor (fiR1 (fCons (fCB gMax2 (fCons (fC (.int 1)) (fCons (fCB gMin2 (fCons (fC (.int 8)) (fCons (fCB gLen (fCons (fV 0) fNil)) fNil))) fNil))) fNil)) (fgN 1) (fSeq (fSetN 2 m_law_dice (fCons (fV 0) (fCons (fV 1) fNil)) 2)
    (fFor (fiR1 (fCons (fC (.int 4)) fNil)) (fgN 3) (fIfS (fNot (fTru (fCallO 1 m_law_right 2 fNil))) (fRet (fC (.bl false))) fNx))))
    (fRet (fOp gEqD (fLst (fCons (fExF (fun C => decide (C = cl 5)) "line" (fMkE (cl 5) "line" (fC .non))) (fCons (fExF (fun C => decide (C = cl 5)) "line" (fMkE (cl 5) "line" (fC (.int 3)))) (fCons (fExF (fun C => decide (C = cl 8)) "limit" (fMkE (cl 8) "limit" (fC (.int 60)))) fNil)))) (fLst (fCons (fC .non) (fCons (fC (.int 3)) (fCons (fC (.int 60)) fNil)))))))
def m_law : List Sl → Option (D × Sd) := defF 1 4 b_law
/-! ### the text -/
def topS (i : Nat) : Stmt := PySem.Challenge.pw_holdsfast_k00_errors_and_what_they_keep.main.body.getD i (.Pass ⟨0, 0, 0, 0⟩)
abbrev s_law_dice : Stmt := topS 13
abbrev s_law_kinds : Stmt := topS 16
abbrev s_law_roll : Stmt := topS 14
abbrev s_law_one_of : Stmt := topS 15
abbrev s_law_right : Stmt := topS 17
abbrev s_law : Stmt := topS 18
theorem sc_law_dice : FnScope ["_law_script", "_law_at", "_law_cell", "_law_great", "_law_left", "_law_mixed"] ["_law_script", "_law_at"] (defScope s_law_dice) := ⟨rfl, rfl, rfl, by decide +kernel, rfl, by decide +kernel, by decide +kernel⟩
theorem sc_law_kinds : FnScope ["_law_error", "_law_told", "_law_one"] ["_law_error"] (defScope s_law_kinds) := ⟨rfl, rfl, rfl, by decide +kernel, rfl, by decide +kernel, by decide +kernel⟩
theorem sc_law_roll : FnScope ["_law_dice_here", "_law_total", "_law_size", "_law_drawn", "_law_one", "_law_two"] ["_law_dice_here", "_law_total"] (defScope s_law_roll) := ⟨rfl, rfl, rfl, by decide +kernel, rfl, by decide +kernel, by decide +kernel⟩
theorem sc_law_one_of : FnScope ["_law_dice_here", "_law_items"] ["_law_dice_here", "_law_items"] (defScope s_law_one_of) := ⟨rfl, rfl, rfl, by decide +kernel, rfl, by decide +kernel, by decide +kernel⟩
theorem sc_law_right : FnScope ["_law_dice_here", "_law_thing", "_law_base", "_law_due", "_law_none", "_law_others", "_law_kept", "_law_one"] ["_law_dice_here"] (defScope s_law_right) := ⟨rfl, rfl, rfl, by decide +kernel, rfl, by decide +kernel, by decide +kernel⟩
theorem sc_law : FnScope ["_law_script", "_law_spot", "_law_dice_here", "_law_turn"] ["_law_script"] (defScope s_law) := ⟨rfl, rfl, rfl, by decide +kernel, rfl, by decide +kernel, by decide +kernel⟩
def clsB : Stmt → List Stmt
  | .ClassDef (body := b) .. => b
  | _ => []
abbrev s_init_ParseError : Stmt := (clsB (topS 6)).getD 0 (.Pass ⟨0, 0, 0, 0⟩)
theorem sc_init_ParseError : FnScope ["self", "line"] ["self", "line"] (defScope s_init_ParseError) := ⟨rfl, rfl, rfl, by decide +kernel, rfl, by decide +kernel, by decide +kernel⟩
abbrev s_init_TooMany : Stmt := (clsB (topS 9)).getD 0 (.Pass ⟨0, 0, 0, 0⟩)
theorem sc_init_TooMany : FnScope ["self", "limit"] ["self", "limit"] (defScope s_init_TooMany) := ⟨rfl, rfl, rfl, by decide +kernel, rfl, by decide +kernel, by decide +kernel⟩
abbrev s_init_UnknownPlace : Stmt := (clsB (topS 7)).getD 0 (.Pass ⟨0, 0, 0, 0⟩)
theorem sc_init_UnknownPlace : FnScope ["self", "place"] ["self", "place"] (defScope s_init_UnknownPlace) := ⟨rfl, rfl, rfl, by decide +kernel, rfl, by decide +kernel, by decide +kernel⟩
abbrev s_init_InvalidNumber : Stmt := (clsB (topS 8)).getD 0 (.Pass ⟨0, 0, 0, 0⟩)
theorem sc_init_InvalidNumber : FnScope ["self", "value"] ["self", "value"] (defScope s_init_InvalidNumber) := ⟨rfl, rfl, rfl, by decide +kernel, rfl, by decide +kernel, by decide +kernel⟩
abbrev s_init_NothingToUndo : Stmt := (clsB (topS 10)).getD 0 (.Pass ⟨0, 0, 0, 0⟩)
theorem sc_init_NothingToUndo : FnScope ["self", "many"] ["self", "many"] (defScope s_init_NothingToUndo) := ⟨rfl, rfl, rfl, by decide +kernel, rfl, by decide +kernel, by decide +kernel⟩
abbrev s_init_Refused : Stmt := (clsB (topS 11)).getD 0 (.Pass ⟨0, 0, 0, 0⟩)
theorem sc_init_Refused : FnScope ["self", "reason"] ["self", "reason"] (defScope s_init_Refused) := ⟨rfl, rfl, rfl, by decide +kernel, rfl, by decide +kernel, by decide +kernel⟩
/-! ### what the top has left -/
structure Tx (K : PySem.W.Frag) (mg : Str → Option Value) (ad : Nat → Addr) (fds : Nat → FuncData) (ini : Nat → Addr) (fdi : Nat → FuncData) : Prop where
  F_law_dice : Fun K "_law_dice" "_law_dice" s_law_dice (ad 0) (fds 0)
  B_law_dice : Binds K (fds 0) ["_law_script", "_law_at"] []
  G_law_dice : mg "_law_dice" = some (.ref (ad 0))
  F_law_kinds : Fun K "_law_kinds" "_law_kinds" s_law_kinds (ad 1) (fds 1)
  B_law_kinds : Binds K (fds 1) ["_law_error"] []
  G_law_kinds : mg "_law_kinds" = some (.ref (ad 1))
  F_law_roll : Fun K "_law_roll" "_law_roll" s_law_roll (ad 2) (fds 2)
  B_law_roll : Binds K (fds 2) ["_law_dice_here", "_law_total"] []
  G_law_roll : mg "_law_roll" = some (.ref (ad 2))
  F_law_one_of : Fun K "_law_one_of" "_law_one_of" s_law_one_of (ad 3) (fds 3)
  B_law_one_of : Binds K (fds 3) ["_law_dice_here", "_law_items"] []
  G_law_one_of : mg "_law_one_of" = some (.ref (ad 3))
  F_law_right : Fun K "_law_right" "_law_right" s_law_right (ad 4) (fds 4)
  B_law_right : Binds K (fds 4) ["_law_dice_here"] []
  G_law_right : mg "_law_right" = some (.ref (ad 4))
  F_law : Fun K "law" "law" s_law (ad 5) (fds 5)
  B_law : Binds K (fds 5) ["_law_script"] []
  G_law : mg "law" = some (.ref (ad 5))
  n_range : mg "range" = none
  n_max : mg "max" = none
  n_min : mg "min" = none
  n_len : mg "len" = none
  n_int : mg "int" = none
  n_abs : mg "abs" = none
  n_repr : mg "repr" = none
  n_isinstance : mg "isinstance" = none
  n_OverflowError : mg "OverflowError" = none
  n_IndexError : mg "IndexError" = none
  n_RuntimeError : mg "RuntimeError" = none
  n_KeyError : mg "KeyError" = none
  n_ArithmeticError : mg "ArithmeticError" = none
  n_ValueError : mg "ValueError" = none
  G_ParseError : mg "ParseError" = some (.ref (cl 5))
  O_ParseError : OwnE K (cl 5) [.ref (cl 0), .type "ValueError", .type "Exception", .type "BaseException", .type "object"] [.type "ValueError", .type "Exception", .type "BaseException", .type "object"] "ValueError" "ValueError.__new__" "ValueError.__init__"
  I_ParseError : PySem.W.findIn K (.ref (cl 5)) "__init__" = some (some (.ref (ini 5)))
  J_ParseError : PySem.W.typeIn K (.ref (ini 5)) = some (.type "function")
  F_init_ParseError : Fun K "__init__" "ParseError.__init__" s_init_ParseError (ini 5) (fdi 5)
  B_init_ParseError : Binds K (fdi 5) ["self", "line"] []
  N_ParseError : PySem.W.findIn K (.ref (cl 5)) "line" = some none
  R_ParseError : ClX.CRead K (cl 0) (.type "type")
  V_ParseError : PySem.W.findCls K (.ref (cl 0)) (.type "type") "__init__" = some (.val (.builtin "ValueError.__init__"))
  G_TooMany : mg "TooMany" = some (.ref (cl 8))
  O_TooMany : OwnE K (cl 8) [.type "OverflowError", .type "ArithmeticError", .type "Exception", .type "BaseException", .type "object"] [.type "OverflowError", .type "ArithmeticError", .type "Exception", .type "BaseException", .type "object"] "OverflowError" "OverflowError.__new__" "OverflowError.__init__"
  I_TooMany : PySem.W.findIn K (.ref (cl 8)) "__init__" = some (some (.ref (ini 8)))
  J_TooMany : PySem.W.typeIn K (.ref (ini 8)) = some (.type "function")
  F_init_TooMany : Fun K "__init__" "TooMany.__init__" s_init_TooMany (ini 8) (fdi 8)
  B_init_TooMany : Binds K (fdi 8) ["self", "limit"] []
  N_TooMany : PySem.W.findIn K (.ref (cl 8)) "limit" = some none
  V_TooMany : PySem.W.findCls K (.type "OverflowError") (.type "type") "__init__" = some (.val (.builtin "OverflowError.__init__"))
  G_UnknownPlace : mg "UnknownPlace" = some (.ref (cl 6))
  O_UnknownPlace : OwnE K (cl 6) [.type "KeyError", .type "LookupError", .type "Exception", .type "BaseException", .type "object"] [.type "LookupError", .type "Exception", .type "BaseException", .type "object"] "LookupError" "LookupError.__new__" "LookupError.__init__"
  I_UnknownPlace : PySem.W.findIn K (.ref (cl 6)) "__init__" = some (some (.ref (ini 6)))
  J_UnknownPlace : PySem.W.typeIn K (.ref (ini 6)) = some (.type "function")
  F_init_UnknownPlace : Fun K "__init__" "UnknownPlace.__init__" s_init_UnknownPlace (ini 6) (fdi 6)
  B_init_UnknownPlace : Binds K (fdi 6) ["self", "place"] []
  N_UnknownPlace : PySem.W.findIn K (.ref (cl 6)) "place" = some none
  V_UnknownPlace : PySem.W.findCls K (.type "KeyError") (.type "type") "__init__" = some (.val (.builtin "KeyError.__init__"))
  G_InvalidNumber : mg "InvalidNumber" = some (.ref (cl 7))
  O_InvalidNumber : OwnE K (cl 7) [.type "ArithmeticError", .type "Exception", .type "BaseException", .type "object"] [.type "ArithmeticError", .type "Exception", .type "BaseException", .type "object"] "ArithmeticError" "ArithmeticError.__new__" "ArithmeticError.__init__"
  I_InvalidNumber : PySem.W.findIn K (.ref (cl 7)) "__init__" = some (some (.ref (ini 7)))
  J_InvalidNumber : PySem.W.typeIn K (.ref (ini 7)) = some (.type "function")
  F_init_InvalidNumber : Fun K "__init__" "InvalidNumber.__init__" s_init_InvalidNumber (ini 7) (fdi 7)
  B_init_InvalidNumber : Binds K (fdi 7) ["self", "value"] []
  N_InvalidNumber : PySem.W.findIn K (.ref (cl 7)) "value" = some none
  V_InvalidNumber : PySem.W.findCls K (.type "ArithmeticError") (.type "type") "__init__" = some (.val (.builtin "ArithmeticError.__init__"))
  G_NothingToUndo : mg "NothingToUndo" = some (.ref (cl 9))
  O_NothingToUndo : OwnE K (cl 9) [.type "IndexError", .type "LookupError", .type "Exception", .type "BaseException", .type "object"] [.type "IndexError", .type "LookupError", .type "Exception", .type "BaseException", .type "object"] "IndexError" "IndexError.__new__" "IndexError.__init__"
  I_NothingToUndo : PySem.W.findIn K (.ref (cl 9)) "__init__" = some (some (.ref (ini 9)))
  J_NothingToUndo : PySem.W.typeIn K (.ref (ini 9)) = some (.type "function")
  F_init_NothingToUndo : Fun K "__init__" "NothingToUndo.__init__" s_init_NothingToUndo (ini 9) (fdi 9)
  B_init_NothingToUndo : Binds K (fdi 9) ["self", "many"] []
  N_NothingToUndo : PySem.W.findIn K (.ref (cl 9)) "many" = some none
  V_NothingToUndo : PySem.W.findCls K (.type "IndexError") (.type "type") "__init__" = some (.val (.builtin "IndexError.__init__"))
  G_Refused : mg "Refused" = some (.ref (cl 10))
  O_Refused : OwnE K (cl 10) [.type "RuntimeError", .type "Exception", .type "BaseException", .type "object"] [.type "RuntimeError", .type "Exception", .type "BaseException", .type "object"] "RuntimeError" "RuntimeError.__new__" "RuntimeError.__init__"
  I_Refused : PySem.W.findIn K (.ref (cl 10)) "__init__" = some (some (.ref (ini 10)))
  J_Refused : PySem.W.typeIn K (.ref (ini 10)) = some (.type "function")
  F_init_Refused : Fun K "__init__" "Refused.__init__" s_init_Refused (ini 10) (fdi 10)
  B_init_Refused : Binds K (fdi 10) ["self", "reason"] []
  N_Refused : PySem.W.findIn K (.ref (cl 10)) "reason" = some none
  V_Refused : PySem.W.findCls K (.type "RuntimeError") (.type "type") "__init__" = some (.val (.builtin "RuntimeError.__init__"))
  G_InvalidNet : mg "InvalidNet" = some (.ref (cl 1))
  K_InvalidNet : PySem.W.keepIn K (.ref (cl 1)) = true
  E_InvalidNet : PySem.W.excIn K (cl 1) [.type "ValueError", .type "Exception", .type "BaseException", .type "object"] "ValueError.__new__" = true
  G_InvalidLot : mg "InvalidLot" = some (.ref (cl 2))
  K_InvalidLot : PySem.W.keepIn K (.ref (cl 2)) = true
  E_InvalidLot : PySem.W.excIn K (cl 2) [.type "ValueError", .type "Exception", .type "BaseException", .type "object"] "ValueError.__new__" = true
  G_InvalidParting : mg "InvalidParting" = some (.ref (cl 3))
  K_InvalidParting : PySem.W.keepIn K (.ref (cl 3)) = true
  E_InvalidParting : PySem.W.excIn K (cl 3) [.type "ValueError", .type "Exception", .type "BaseException", .type "object"] "ValueError.__new__" = true
  G_InvalidOperation : mg "InvalidOperation" = some (.ref (cl 4))
  K_InvalidOperation : PySem.W.keepIn K (.ref (cl 4)) = true
  E_InvalidOperation : PySem.W.excIn K (cl 4) [.type "ValueError", .type "Exception", .type "BaseException", .type "object"] "ValueError.__new__" = true
  G_NetError : mg "NetError" = some (.ref (cl 0))
  K_NetError : PySem.W.keepIn K (.ref (cl 0)) = true
  E_NetError : PySem.W.excIn K (cl 0) [.type "ValueError", .type "Exception", .type "BaseException", .type "object"] "ValueError.__new__" = true
  S_OverflowError : ∀ C b, clsTab cl [false, false, false, false, false, false, false, false, true, false, false] C = some b → ExK K C ∧ PySem.W.kitOne K (.ref C) (.type "OverflowError") = some b
  S_IndexError : ∀ C b, clsTab cl [false, false, false, false, false, false, false, false, false, true, false] C = some b → ExK K C ∧ PySem.W.kitOne K (.ref C) (.type "IndexError") = some b
  S_RuntimeError : ∀ C b, clsTab cl [false, false, false, false, false, false, false, false, false, false, true] C = some b → ExK K C ∧ PySem.W.kitOne K (.ref C) (.type "RuntimeError") = some b
  S_KeyError : ∀ C b, clsTab cl [false, false, false, false, false, false, true, false, false, false, false] C = some b → ExK K C ∧ PySem.W.kitOne K (.ref C) (.type "KeyError") = some b
  S_ArithmeticError : ∀ C b, clsTab cl [false, false, false, false, false, false, false, true, true, false, false] C = some b → ExK K C ∧ PySem.W.kitOne K (.ref C) (.type "ArithmeticError") = some b
  S_TooMany : ∀ C b, clsTab cl [false, false, false, false, false, false, false, false, true, false, false] C = some b → ExK K C ∧ PySem.W.kitOne K (.ref C) (.ref (cl 8)) = some b
  S_NothingToUndo : ∀ C b, clsTab cl [false, false, false, false, false, false, false, false, false, true, false] C = some b → ExK K C ∧ PySem.W.kitOne K (.ref C) (.ref (cl 9)) = some b
  S_Refused : ∀ C b, clsTab cl [false, false, false, false, false, false, false, false, false, false, true] C = some b → ExK K C ∧ PySem.W.kitOne K (.ref C) (.ref (cl 10)) = some b
  S_ValueError : ∀ C b, clsTab cl [true, true, true, true, true, true, false, false, false, false, false] C = some b → ExK K C ∧ PySem.W.kitOne K (.ref C) (.type "ValueError") = some b
  S_UnknownPlace : ∀ C b, clsTab cl [false, false, false, false, false, false, true, false, false, false, false] C = some b → ExK K C ∧ PySem.W.kitOne K (.ref C) (.ref (cl 6)) = some b
  S_InvalidNumber : ∀ C b, clsTab cl [false, false, false, false, false, false, false, true, false, false, false] C = some b → ExK K C ∧ PySem.W.kitOne K (.ref C) (.ref (cl 7)) = some b
  S_InvalidOperation : ∀ C b, clsTab cl [false, false, false, false, true, false, false, false, false, false, false] C = some b → ExK K C ∧ PySem.W.kitOne K (.ref C) (.ref (cl 4)) = some b
  S_ParseError : ∀ C b, clsTab cl [false, false, false, false, false, true, false, false, false, false, false] C = some b → ExK K C ∧ PySem.W.kitOne K (.ref C) (.ref (cl 5)) = some b
  S_NetError : ∀ C b, clsTab cl [true, true, true, true, true, true, false, false, false, false, false] C = some b → ExK K C ∧ PySem.W.kitOne K (.ref C) (.ref (cl 0)) = some b
  S_InvalidNet : ∀ C b, clsTab cl [false, true, false, false, false, false, false, false, false, false, false] C = some b → ExK K C ∧ PySem.W.kitOne K (.ref C) (.ref (cl 1)) = some b
  S_InvalidLot : ∀ C b, clsTab cl [false, false, true, false, false, false, false, false, false, false, false] C = some b → ExK K C ∧ PySem.W.kitOne K (.ref C) (.ref (cl 2)) = some b
  S_InvalidParting : ∀ C b, clsTab cl [false, false, false, true, false, false, false, false, false, false, false] C = some b → ExK K C ∧ PySem.W.kitOne K (.ref C) (.ref (cl 3)) = some b
  A_line : ∀ C, decide (C = cl 5) = true → ExK K C ∧ PySem.W.findIn K (.ref C) "line" = some none ∧ ∃ cd, PySem.W.clsIn K C = some cd ∧ cd.hasDict = true
  A_limit : ∀ C, decide (C = cl 8) = true → ExK K C ∧ PySem.W.findIn K (.ref C) "limit" = some none ∧ ∃ cd, PySem.W.clsIn K C = some cd ∧ cd.hasDict = true
  A_place : ∀ C, decide (C = cl 6) = true → ExK K C ∧ PySem.W.findIn K (.ref C) "place" = some none ∧ ∃ cd, PySem.W.clsIn K C = some cd ∧ cd.hasDict = true
  A_value : ∀ C, decide (C = cl 7) = true → ExK K C ∧ PySem.W.findIn K (.ref C) "value" = some none ∧ ∃ cd, PySem.W.clsIn K C = some cd ∧ cd.hasDict = true
  A_many : ∀ C, decide (C = cl 9) = true → ExK K C ∧ PySem.W.findIn K (.ref C) "many" = some none ∧ ∃ cd, PySem.W.clsIn K C = some cd ∧ cd.hasDict = true
  A_reason : ∀ C, decide (C = cl 10) = true → ExK K C ∧ PySem.W.findIn K (.ref C) "reason" = some none ∧ ∃ cd, PySem.W.clsIn K C = some cd ∧ cd.hasDict = true
section
variable {P : Program} {w : World} {K : PySem.W.Frag} {mg : Str → Option Value} {base : Heap} {ad : Nat → Addr} {fds : Nat → FuncData} {ini : Nat → Addr} {fdi : Nat → FuncData}
theorem ok_init_ParseError (T : Tx K mg ad fds ini fdi) : FnOk P w K mg base CX0 1 (ini 5) (fdi 5) ["self", "line"] (spI (cl 5) "line") := fn_init (m := "the text cannot be read") T.F_init_ParseError sc_init_ParseError (fun cdv A outer s H E => (pss_cons (ps_expr (pe_bi T.O_ParseError (PySem.EX.InitF.of PySem.F.excBase_ValueError.toExcCallFacts) (by first | decide +kernel | kernel_rfl | simp) (baseI_own (by rfl) T.G_NetError T.R_ParseError T.V_ParseError rfl) (pa_cons (pe_var (i := 0) rfl (.inl rfl)) (pa_cons pe_str pa_nil)))) (pss_cons (ps_fd T.O_ParseError T.N_ParseError (pe_var (i := 0) rfl (.inl rfl)) (pe_var (i := 1) rfl (.inl rfl))) pss_nil)))
theorem ok_init_TooMany (T : Tx K mg ad fds ini fdi) : FnOk P w K mg base CX0 1 (ini 8) (fdi 8) ["self", "limit"] (spI (cl 8) "limit") := fn_init (m := "there are more than the limit lets") T.F_init_TooMany sc_init_TooMany (fun cdv A outer s H E => (pss_cons (ps_expr (pe_bi T.O_TooMany (PySem.EX.InitF.of PySem.F.excBase_OverflowError.toExcCallFacts) (by first | decide +kernel | kernel_rfl | simp) (baseI_ty (by rfl) T.n_OverflowError (by decide +kernel) (by kernel_rfl) (by decide +kernel) T.V_TooMany rfl) (pa_cons (pe_var (i := 0) rfl (.inl rfl)) (pa_cons pe_str pa_nil)))) (pss_cons (ps_fd T.O_TooMany T.N_TooMany (pe_var (i := 0) rfl (.inl rfl)) (pe_var (i := 1) rfl (.inl rfl))) pss_nil)))
theorem ok_init_UnknownPlace (T : Tx K mg ad fds ini fdi) : FnOk P w K mg base CX0 1 (ini 6) (fdi 6) ["self", "place"] (spI (cl 6) "place") := fn_init (m := "this is no place of the net") T.F_init_UnknownPlace sc_init_UnknownPlace (fun cdv A outer s H E => (pss_cons (ps_expr (pe_bi T.O_UnknownPlace PySem.EX.init_KeyError (by first | decide +kernel | kernel_rfl | simp) (baseI_ty (by rfl) T.n_KeyError (by decide +kernel) (by kernel_rfl) (by decide +kernel) T.V_UnknownPlace rfl) (pa_cons (pe_var (i := 0) rfl (.inl rfl)) (pa_cons pe_str pa_nil)))) (pss_cons (ps_fd T.O_UnknownPlace T.N_UnknownPlace (pe_var (i := 0) rfl (.inl rfl)) (pe_var (i := 1) rfl (.inl rfl))) pss_nil)))
theorem ok_init_InvalidNumber (T : Tx K mg ad fds ini fdi) : FnOk P w K mg base CX0 1 (ini 7) (fdi 7) ["self", "value"] (spI (cl 7) "value") := fn_init (m := "this number cannot stand here") T.F_init_InvalidNumber sc_init_InvalidNumber (fun cdv A outer s H E => (pss_cons (ps_expr (pe_bi T.O_InvalidNumber (PySem.EX.InitF.of PySem.F.excBase_ArithmeticError.toExcCallFacts) (by first | decide +kernel | kernel_rfl | simp) (baseI_ty (by rfl) T.n_ArithmeticError (by decide +kernel) (by kernel_rfl) (by decide +kernel) T.V_InvalidNumber rfl) (pa_cons (pe_var (i := 0) rfl (.inl rfl)) (pa_cons pe_str pa_nil)))) (pss_cons (ps_fd T.O_InvalidNumber T.N_InvalidNumber (pe_var (i := 0) rfl (.inl rfl)) (pe_var (i := 1) rfl (.inl rfl))) pss_nil)))
theorem ok_init_NothingToUndo (T : Tx K mg ad fds ini fdi) : FnOk P w K mg base CX0 1 (ini 9) (fdi 9) ["self", "many"] (spI (cl 9) "many") := fn_init (m := "there are not so many steps") T.F_init_NothingToUndo sc_init_NothingToUndo (fun cdv A outer s H E => (pss_cons (ps_expr (pe_bi T.O_NothingToUndo (PySem.EX.InitF.of PySem.F.excBase_IndexError.toExcCallFacts) (by first | decide +kernel | kernel_rfl | simp) (baseI_ty (by rfl) T.n_IndexError (by decide +kernel) (by kernel_rfl) (by decide +kernel) T.V_NothingToUndo rfl) (pa_cons (pe_var (i := 0) rfl (.inl rfl)) (pa_cons pe_str pa_nil)))) (pss_cons (ps_fd T.O_NothingToUndo T.N_NothingToUndo (pe_var (i := 0) rfl (.inl rfl)) (pe_var (i := 1) rfl (.inl rfl))) pss_nil)))
theorem ok_init_Refused (T : Tx K mg ad fds ini fdi) : FnOk P w K mg base CX0 1 (ini 10) (fdi 10) ["self", "reason"] (spI (cl 10) "reason") := fn_init (m := "this cannot be done") T.F_init_Refused sc_init_Refused (fun cdv A outer s H E => (pss_cons (ps_expr (pe_bi T.O_Refused (PySem.EX.InitF.of PySem.F.excBase_RuntimeError.toExcCallFacts) (by first | decide +kernel | kernel_rfl | simp) (baseI_ty (by rfl) T.n_RuntimeError (by decide +kernel) (by kernel_rfl) (by decide +kernel) T.V_Refused rfl) (pa_cons (pe_var (i := 0) rfl (.inl rfl)) (pa_cons pe_str pa_nil)))) (pss_cons (ps_fd T.O_Refused T.N_Refused (pe_var (i := 0) rfl (.inl rfl)) (pe_var (i := 1) rfl (.inl rfl))) pss_nil)))
theorem ok_law_dice (T : Tx K mg ad fds ini fdi) : FnOk P w K mg base CX0 1 (ad 0) (fds 0) ["_law_script", "_law_at"] (spN K 2 m_law_dice) := defN_ok T.F_law_dice sc_law_dice fun cdv A outer s H E hr => ⟨_, by exact (dss_cons (ds_set 2 sc_law_dice.nd rfl (.inl rfl) (pd_op (op_addK K rfl) os_addA (pd_op op_mulA os_mulA (pd_int) (pd_v 1)) (pd_int)))
    (dss_cons (ds_if (pdt_cmp op_lt os_lt (pd_v 1) (pd_callB (call_lenK K rfl) cs_len (by rfl) T.n_len (by decide +kernel) (pda_cons (pd_v 0) pda_nil)) (nomark _)) (dss_one (ds_set 2 sc_law_dice.nd rfl (.inl rfl) (pd_ix (ix_K K rfl) os_ixA (pd_v 0) (pd_v 1) (fun _ _ => rfl)))) dss_nil)
    (dss_cons (ds_set 3 sc_law_dice.nd rfl (.inl rfl) (pd_op op_modN os_mod (pd_callTy call_int1 cs_int (by rfl) T.n_int (by decide +kernel) (pda_cons (pd_callB call_abs cs_abs (by rfl) T.n_abs (by decide +kernel) (pda_cons (pd_v 2) pda_nil)) pda_nil)) (pd_op op_powB os_pow (pd_op op_powB os_pow (pd_int) (pd_int)) (pd_int))))
    (dss_cons (ds_set 4 sc_law_dice.nd rfl (.inl rfl) (pd_op op_divA os_divA (pd_v 3) (pd_op op_powB os_pow (pd_int) (pd_int))))
    (dss_cons (ds_set 5 sc_law_dice.nd rfl (.inl rfl) (pd_op (op_addK K rfl) os_addA (pd_op (op_addK K rfl) os_addA (pd_op (op_addK K rfl) os_addA (pd_op op_mulA os_mulA (pd_op op_modN os_mod (pd_v 3) (pd_int)) (pd_int)) (pd_op op_mulA os_mulA (pd_int) (pd_v 1))) (pd_op op_mulA os_mulA (pd_int) (pd_callTy call_int1 cs_int (by rfl) T.n_int (by decide +kernel) (pda_cons (pd_cmp op_lt os_lt (pd_v 2) (pd_int) (nomark _)) pda_nil)))) (pd_int)))
    (dss_one (ds_retN (pda_cons (pd_v 4) (pda_cons (pd_op op_modN os_mod (pd_v 5) (pd_int)) (pda_cons (pd_int) pda_nil))))))))))⟩
theorem ok_law_kinds (T : Tx K mg ad fds ini fdi) : FnOk P w K mg base CX0 1 (ad 1) (fds 1) ["_law_error"] (spF K 1 m_law_kinds) := def_ok T.F_law_kinds sc_law_kinds fun cdv A outer s H E hr => ⟨_, by exact (dss_cons (ds_set 1 sc_law_kinds.nd rfl (.inl rfl) (pd_lst (pda_cons (pd_isE rfl (.own _) T.S_InvalidNet (by rfl) T.n_isinstance (pe_glob (v := .ref _) (by rfl) T.G_InvalidNet rfl) (pd_v 0)) (pda_cons (pd_isE rfl (.own _) T.S_InvalidLot (by rfl) T.n_isinstance (pe_glob (v := .ref _) (by rfl) T.G_InvalidLot rfl) (pd_v 0)) (pda_cons (pd_isE rfl (.own _) T.S_InvalidParting (by rfl) T.n_isinstance (pe_glob (v := .ref _) (by rfl) T.G_InvalidParting rfl) (pd_v 0)) pda_nil)))))
    (dss_cons (ds_set 1 sc_law_kinds.nd rfl (.inl rfl) (pd_op (op_addK K rfl) os_addA (pd_v 1) (pd_lst (pda_cons (pd_isE rfl (.own _) T.S_InvalidOperation (by rfl) T.n_isinstance (pe_glob (v := .ref _) (by rfl) T.G_InvalidOperation rfl) (pd_v 0)) (pda_cons (pd_isE rfl (.own _) T.S_ParseError (by rfl) T.n_isinstance (pe_glob (v := .ref _) (by rfl) T.G_ParseError rfl) (pd_v 0)) (pda_cons (pd_isE rfl (.own _) T.S_NetError (by rfl) T.n_isinstance (pe_glob (v := .ref _) (by rfl) T.G_NetError rfl) (pd_v 0)) pda_nil))))))
    (dss_cons (ds_set 1 sc_law_kinds.nd rfl (.inl rfl) (pd_op (op_addK K rfl) os_addA (pd_v 1) (pd_lst (pda_cons (pd_isE rfl (.ty _) T.S_ValueError (by rfl) T.n_isinstance (pe_bltn (v := .ty "ValueError") (u := .type "ValueError") (by rfl) T.n_ValueError (by decide +kernel) rfl) (pd_v 0)) (pda_cons (pd_isE rfl (.own _) T.S_UnknownPlace (by rfl) T.n_isinstance (pe_glob (v := .ref _) (by rfl) T.G_UnknownPlace rfl) (pd_v 0)) (pda_cons (pd_isE rfl (.own _) T.S_InvalidNumber (by rfl) T.n_isinstance (pe_glob (v := .ref _) (by rfl) T.G_InvalidNumber rfl) (pd_v 0)) pda_nil))))))
    (dss_cons (ds_set 1 sc_law_kinds.nd rfl (.inl rfl) (pd_op (op_addK K rfl) os_addA (pd_v 1) (pd_lst (pda_cons (pd_isE rfl (.own _) T.S_TooMany (by rfl) T.n_isinstance (pe_glob (v := .ref _) (by rfl) T.G_TooMany rfl) (pd_v 0)) (pda_cons (pd_isE rfl (.own _) T.S_NothingToUndo (by rfl) T.n_isinstance (pe_glob (v := .ref _) (by rfl) T.G_NothingToUndo rfl) (pd_v 0)) (pda_cons (pd_isE rfl (.own _) T.S_Refused (by rfl) T.n_isinstance (pe_glob (v := .ref _) (by rfl) T.G_Refused rfl) (pd_v 0)) pda_nil))))))
    (dss_cons (ds_set 1 sc_law_kinds.nd rfl (.inl rfl) (pd_op (op_addK K rfl) os_addA (pd_v 1) (pd_lst (pda_cons (pd_isE rfl (.ty _) T.S_KeyError (by rfl) T.n_isinstance (pe_bltn (v := .ty "KeyError") (u := .type "KeyError") (by rfl) T.n_KeyError (by decide +kernel) rfl) (pd_v 0)) (pda_cons (pd_isE rfl (.ty _) T.S_ArithmeticError (by rfl) T.n_isinstance (pe_bltn (v := .ty "ArithmeticError") (u := .type "ArithmeticError") (by rfl) T.n_ArithmeticError (by decide +kernel) rfl) (pd_v 0)) pda_nil)))))
    (dss_cons (ds_set 1 sc_law_kinds.nd rfl (.inl rfl) (pd_op (op_addK K rfl) os_addA (pd_v 1) (pd_lst (pda_cons (pd_isE rfl (.ty _) T.S_OverflowError (by rfl) T.n_isinstance (pe_bltn (v := .ty "OverflowError") (u := .type "OverflowError") (by rfl) T.n_OverflowError (by decide +kernel) rfl) (pd_v 0)) (pda_cons (pd_isE rfl (.ty _) T.S_IndexError (by rfl) T.n_isinstance (pe_bltn (v := .ty "IndexError") (u := .type "IndexError") (by rfl) T.n_IndexError (by decide +kernel) rfl) (pd_v 0)) (pda_cons (pd_isE rfl (.ty _) T.S_RuntimeError (by rfl) T.n_isinstance (pe_bltn (v := .ty "RuntimeError") (u := .type "RuntimeError") (by rfl) T.n_RuntimeError (by decide +kernel) rfl) (pd_v 0)) pda_nil))))))
    (dss_one (ds_ret (pd_joinK K rfl (pd_str) (pda_cons (pd_lc (own := [(("_law_one" : Str), 2)]) rfl sc_law_kinds.nd (di_K K rfl (pd_v 1)) (blkOk_by (N := ["_law_error", "_law_told", "_law_one"]) (sc := defScope s_law_kinds) (by decide +kernel)) (gin_name (by decide)) (fun _ _ _ _ _ => dg_name 2 sc_law_kinds.nd rfl (.inl rfl)) (fun _ _ _ _ _ => dts_nil) (fun _ _ _ _ _ => pd_if (pdt_truK K rfl (pd_v 2)) (pd_str) (pd_str)) s) pda_nil))))))))))⟩
theorem ok_law_roll (T : Tx K mg ad fds ini fdi) : FnOk P w K mg base CX0 1 (ad 2) (fds 2) ["_law_dice_here", "_law_total"] (spF K 2 m_law_roll) := def_ok T.F_law_roll sc_law_roll fun cdv A outer s H E hr => ⟨_, by exact (dss_cons (ds_set 2 sc_law_roll.nd rfl (.inl rfl) (pd_callTy call_int1 cs_int (by rfl) T.n_int (by decide +kernel) (pda_cons (pd_v 1) pda_nil)))
    (dss_cons (ds_if (pdt_cmp op_gt os_gt (pd_ixOK K rfl 0 (pv 0) (pd_int) (fun _ _ => rfl)) (pd_int) (nomark _)) (dss_cons (ds_set 3 sc_law_roll.nd rfl (.inl rfl) (pd_op op_modN os_mod (pd_ixOK K rfl 0 (pv 0) (pd_int) (fun _ _ => rfl)) (pd_v 2)))
    (dss_cons (ds_setO 0 rfl (.inl rfl) (pd_op op_divA os_divA (pd_ixOK K rfl 0 (pv 0) (pd_int) (fun _ _ => rfl)) (pd_v 2)) (pd_int) (pg_sub (pv 0) pe_int set_list))
    (dss_one (ds_ret (pd_callTy call_int1 cs_int (by rfl) T.n_int (by decide +kernel) (pda_cons (pd_v 3) pda_nil)))))) dss_nil)
    (dss_cons (ds_setO 0 rfl (.inl rfl) (pd_op (op_addK K rfl) os_addA (pd_ixOK K rfl 0 (pv 0) (pd_int) (fun _ _ => rfl)) (pd_int)) (pd_int) (pg_sub (pv 0) pe_int set_list))
    (dss_cons (ds_set 4 sc_law_roll.nd rfl (.inl rfl) (pd_op op_modN os_mod (pd_op (op_addK K rfl) os_addA (pd_ixOK K rfl 0 (pv 0) (pd_int) (fun _ _ => rfl)) (pd_op op_mulA os_mulA (pd_int) (pd_ixOK K rfl 0 (pv 0) (pd_int) (fun _ _ => rfl)))) (pd_int)))
    (dss_cons (ds_set 5 sc_law_roll.nd rfl (.inl rfl) (pd_op (op_addK K rfl) os_addA (pd_op op_mulA os_mulA (pd_op op_modN os_mod (pd_op op_mulA os_mulA (pd_v 4) (pd_v 4)) (pd_int)) (pd_v 4)) (pd_op op_mulA os_mulA (pd_int) (pd_ixOK K rfl 0 (pv 0) (pd_int) (fun _ _ => rfl)))))
    (dss_cons (ds_set 5 sc_law_roll.nd rfl (.inl rfl) (pd_op op_modN os_mod (pd_v 5) (pd_int)))
    (dss_one (ds_ret (pd_callTy call_int1 cs_int (by rfl) T.n_int (by decide +kernel) (pda_cons (pd_op op_modN os_mod (pd_op op_divA os_divA (pd_v 5) (pd_int)) (pd_v 2)) pda_nil))))))))))⟩
theorem ok_law_one_of (T : Tx K mg ad fds ini fdi) : FnOk P w K mg base CX0 2 (ad 3) (fds 3) ["_law_dice_here", "_law_items"] (spF K 2 m_law_one_of) := def_ok T.F_law_one_of sc_law_one_of fun cdv A outer s H E hr => ⟨_, by exact (dss_one (ds_ret (pd_ix (ix_K K rfl) os_ixA (pd_v 1) (pd_callOK K rfl 0 (ok_law_roll T) (hr.mono (by decide)) (by rfl) T.G_law_roll T.F_law_roll.kp T.B_law_roll pass0 (pv 0) (pda_cons (pd_callB (call_lenK K rfl) cs_len (by rfl) T.n_len (by decide +kernel) (pda_cons (pd_v 1) pda_nil)) pda_nil)) (fun _ _ => rfl))))⟩
theorem ok_law_right (T : Tx K mg ad fds ini fdi) : FnG P w K mg base CX0 3 (ad 4) (fds 4) ["_law_dice_here"] (spF K 1 m_law_right) := defG_ok T.F_law_right sc_law_right fun cdv A outer s H E gd hr => ⟨_, by exact (dss_cons (ds_set 1 sc_law_right.nd rfl (.inl rfl) (pd_callOK K rfl 0 (ok_law_one_of T) (hr.mono (by decide)) (by rfl) T.G_law_one_of T.F_law_one_of.kp T.B_law_one_of pass0 (pv 0) (pda_cons (pd_lst (pda_cons (pd_int) (pda_cons (pd_str) (pda_cons (pd_str) (pda_cons (pd_non) (pda_cons (pd_tup pda_nil) (pda_cons (pd_tup (pda_cons (pd_str) (pda_cons (pd_int) pda_nil))) (pda_cons (pd_op op_powB os_pow (pd_int) (pd_int)) (pda_cons (pd_bl) (pda_cons (pd_lst (pda_cons (pd_int) pda_nil)) (pda_cons (pd_dis1 (pd_tup pda_nil)) (pda_cons (pd_un un_neg us_neg (pd_int)) pda_nil)))))))))))) pda_nil)))
    (dss_cons (ds_setW 2 sc_law_right.nd rfl (.inl rfl) (pn_lst (pda_cons (pd_ex1 rfl PySem.F.excBase_ValueError T.E_InvalidNet T.G_InvalidNet T.K_InvalidNet (by rfl) (pd_v 1)) (pda_cons (pd_ex1 rfl PySem.F.excBase_ValueError T.E_InvalidLot T.G_InvalidLot T.K_InvalidLot (by rfl) (pd_v 1)) (pda_cons (pd_ex1 rfl PySem.F.excBase_ValueError T.E_InvalidParting T.G_InvalidParting T.K_InvalidParting (by rfl) (pd_v 1)) (pda_cons (pd_ex1 rfl PySem.F.excBase_ValueError T.E_InvalidOperation T.G_InvalidOperation T.K_InvalidOperation (by rfl) (pd_v 1)) (pda_cons (pd_mkE rfl T.O_ParseError T.I_ParseError T.J_ParseError (ok_init_ParseError T) rfl (hr.mono (by decide)) T.B_init_ParseError pass0 (by rfl) T.G_ParseError (pd_v 1)) pda_nil)))))))
    (dss_cons (ds_expr (pd_appK rfl 2 PySem.F.plainAttrs_list (pv 2) (pd_ex1 rfl PySem.F.excBase_ValueError T.E_NetError T.G_NetError T.K_NetError (by rfl) (pd_v 1))))
    (dss_cons (ds_set 3 sc_law_right.nd rfl (.inl rfl) (pd_lst (pda_cons (pd_str) (pda_cons (pd_str) (pda_cons (pd_str) (pda_cons (pd_str) pda_nil))))))
    (dss_cons (ds_if (pdt_cmp (op_neK K rfl hr.units) os_neD (pd_lc (own := [(("_law_one" : Str), 7)]) rfl sc_law_right.nd (di_K K rfl (pd_v 2)) (blkOk_by (N := ["_law_dice_here", "_law_thing", "_law_base", "_law_due", "_law_none", "_law_others", "_law_kept", "_law_one"]) (sc := defScope s_law_right) (by decide +kernel)) (gin_name (by decide)) (fun _ _ _ _ _ => dg_name 7 sc_law_right.nd rfl (.inl rfl)) (fun _ _ _ _ _ => dts_nil) (fun _ _ _ _ _ => pd_callK K rfl (ok_law_kinds T) (hr.mono (by decide)) (by rfl) T.G_law_kinds T.F_law_kinds.kp T.B_law_kinds pass0 (pda_cons (pd_v 7) pda_nil)) s) (pd_op (op_addK K rfl) os_addA (pd_v 3) (pd_lst (pda_cons (pd_str) (pda_cons (pd_str) pda_nil)))) (nomark _)) (dss_one (ds_ret (pd_bl))) dss_nil)
    (dss_cons (ds_set 4 sc_law_right.nd rfl (.inl rfl) (pd_lst (pda_cons (pd_ex0 rfl PySem.F.excBase_ValueError T.E_InvalidNet T.G_InvalidNet T.K_InvalidNet (by rfl)) (pda_cons (pd_ex0 rfl PySem.F.excBase_ValueError T.E_InvalidLot T.G_InvalidLot T.K_InvalidLot (by rfl)) (pda_cons (pd_ex0 rfl PySem.F.excBase_ValueError T.E_InvalidParting T.G_InvalidParting T.K_InvalidParting (by rfl)) (pda_cons (pd_ex0 rfl PySem.F.excBase_ValueError T.E_InvalidOperation T.G_InvalidOperation T.K_InvalidOperation (by rfl)) (pda_cons (pd_ex0 rfl PySem.F.excBase_ValueError T.E_NetError T.G_NetError T.K_NetError (by rfl)) pda_nil)))))))
    (dss_cons (ds_if (pdt_cmp (op_neK K rfl hr.units) os_neD (pd_lc (own := [(("_law_one" : Str), 7)]) rfl sc_law_right.nd (di_K K rfl (pd_v 4)) (blkOk_by (N := ["_law_dice_here", "_law_thing", "_law_base", "_law_due", "_law_none", "_law_others", "_law_kept", "_law_one"]) (sc := defScope s_law_right) (by decide +kernel)) (gin_name (by decide)) (fun _ _ _ _ _ => dg_name 7 sc_law_right.nd rfl (.inl rfl)) (fun _ _ _ _ _ => dts_nil) (fun _ _ _ _ _ => pd_callK K rfl (ok_law_kinds T) (hr.mono (by decide)) (by rfl) T.G_law_kinds T.F_law_kinds.kp T.B_law_kinds pass0 (pda_cons (pd_v 7) pda_nil)) s) (pd_op (op_addK K rfl) os_addA (pd_v 3) (pd_lst (pda_cons (pd_str) pda_nil))) (nomark _)) (dss_one (ds_ret (pd_bl))) dss_nil)
    (dss_cons (ds_set 5 sc_law_right.nd rfl (.inl rfl) (pd_lst (pda_cons (pd_mkE rfl T.O_UnknownPlace T.I_UnknownPlace T.J_UnknownPlace (ok_init_UnknownPlace T) rfl (hr.mono (by decide)) T.B_init_UnknownPlace pass0 (by rfl) T.G_UnknownPlace (pd_v 1)) (pda_cons (pd_mkE rfl T.O_InvalidNumber T.I_InvalidNumber T.J_InvalidNumber (ok_init_InvalidNumber T) rfl (hr.mono (by decide)) T.B_init_InvalidNumber pass0 (by rfl) T.G_InvalidNumber (pd_v 1)) (pda_cons (pd_mkE rfl T.O_TooMany T.I_TooMany T.J_TooMany (ok_init_TooMany T) rfl (hr.mono (by decide)) T.B_init_TooMany pass0 (by rfl) T.G_TooMany (pd_v 1)) (pda_cons (pd_mkE rfl T.O_NothingToUndo T.I_NothingToUndo T.J_NothingToUndo (ok_init_NothingToUndo T) rfl (hr.mono (by decide)) T.B_init_NothingToUndo pass0 (by rfl) T.G_NothingToUndo (pd_v 1)) (pda_cons (pd_mkE rfl T.O_Refused T.I_Refused T.J_Refused (ok_init_Refused T) rfl (hr.mono (by decide)) T.B_init_Refused pass0 (by rfl) T.G_Refused (pd_v 1)) pda_nil)))))))
    (dss_cons (ds_set 3 sc_law_right.nd rfl (.inl rfl) (pd_lst (pda_cons (pd_str) (pda_cons (pd_str) (pda_cons (pd_str) (pda_cons (pd_str) (pda_cons (pd_str) pda_nil)))))))
    (dss_cons (ds_if (pdt_cmp (op_neK K rfl hr.units) os_neD (pd_lc (own := [(("_law_one" : Str), 7)]) rfl sc_law_right.nd (di_K K rfl (pd_v 5)) (blkOk_by (N := ["_law_dice_here", "_law_thing", "_law_base", "_law_due", "_law_none", "_law_others", "_law_kept", "_law_one"]) (sc := defScope s_law_right) (by decide +kernel)) (gin_name (by decide)) (fun _ _ _ _ _ => dg_name 7 sc_law_right.nd rfl (.inl rfl)) (fun _ _ _ _ _ => dts_nil) (fun _ _ _ _ _ => pd_callK K rfl (ok_law_kinds T) (hr.mono (by decide)) (by rfl) T.G_law_kinds T.F_law_kinds.kp T.B_law_kinds pass0 (pda_cons (pd_v 7) pda_nil)) s) (pd_v 3) (nomark _)) (dss_one (ds_ret (pd_bl))) dss_nil)
    (dss_cons (ds_set 6 sc_law_right.nd rfl (.inl rfl) (pd_lst (pda_cons (pd_exf rfl T.A_line (pd_ix (ix_K K rfl) os_ixA (pd_v 2) (pd_int) (fun _ _ => rfl))) (pda_cons (pd_exf rfl T.A_place (pd_ix (ix_K K rfl) os_ixA (pd_v 5) (pd_int) (fun _ _ => rfl))) (pda_cons (pd_exf rfl T.A_value (pd_ix (ix_K K rfl) os_ixA (pd_v 5) (pd_int) (fun _ _ => rfl))) (pda_cons (pd_exf rfl T.A_limit (pd_ix (ix_K K rfl) os_ixA (pd_v 5) (pd_int) (fun _ _ => rfl))) (pda_cons (pd_exf rfl T.A_many (pd_ix (ix_K K rfl) os_ixA (pd_v 5) (pd_int) (fun _ _ => rfl))) (pda_cons (pd_exf rfl T.A_reason (pd_ix (ix_K K rfl) os_ixA (pd_v 5) (pd_int) (fun _ _ => rfl))) pda_nil))))))))
    (dss_one (ds_ret (pd_cmp (op_eqK K rfl hr.units) os_eqD (pd_callB (cr_reprK rfl gd (hu65 hr)) cs_repr (by rfl) T.n_repr (by decide +kernel) (pda_cons (pd_v 6) pda_nil)) (pd_callB (cr_reprK rfl gd (hu65 hr)) cs_repr (by rfl) T.n_repr (by decide +kernel) (pda_cons (pd_op op_mulA os_mulA (pd_lst (pda_cons (pd_v 1) pda_nil)) (pd_int)) pda_nil)) (nomark _)))))))))))))))⟩
theorem ok_law (T : Tx K mg ad fds ini fdi) : FnG P w K mg base CX0 4 (ad 5) (fds 5) ["_law_script"] (spF K 1 m_law) := defG_ok T.F_law sc_law fun cdv A outer s H E gd hr => ⟨_, by exact (dss_cons (ds_for PassesOwn.never rfl (di_rng1 (by rfl) T.n_range (pda_cons (pd_callB (call_max2 rfl) cs_max2 (by rfl) T.n_max (by decide +kernel) (pda_cons (pd_int) (pda_cons (pd_callB (call_min2 rfl) cs_min2 (by rfl) T.n_min (by decide +kernel) (pda_cons (pd_int) (pda_cons (pd_callB (call_lenK K rfl) cs_len (by rfl) T.n_len (by decide +kernel) (pda_cons (pd_v 0) pda_nil)) pda_nil))) pda_nil))) pda_nil)) (dg_name 1 sc_law.nd rfl (.inl rfl)) (dss_cons (ds_setN 2 sc_law.nd rfl (.inl rfl) (ok_law_dice T) (hr.mono (by decide)) (by rfl) T.G_law_dice T.F_law_dice.kp T.B_law_dice pass0 (pda_cons (pd_v 0) (pda_cons (pd_v 1) pda_nil)))
    (dss_one (ds_for PassesOwn.never rfl (di_rng1 (by rfl) T.n_range (pda_cons (pd_int) pda_nil)) (dg_name 3 sc_law.nd rfl (.inl rfl)) (dss_one (ds_if (pdt_not (pdt_truK K rfl (pd_callOGK rfl 2 (ok_law_right T) gd (hr.mono (by decide)) (by rfl) T.G_law_right T.F_law_right.kp T.B_law_right pass0 (pv 2) pda_nil))) (dss_one (ds_ret (pd_bl))) dss_nil))))))
    (dss_one (ds_ret (pd_cmp (op_eqK K rfl hr.units) os_eqD (pd_lst (pda_cons (pd_exf rfl T.A_line (pd_mkE rfl T.O_ParseError T.I_ParseError T.J_ParseError (ok_init_ParseError T) rfl (hr.mono (by decide)) T.B_init_ParseError pass0 (by rfl) T.G_ParseError (pd_non))) (pda_cons (pd_exf rfl T.A_line (pd_mkE rfl T.O_ParseError T.I_ParseError T.J_ParseError (ok_init_ParseError T) rfl (hr.mono (by decide)) T.B_init_ParseError pass0 (by rfl) T.G_ParseError (pd_int))) (pda_cons (pd_exf rfl T.A_limit (pd_mkE rfl T.O_TooMany T.I_TooMany T.J_TooMany (ok_init_TooMany T) rfl (hr.mono (by decide)) T.B_init_TooMany pass0 (by rfl) T.G_TooMany (pd_int))) pda_nil)))) (pd_lst (pda_cons (pd_non) (pda_cons (pd_int) (pda_cons (pd_int) pda_nil)))) (nomark _)))))⟩
end
end K00
namespace K00
open PySem PySem.Spec PyProof.Rows L2 DL
instance : Cl := ⟨fun i => [24, 37, 49, 61, 73, 92, 111, 131, 151, 171, 191].getD i 0⟩
def r0 : FS := (fAsg (fCallO 2 m_law_one_of 0 (fCons (fLst (fCons (fC (.int 0)) (fCons (fC (.str ("" : Str))) (fCons (fC (.str ("a" : Str))) (fCons (fC .non) (fCons (fTup fNil) (fCons (fTup (fCons (fC (.str ("a" : Str))) (fCons (fC (.int 1)) fNil))) (fCons (fOp gPow (fC (.int 10)) (fC (.int 30))) (fCons (fC (.bl true)) (fCons (fLst (fCons (fC (.int 1)) fNil)) (fCons (fDis1 ("a" : Str) (fTup fNil)) (fCons (fUn gNeg (fC (.int 7))) fNil)))))))))))) fNil)) (fgN 1))
def rR : FS := (fSeq (fSetW 2 (fNLst (fCons (fEx1 (cl 1) (fV 1)) (fCons (fEx1 (cl 2) (fV 1)) (fCons (fEx1 (cl 3) (fV 1)) (fCons (fEx1 (cl 4) (fV 1)) (fCons (fMkE (cl 5) "line" (fV 1)) fNil)))))))
    (fSeq (fDrop (fApp 2 (fEx1 (cl 0) (fV 1))))
    (fSeq (fAsg (fLst (fCons (fC (.str ("x....xx.........." : Str))) (fCons (fC (.str (".x...xx.........." : Str))) (fCons (fC (.str ("..x..xx.........." : Str))) (fCons (fC (.str ("...x.xx.........." : Str))) fNil))))) (fgN 3))
    (fSeq (fIfS (fB (fOp gNeD (fLc (fiA (fV 2)) (fgN 7) (fYes) (fCall 1 m_law_kinds (fCons (fV 7) fNil)) [7]) (fOp gAdd (fV 3) (fLst (fCons (fC (.str ("....xxx.........." : Str))) (fCons (fC (.str (".....xx.........." : Str))) fNil)))))) (fRet (fC (.bl false))) fNx)
    (fSeq (fAsg (fLst (fCons (fC (.ex (cl 1))) (fCons (fC (.ex (cl 2))) (fCons (fC (.ex (cl 3))) (fCons (fC (.ex (cl 4))) (fCons (fC (.ex (cl 0))) fNil)))))) (fgN 4))
    (fSeq (fIfS (fB (fOp gNeD (fLc (fiA (fV 4)) (fgN 7) (fYes) (fCall 1 m_law_kinds (fCons (fV 7) fNil)) [7]) (fOp gAdd (fV 3) (fLst (fCons (fC (.str (".....xx.........." : Str))) fNil))))) (fRet (fC (.bl false))) fNx)
    (fSeq (fAsg (fLst (fCons (fMkE (cl 6) "place" (fV 1)) (fCons (fMkE (cl 7) "value" (fV 1)) (fCons (fMkE (cl 8) "limit" (fV 1)) (fCons (fMkE (cl 9) "many" (fV 1)) (fCons (fMkE (cl 10) "reason" (fV 1)) fNil)))))) (fgN 5))
    (fSeq (fAsg (fLst (fCons (fC (.str (".......x....x...." : Str))) (fCons (fC (.str ("........x....x..." : Str))) (fCons (fC (.str (".........x...xx.." : Str))) (fCons (fC (.str ("..........x....x." : Str))) (fCons (fC (.str ("...........x....x" : Str))) fNil)))))) (fgN 3))
    (fSeq (fIfS (fB (fOp gNeD (fLc (fiA (fV 5)) (fgN 7) (fYes) (fCall 1 m_law_kinds (fCons (fV 7) fNil)) [7]) (fV 3))) (fRet (fC (.bl false))) fNx)
    (fSeq (fAsg (fLst (fCons (fExF (fun C => decide (C = cl 5)) "line" (fOp gIx (fV 2) (fC (.int 4)))) (fCons (fExF (fun C => decide (C = cl 6)) "place" (fOp gIx (fV 5) (fC (.int 0)))) (fCons (fExF (fun C => decide (C = cl 7)) "value" (fOp gIx (fV 5) (fC (.int 1)))) (fCons (fExF (fun C => decide (C = cl 8)) "limit" (fOp gIx (fV 5) (fC (.int 2)))) (fCons (fExF (fun C => decide (C = cl 9)) "many" (fOp gIx (fV 5) (fC (.int 3)))) (fCons (fExF (fun C => decide (C = cl 10)) "reason" (fOp gIx (fV 5) (fC (.int 4)))) fNil))))))) (fgN 6))
    (fRet (fOp gEqD (fCB gRepr (fCons (fV 6) fNil)) (fCB gRepr (fCons (fOp gMulA (fLst (fCons (fV 1) fNil)) (fC (.int 6))) fNil))))))))))))))
theorem b_right : b_law_right = fSeq r0 rR := rfl
def flT : Fl → Bool
  | .rt (.bl true) => true
  | _ => false
def things : List D := [.int 0, .str "", .str "a", .non, .tup [], .tup [.str "a", .int 1], .int (10 ^ 30), .bl true, .lst [.int 1], .dK [(.inr "a", .tup [])], .int (-7)]
def okT (X : Sl) (d : D) : Prop := (rR [X, .tr d, .no, .no, .no, .no, .no, .no]).map (fun p => (flT p.1, p.2[0]?)) = some (true, some X)
theorem ok_0 (X : Sl) : okT X (.int 0) := by unfold okT; kernel_rfl
theorem ok_1 (X : Sl) : okT X (.str "") := by unfold okT; kernel_rfl
theorem ok_2 (X : Sl) : okT X (.str "a") := by unfold okT; kernel_rfl
theorem ok_3 (X : Sl) : okT X (.non) := by unfold okT; kernel_rfl
theorem ok_4 (X : Sl) : okT X (.tup []) := by unfold okT; kernel_rfl
theorem ok_5 (X : Sl) : okT X (.tup [.str "a", .int 1]) := by unfold okT; kernel_rfl
theorem ok_6 (X : Sl) : okT X (.int (10 ^ 30)) := by unfold okT; kernel_rfl
theorem ok_7 (X : Sl) : okT X (.bl true) := by unfold okT; kernel_rfl
theorem ok_8 (X : Sl) : okT X (.lst [.int 1]) := by unfold okT; kernel_rfl
theorem ok_9 (X : Sl) : okT X (.dK [(.inr "a", .tup [])]) := by unfold okT; kernel_rfl
theorem ok_10 (X : Sl) : okT X (.int (-7)) := by unfold okT; kernel_rfl
end K00
namespace K00
open PySem L2 DL
theorem dT {h : Decidable True} : @decide True h = true := by
  cases h with
  | isTrue _ => rfl
  | isFalse n => exact absurd trivial n
theorem dF {h : Decidable False} : @decide False h = false := by
  cases h with
  | isTrue n => exact n.elim
  | isFalse n => rfl
theorem e_add (i j : Int) : gAdd (.int i) (.int j) = some (.int (i + j)) := rfl
theorem e_sub (i j : Int) : gSubI (.int i) (.int j) = some (.int (i - j)) := rfl
theorem e_mul {i j : Int} (h : small64 i = true ∨ small64 j = true) : gMulA (.int i) (.int j) = some (.int (i * j)) := by
  have c : (small64 i || small64 j) = true := by rw [Bool.or_eq_true]; exact h
  unfold gMulA gOr gMul gI
  simp only [c, if_true]
theorem s64 {i : Int} (h : -1000000 ≤ i) (h2 : i ≤ 1000000) : small64 i = true := by
  unfold DL.small64
  exact decide_eq_true ⟨by omega, by omega⟩
theorem s61 {i : Int} (h : 0 ≤ i) (h2 : i < 2305843009213693951) : small64 i = true := by
  unfold DL.small64
  exact decide_eq_true ⟨by omega, by omega⟩
theorem e_mod {i j : Int} (h : 0 < j) : gMod (.int i) (.int j) = some (.int (i % j)) := by
  unfold gMod gI
  have c : decide (j ≠ 0) = true := decide_eq_true (by omega)
  simp only [c, if_true]
  rw [Int.fmod_eq_emod_of_nonneg _ (by omega)]
theorem e_div {i j : Int} (h : 0 < j) (h2 : j < 1073741824) : gDivA (.int i) (.int j) = some (.int (i / j)) := by
  unfold gDivA gOr gDiv gI
  have c : decide (j ≠ 0 ∧ j.natAbs < 1073741824) = true := decide_eq_true ⟨by omega, by omega⟩
  simp only [c, if_true]
  rw [Int.fdiv_eq_ediv_of_nonneg _ (by omega)]
theorem e_divW {i j : Int} (h : 0 < j) (h2 : j < 2 ^ 64) : gDivA (.int i) (.int j) = some (.int (i / j)) := by
  by_cases c0 : j < 1073741824
  · exact e_div h c0
  · unfold gDivA gOr gDiv gDivW gI
    have c : ¬ decide (j ≠ 0 ∧ j.natAbs < 1073741824) = true := fun z => by have := (of_decide_eq_true z).2; omega
    have l : j.natAbs.log2 < 9000 := Nat.lt_of_lt_of_le (PySem.Flt.log2_lt_of (k := 64) (by omega) (by omega)) (by omega)
    have c2 : decide (0 < j ∧ j.natAbs.log2 < 9000) = true := decide_eq_true ⟨h, l⟩
    simp only [if_neg c, c2, if_true]
theorem e_pow1 : gPow (.int 10) (.int 60) = some (.int (10 ^ 60)) := by
  unfold gPow gI
  have c : decide (0 ≤ (60 : Int) ∧ (Builtin.Int.intBits 10 : Int) * 60 ≤ 2 ^ 27) = true := by decide +kernel
  simp only [c, if_true]
  rfl
theorem e_pow2 : gPow (.int (10 ^ 60)) (.int 10) = some (.int ((10 ^ 60) ^ 10)) := by
  unfold gPow gI
  have c : decide (0 ≤ (10 : Int) ∧ (Builtin.Int.intBits (10 ^ 60) : Int) * 10 ≤ 2 ^ 27) = true := by decide +kernel
  simp only [c, if_true]
  rfl
theorem e_pow3 : gPow (.int 10) (.int 18) = some (.int (10 ^ 18)) := by
  unfold gPow gI
  have c : decide (0 ≤ (18 : Int) ∧ (Builtin.Int.intBits 10 : Int) * 18 ≤ 2 ^ 27) = true := by decide +kernel
  simp only [c, if_true]
  rfl
theorem e_pow4 : gPow (.int 10) (.int 11) = some (.int (10 ^ 11)) := by
  unfold gPow gI
  have c : decide (0 ≤ (11 : Int) ∧ (Builtin.Int.intBits 10 : Int) * 11 ≤ 2 ^ 27) = true := by decide +kernel
  simp only [c, if_true]
  rfl
theorem e_lt (i j : Int) : gLt (.int i) (.int j) = some (.bl (decide (i < j))) := rfl
theorem e_gt (i j : Int) : gGt (.int i) (.int j) = some (.bl (decide (j < i))) := rfl
theorem e_ge (i j : Int) : gGe (.int i) (.int j) = some (.bl (decide (j ≤ i))) := rfl
theorem e_le (i j : Int) : gLeA (.int i) (.int j) = some (.bl (decide (i ≤ j))) := rfl
theorem e_int (i : Int) : gInt [.int i] = some (.int i) := rfl
theorem e_abs (i : Int) : gAbs [.int i] = some (.int (if i < 0 then -i else i)) := rfl
theorem ixN_nat {n j : Nat} (hj : j < n) : ixN n (j : Int) = some j := by
  unfold ixN
  rw [if_pos (by omega), if_pos (by omega)]
  simp
theorem at_nat {α : Type} {xs : List α} {j : Nat} {x : α} (h : xs[j]? = some x) : atI xs (j : Int) = some x := by
  unfold atI
  have hj : j < xs.length := (List.getElem?_eq_some_iff.mp h).1
  rw [ixN_nat hj]
  exact h

/-! ### the roll -/
theorem i0 : ixN 3 0 = some 0 := by decide
theorem i2 : ixN 3 2 = some 2 := by decide
theorem t0 (x y z : D) : atI [x, y, z] 0 = some x := rfl
theorem t1 (x y z : D) : atI [x, y, z] 1 = some y := rfl
theorem t2 (x y z : D) : atI [x, y, z] 2 = some z := rfl
theorem roll (a b c n : Int) (h0 : 0 < n) (h1 : n ≤ 1000000) : ∃ k a' c', 0 ≤ k ∧ k < n ∧ m_law_roll [.ow true (.l [.int a, .int b, .int c]), .tr (.int n)] = some (.int k, [.ow true (.l [.int a', .int b, .int c']), .tr (.int n)]) := by
  have hn : n < 1073741824 := by omega
  by_cases ha : 0 < a
  · refine ⟨a % n, a / n, c, Int.emod_nonneg _ (by omega), Int.emod_lt_of_pos _ h0, ?_⟩
    unfold m_law_roll b_law_roll
    simp only [defF, defN, back, fSeq, fNx, fAsg, fOp, fUn, fV, fC, fgN, fgT, fgsC, fgs0, fCB, fCons, fNil, fIfS, fB, fTru, fNot, fAnd, fOr, fAndV, fOrV, fNotV, fIf, fRet, fRetN, fDrop, fPar, fSetO, fIxO, fTup, fLst, fCall, fCallO, fCallS, fChain, fFor, fLc, fiA, fiR1, fIsi, fYes, D.tyN, List.getElem?_cons_zero, List.getElem?_cons_succ, List.set_cons_zero, List.set_cons_succ, List.length_cons, List.length_nil, List.length_set, List.length_append, List.length_replicate, List.cons_append, List.nil_append, List.replicate_succ, List.replicate_zero, List.map_cons, List.map_nil, List.mapIdx_cons, List.mapIdx_nil, Option.getD_some, ite_true, ite_false, if_true, if_false, reduceIte, reduceCtorEq, Nat.reduceAdd, Nat.reduceSub, Nat.reduceLT, Nat.reduceLeDiff, Nat.reduceEqDiff, Nat.zero_add, Nat.zero_lt_succ, Nat.lt_add_one, true_and, and_true, and_self, Bool.not_true, Bool.not_false, Nat.succ_ne_zero, dT, dF, e_add, e_sub, e_lt, e_gt, e_ge, e_le, e_int, e_abs, t0, decide_eq_true ha, e_mod h0, e_div h0 hn, i0]
  · have p1 : (0 : Int) < 2305843009213693951 := by decide
    have p2 : (0 : Int) < 2305843009213693921 := by decide
    have p3 : (0 : Int) < 2305843009213693907 := by decide
    have x1 : small64 1000249 = true := by decide
    have x2 : small64 9437 = true := by decide
    obtain ⟨u, hu⟩ : ∃ u, u = (b + 1000249 * (c + 1)) % 2305843009213693951 := ⟨_, rfl⟩
    have u0 : 0 ≤ u := by rw [hu]; exact Int.emod_nonneg _ (by decide)
    have u1 : u < 2305843009213693951 := by rw [hu]; exact Int.emod_lt_of_pos _ p1
    obtain ⟨v, hv⟩ : ∃ v, v = u * u % 2305843009213693921 := ⟨_, rfl⟩
    have v0 : 0 ≤ v := by rw [hv]; exact Int.emod_nonneg _ (by decide)
    have v1 : v < 2305843009213693921 := by rw [hv]; exact Int.emod_lt_of_pos _ p2
    refine ⟨(v * u + 9437 * (c + 1)) % 2305843009213693907 / 4096 % n, a, c + 1, Int.emod_nonneg _ (by omega), Int.emod_lt_of_pos _ h0, ?_⟩
    unfold m_law_roll b_law_roll
    simp only [defF, defN, back, fSeq, fNx, fAsg, fOp, fUn, fV, fC, fgN, fgT, fgsC, fgs0, fCB, fCons, fNil, fIfS, fB, fTru, fNot, fAnd, fOr, fAndV, fOrV, fNotV, fIf, fRet, fRetN, fDrop, fPar, fSetO, fIxO, fTup, fLst, fCall, fCallO, fCallS, fChain, fFor, fLc, fiA, fiR1, fIsi, fYes, D.tyN, List.getElem?_cons_zero, List.getElem?_cons_succ, List.set_cons_zero, List.set_cons_succ, List.length_cons, List.length_nil, List.length_set, List.length_append, List.length_replicate, List.cons_append, List.nil_append, List.replicate_succ, List.replicate_zero, List.map_cons, List.map_nil, List.mapIdx_cons, List.mapIdx_nil, Option.getD_some, ite_true, ite_false, if_true, if_false, reduceIte, reduceCtorEq, Nat.reduceAdd, Nat.reduceSub, Nat.reduceLT, Nat.reduceLeDiff, Nat.reduceEqDiff, Nat.zero_add, Nat.zero_lt_succ, Nat.lt_add_one, true_and, and_true, and_self, Bool.not_true, Bool.not_false, Nat.succ_ne_zero, dT, dF, e_add, e_sub, e_lt, e_gt, e_ge, e_le, e_int, e_abs, t0, t1, t2, decide_eq_false ha, e_mod h0, e_mod p1, e_mod p2, e_mod p3, i2, e_mul (.inl x1), e_mul (.inl x2), ← hu, e_mul (.inl (s61 u0 u1)), ← hv, e_mul (.inl (s61 v0 (Int.lt_trans v1 (by decide)))), e_div (show (0 : Int) < 4096 by decide) (show (4096 : Int) < 1073741824 by decide)]
/-! ### the dice, one of some -/
theorem pows : ∃ t p q : Int, gPow (.int 10) (.int 60) = some (.int t) ∧ gPow (.int t) (.int 10) = some (.int p) ∧ 0 < p ∧ gPow (.int 10) (.int 18) = some (.int q) ∧ 0 < q ∧ q < 2 ^ 64 :=
  ⟨10 ^ 60, (10 ^ 60) ^ 10, 10 ^ 18, e_pow1, e_pow2, by decide +kernel, e_pow3, by decide +kernel, by decide +kernel⟩
theorem gl_rl (ns : List Int) : gLen [.rl (ns.map D.int)] = some (.int (ns.length : Int)) := by
  have : gLen [.rl (ns.map D.int)] = some (.int ((ns.map D.int).length : Int)) := rfl
  rw [this, List.length_map]
theorem gx_rl (ns : List Int) (k : Nat) (hk : k < ns.length) : gIx (.rl (ns.map D.int)) (.int (k : Int)) = some (.int ns[k]) := by
  have : atI (ns.map D.int) (k : Int) = some (.int ns[k]) := at_nat (by rw [List.getElem?_map, List.getElem?_eq_getElem hk]; rfl)
  unfold gIx gOr gIxT gIxL
  simp only [this]
theorem s3 : DL.small64 97 = true ∧ DL.small64 61291 = true ∧ DL.small64 3517 = true ∧ DL.small64 71 = true ∧ (0 : Int) < 2147482951 ∧ (0 : Int) < 2147482949 := by decide
def dtl : FS := (fSeq (fAsg (fOp gMod (fCB gInt (fCons (fCB gAbs (fCons (fV 2) fNil)) fNil)) (fOp gPow (fOp gPow (fC (.int 10)) (fC (.int 60))) (fC (.int 10)))) (fgN 3))
    (fSeq (fAsg (fOp gDivA (fV 3) (fOp gPow (fC (.int 10)) (fC (.int 18)))) (fgN 4))
    (fSeq (fAsg (fOp gAdd (fOp gAdd (fOp gAdd (fOp gMulA (fOp gMod (fV 3) (fC (.int 2147482951))) (fC (.int 61291))) (fOp gMulA (fC (.int 3517)) (fV 1))) (fOp gMulA (fC (.int 71)) (fCB gInt (fCons (fOp gLt (fV 2) (fC (.int 0))) fNil)))) (fC (.int 83))) (fgN 5))
    (fRetN (fCons (fV 4) (fCons (fOp gMod (fV 5) (fC (.int 2147482949))) (fCons (fC (.int 0)) fNil)))))))
theorem dtl_ok (v k : Int) (sc : D) : ∃ a b as', dtl [.tr sc, .tr (.int k), .tr (.int v), .no, .no, .no] = some (.rn [.int a, .int b, .int 0], as') := by
  obtain ⟨t, p, q, w1, w2, q1, w3, q2, q3⟩ := pows
  obtain ⟨x1, x2, x3, x4, q4, q5⟩ := s3
  have b1 : ∀ b : Bool, gInt [.bl b] = some (.int (if b then 1 else 0)) := fun _ => rfl
  unfold dtl
  simp only [defF, defN, back, fSeq, fNx, fAsg, fOp, fUn, fV, fC, fgN, fgT, fgsC, fgs0, fCB, fCons, fNil, fIfS, fB, fTru, fNot, fAnd, fOr, fAndV, fOrV, fNotV, fIf, fRet, fRetN, fDrop, fPar, fSetO, fIxO, fTup, fLst, fCall, fCallO, fCallS, fChain, fFor, fLc, fiA, fiR1, fIsi, fYes, D.tyN, List.getElem?_cons_zero, List.getElem?_cons_succ, List.set_cons_zero, List.set_cons_succ, List.length_cons, List.length_nil, List.length_set, List.length_append, List.length_replicate, List.cons_append, List.nil_append, List.replicate_succ, List.replicate_zero, List.map_cons, List.map_nil, List.mapIdx_cons, List.mapIdx_nil, Option.getD_some, ite_true, ite_false, if_true, if_false, reduceIte, reduceCtorEq, Nat.reduceAdd, Nat.reduceSub, Nat.reduceLT, Nat.reduceLeDiff, Nat.reduceEqDiff, Nat.zero_add, Nat.zero_lt_succ, Nat.lt_add_one, true_and, and_true, and_self, Bool.not_true, Bool.not_false, Nat.succ_ne_zero, dT, dF, e_add, e_sub, e_lt, e_gt, e_ge, e_le, e_int, e_abs, w1, w2, w3, e_mod q1, e_mod q4, e_mod q5, e_divW q2 q3, e_mul (.inr x2), e_mul (.inl x3), e_mul (.inl x4), b1]
  exact ⟨_, _, _, rfl⟩
def dhd : FS := fAsg (fOp gAdd (fOp gMulA (fC (.int 97)) (fV 1)) (fC (.int 53))) (fgN 2)
def dif : FS := fIfS (fB (fOp gLt (fV 1) (fCB gLen (fCons (fV 0) fNil)))) (fAsg (fOp gIx (fV 0) (fV 1)) (fgN 2)) fNx
theorem b_dice : b_law_dice = fSeq dhd (fSeq dif dtl) := rfl
theorem dhd_ok (k : Int) (sc : D) : dhd [.tr sc, .tr (.int k), .no, .no, .no, .no] = some (.nx, [.tr sc, .tr (.int k), .tr (.int (97 * k + 53)), .no, .no, .no]) := by
  obtain ⟨x1, _⟩ := s3
  unfold dhd
  simp only [defF, defN, back, fSeq, fNx, fAsg, fOp, fUn, fV, fC, fgN, fgT, fgsC, fgs0, fCB, fCons, fNil, fIfS, fB, fTru, fNot, fAnd, fOr, fAndV, fOrV, fNotV, fIf, fRet, fRetN, fDrop, fPar, fSetO, fIxO, fTup, fLst, fCall, fCallO, fCallS, fChain, fFor, fLc, fiA, fiR1, fIsi, fYes, D.tyN, List.getElem?_cons_zero, List.getElem?_cons_succ, List.set_cons_zero, List.set_cons_succ, List.length_cons, List.length_nil, List.length_set, List.length_append, List.length_replicate, List.cons_append, List.nil_append, List.replicate_succ, List.replicate_zero, List.map_cons, List.map_nil, List.mapIdx_cons, List.mapIdx_nil, Option.getD_some, ite_true, ite_false, if_true, if_false, reduceIte, reduceCtorEq, Nat.reduceAdd, Nat.reduceSub, Nat.reduceLT, Nat.reduceLeDiff, Nat.reduceEqDiff, Nat.zero_add, Nat.zero_lt_succ, Nat.lt_add_one, true_and, and_true, and_self, Bool.not_true, Bool.not_false, Nat.succ_ne_zero, dT, dF, e_add, e_sub, e_lt, e_gt, e_ge, e_le, e_int, e_abs, e_mul (.inl x1)]
theorem dif_ok (ns : List Int) (k : Nat) (u : Int) : ∃ v, dif [.tr (.rl (ns.map D.int)), .tr (.int (k : Int)), .tr (.int u), .no, .no, .no] = some (.nx, [.tr (.rl (ns.map D.int)), .tr (.int (k : Int)), .tr (.int v), .no, .no, .no]) := by
  unfold dif
  by_cases h : (k : Int) < (ns.length : Int)
  · have gx := gx_rl ns k (by omega)
    simp only [defF, defN, back, fSeq, fNx, fAsg, fOp, fUn, fV, fC, fgN, fgT, fgsC, fgs0, fCB, fCons, fNil, fIfS, fB, fTru, fNot, fAnd, fOr, fAndV, fOrV, fNotV, fIf, fRet, fRetN, fDrop, fPar, fSetO, fIxO, fTup, fLst, fCall, fCallO, fCallS, fChain, fFor, fLc, fiA, fiR1, fIsi, fYes, D.tyN, List.getElem?_cons_zero, List.getElem?_cons_succ, List.set_cons_zero, List.set_cons_succ, List.length_cons, List.length_nil, List.length_set, List.length_append, List.length_replicate, List.cons_append, List.nil_append, List.replicate_succ, List.replicate_zero, List.map_cons, List.map_nil, List.mapIdx_cons, List.mapIdx_nil, Option.getD_some, ite_true, ite_false, if_true, if_false, reduceIte, reduceCtorEq, Nat.reduceAdd, Nat.reduceSub, Nat.reduceLT, Nat.reduceLeDiff, Nat.reduceEqDiff, Nat.zero_add, Nat.zero_lt_succ, Nat.lt_add_one, true_and, and_true, and_self, Bool.not_true, Bool.not_false, Nat.succ_ne_zero, dT, dF, e_add, e_sub, e_lt, e_gt, e_ge, e_le, e_int, e_abs, gl_rl, decide_eq_true h, gx]
    exact ⟨_, rfl⟩
  · simp only [defF, defN, back, fSeq, fNx, fAsg, fOp, fUn, fV, fC, fgN, fgT, fgsC, fgs0, fCB, fCons, fNil, fIfS, fB, fTru, fNot, fAnd, fOr, fAndV, fOrV, fNotV, fIf, fRet, fRetN, fDrop, fPar, fSetO, fIxO, fTup, fLst, fCall, fCallO, fCallS, fChain, fFor, fLc, fiA, fiR1, fIsi, fYes, D.tyN, List.getElem?_cons_zero, List.getElem?_cons_succ, List.set_cons_zero, List.set_cons_succ, List.length_cons, List.length_nil, List.length_set, List.length_append, List.length_replicate, List.cons_append, List.nil_append, List.replicate_succ, List.replicate_zero, List.map_cons, List.map_nil, List.mapIdx_cons, List.mapIdx_nil, Option.getD_some, ite_true, ite_false, if_true, if_false, reduceIte, reduceCtorEq, Nat.reduceAdd, Nat.reduceSub, Nat.reduceLT, Nat.reduceLeDiff, Nat.reduceEqDiff, Nat.zero_add, Nat.zero_lt_succ, Nat.lt_add_one, true_and, and_true, and_self, Bool.not_true, Bool.not_false, Nat.succ_ne_zero, dT, dF, e_add, e_sub, e_lt, e_gt, e_ge, e_le, e_int, e_abs, gl_rl, decide_eq_false h]
    exact ⟨_, rfl⟩
theorem dice (ns : List Int) (k : Nat) : ∃ a b as', m_law_dice [.tr (.rl (ns.map D.int)), .tr (.int (k : Int))] = some ([.int a, .int b, .int 0], as') := by
  obtain ⟨v, e2⟩ := dif_ok ns k (97 * (k : Int) + 53)
  obtain ⟨a, b, as', e3⟩ := dtl_ok v (k : Int) (.rl (ns.map D.int))
  have e1 := dhd_ok (k : Int) (.rl (ns.map D.int))
  have e0 : ([.tr (.rl (ns.map D.int)), .tr (.int (k : Int))] ++ List.replicate (6 - 2) Sl.no : List Sl) = [.tr (.rl (ns.map D.int)), .tr (.int (k : Int)), .no, .no, .no, .no] := rfl
  unfold m_law_dice
  rw [b_dice]
  unfold defN
  rw [e0]
  simp only [fSeq, e1, e2, e3]
  exact ⟨_, _, _, rfl⟩
theorem one_of (a b c : Int) (xs : List D) (h0 : xs ≠ []) (h1 : xs.length ≤ 1000000) : ∃ x a' c', x ∈ xs ∧ m_law_one_of [.ow true (.l [.int a, .int b, .int c]), .tr (.lst xs)] = some (x, [.ow true (.l [.int a', .int b, .int c']), .tr (.lst xs)]) := by
  have hl : 0 < xs.length := List.length_pos_iff.mpr h0
  obtain ⟨k, a', c', k0, k1, e⟩ := roll a b c (xs.length : Int) (by omega) (by omega)
  obtain ⟨j, rfl⟩ : ∃ j : Nat, k = (j : Int) := ⟨k.toNat, by omega⟩
  have hj : j < xs.length := by omega
  have gx : gIx (.lst xs) (.int (j : Int)) = some xs[j] := by
    have : atI xs (j : Int) = some xs[j] := at_nat (List.getElem?_eq_getElem hj)
    unfold gIx gOr gIxT gIxL
    simp only [this]
  have gl : gLen [.lst xs] = some (.int (xs.length : Int)) := rfl
  refine ⟨xs[j], a', c', List.getElem_mem hj, ?_⟩
  unfold m_law_one_of b_law_one_of
  simp only [defF, defN, back, fSeq, fNx, fAsg, fOp, fUn, fV, fC, fgN, fgT, fgsC, fgs0, fCB, fCons, fNil, fIfS, fB, fTru, fNot, fAnd, fOr, fAndV, fOrV, fNotV, fIf, fRet, fRetN, fDrop, fPar, fSetO, fIxO, fTup, fLst, fCall, fCallO, fCallS, fChain, fFor, fLc, fiA, fiR1, fIsi, fYes, D.tyN, List.getElem?_cons_zero, List.getElem?_cons_succ, List.set_cons_zero, List.set_cons_succ, List.length_cons, List.length_nil, List.length_set, List.length_append, List.length_replicate, List.cons_append, List.nil_append, List.replicate_succ, List.replicate_zero, List.map_cons, List.map_nil, List.mapIdx_cons, List.mapIdx_nil, Option.getD_some, ite_true, ite_false, if_true, if_false, reduceIte, reduceCtorEq, Nat.reduceAdd, Nat.reduceSub, Nat.reduceLT, Nat.reduceLeDiff, Nat.reduceEqDiff, Nat.zero_add, Nat.zero_lt_succ, Nat.lt_add_one, true_and, and_true, and_self, Bool.not_true, Bool.not_false, Nat.succ_ne_zero, dT, dF, e_add, e_sub, e_lt, e_gt, e_ge, e_le, e_int, e_abs, gl, e, gx]
end K00
namespace K00
open PySem L2 DL
abbrev dc (a b c : Int) : Sl := .ow true (.l [.int a, .int b, .int c])
def rl : FE := fLst (fCons (fC (.int 0)) (fCons (fC (.str ("" : Str))) (fCons (fC (.str ("a" : Str))) (fCons (fC .non) (fCons (fTup fNil) (fCons (fTup (fCons (fC (.str ("a" : Str))) (fCons (fC (.int 1)) fNil))) (fCons (fOp gPow (fC (.int 10)) (fC (.int 30))) (fCons (fC (.bl true)) (fCons (fLst (fCons (fC (.int 1)) fNil)) (fCons (fDis1 ("a" : Str) (fTup fNil)) (fCons (fUn gNeg (fC (.int 7))) fNil)))))))))))
theorem rl_ok (s : Sd) : rl s = some (.lst things, s) := by kernel_rfl
theorem r0_eq : r0 = fAsg (fCallO 2 m_law_one_of 0 (fCons rl fNil)) (fgN 1) := rfl
theorem r0_ok (a b c : Int) : ∃ x a' c', x ∈ things ∧ r0 [dc a b c, .no, .no, .no, .no, .no, .no, .no] = some (.nx, [dc a' b c', .tr x, .no, .no, .no, .no, .no, .no]) := by
  obtain ⟨x, a', c', hx, e⟩ := one_of a b c things (by decide) (by decide)
  refine ⟨x, a', c', hx, ?_⟩
  rw [r0_eq]
  simp only [defF, defN, back, fSeq, fNx, fAsg, fOp, fUn, fV, fC, fgN, fgT, fgsC, fgs0, fCB, fCons, fNil, fIfS, fB, fTru, fNot, fAnd, fOr, fAndV, fOrV, fNotV, fIf, fRet, fRetN, fDrop, fPar, fSetO, fIxO, fTup, fLst, fCall, fCallO, fCallS, fChain, fFor, fLc, fiA, fiR1, fIsi, fYes, D.tyN, List.getElem?_cons_zero, List.getElem?_cons_succ, List.set_cons_zero, List.set_cons_succ, List.length_cons, List.length_nil, List.length_set, List.length_append, List.length_replicate, List.cons_append, List.nil_append, List.replicate_succ, List.replicate_zero, List.map_cons, List.map_nil, List.mapIdx_cons, List.mapIdx_nil, Option.getD_some, ite_true, ite_false, if_true, if_false, reduceIte, reduceCtorEq, Nat.reduceAdd, Nat.reduceSub, Nat.reduceLT, Nat.reduceLeDiff, Nat.reduceEqDiff, Nat.zero_add, Nat.zero_lt_succ, Nat.lt_add_one, true_and, and_true, and_self, Bool.not_true, Bool.not_false, Nat.succ_ne_zero, dT, dF, e_add, e_sub, e_lt, e_gt, e_ge, e_le, e_int, e_abs, rl_ok, e]
theorem okT_all (X : Sl) : ∀ x ∈ things, okT X x := by
  intro x hx
  simp only [things, List.mem_cons, List.not_mem_nil, or_false] at hx
  rcases hx with rfl | rfl | rfl | rfl | rfl | rfl | rfl | rfl | rfl | rfl | rfl
  · exact ok_0 X
  · exact ok_1 X
  · exact ok_2 X
  · exact ok_3 X
  · exact ok_4 X
  · exact ok_5 X
  · exact ok_6 X
  · exact ok_7 X
  · exact ok_8 X
  · exact ok_9 X
  · exact ok_10 X
theorem flT_of {f : Fl} (h : flT f = true) : f = .rt (.bl true) := by
  unfold flT at h
  split at h
  · rfl
  · cases h
theorem right (a b c : Int) : ∃ a' c', m_law_right [dc a b c] = some (.bl true, [dc a' b c']) := by
  obtain ⟨x, a', c', hx, e⟩ := r0_ok a b c
  have o := okT_all (dc a' b c') x hx
  unfold okT at o
  cases e2 : rR [dc a' b c', .tr x, .no, .no, .no, .no, .no, .no] with
  | none => rw [e2] at o; cases o
  | some p =>
    obtain ⟨f, s'⟩ := p
    rw [e2] at o
    have o := Option.some.inj o
    have f1 := flT_of (congrArg Prod.fst o)
    have f2 : s'[0]? = some (dc a' b c') := congrArg Prod.snd o
    subst f1
    refine ⟨a', c', ?_⟩
    have e0 : ([dc a b c] ++ List.replicate (8 - 1) Sl.no : List Sl) = [dc a b c, .no, .no, .no, .no, .no, .no, .no] := rfl
    unfold m_law_right
    rw [b_right]
    unfold defF
    rw [e0]
    simp only [fSeq, e, e2]
    simp only [back, List.mapIdx_cons, List.mapIdx_nil, f2, Option.getD_some]
def l1 : FI := (fiR1 (fCons (fCB gMax2 (fCons (fC (.int 1)) (fCons (fCB gMin2 (fCons (fC (.int 8)) (fCons (fCB gLen (fCons (fV 0) fNil)) fNil))) fNil))) fNil))
def lt : FS := fIfS (fNot (fTru (fCallO 1 m_law_right 2 fNil))) (fRet (fC (.bl false))) fNx
def l4 : FI := fiR1 (fCons (fC (.int 4)) fNil)
def lb : FS := fSeq (fSetN 2 m_law_dice (fCons (fV 0) (fCons (fV 1) fNil)) 2) (fFor l4 (fgN 3) lt)
def l3 : FS := (fRet (fOp gEqD (fLst (fCons (fExF (fun C => decide (C = cl 5)) "line" (fMkE (cl 5) "line" (fC .non))) (fCons (fExF (fun C => decide (C = cl 5)) "line" (fMkE (cl 5) "line" (fC (.int 3)))) (fCons (fExF (fun C => decide (C = cl 8)) "limit" (fMkE (cl 8) "limit" (fC (.int 60)))) fNil)))) (fLst (fCons (fC .non) (fCons (fC (.int 3)) (fCons (fC (.int 60)) fNil))))))
theorem b_law_eq : b_law = fSeq (fFor l1 (fgN 1) lb) l3 := rfl
abbrev Rl (ns : List Int) : Sl := .tr (.rl (ns.map D.int))
abbrev du (a b c : Int) : Sl := .ow false (.l [.int a, .int b, .int c])
def Ok1 (s : Sl) : Prop := s = .no ∨ ∃ d, s = .tr d
def Ok2 (s : Sl) : Prop := s = .no ∨ ∃ ds, s = .ow false (.l ds)
theorem lt_ok (A B : Sl) (a b c : Int) (d : D) : ∃ a' c', lt [A, B, du a b c, .tr d] = some (.nx, [A, B, du a' b c', .tr d]) := by
  obtain ⟨a', c', e⟩ := right a b c
  refine ⟨a', c', ?_⟩
  unfold lt
  simp only [defF, defN, back, fSeq, fNx, fAsg, fOp, fUn, fV, fC, fgN, fgT, fgsC, fgs0, fCB, fCons, fNil, fIfS, fB, fTru, fNot, fAnd, fOr, fAndV, fOrV, fNotV, fIf, fRet, fRetN, fDrop, fPar, fSetO, fIxO, fTup, fLst, fCall, fCallO, fCallS, fChain, fFor, fLc, fiA, fiR1, fIsi, fYes, D.tyN, List.getElem?_cons_zero, List.getElem?_cons_succ, List.set_cons_zero, List.set_cons_succ, List.length_cons, List.length_nil, List.length_set, List.length_append, List.length_replicate, List.cons_append, List.nil_append, List.replicate_succ, List.replicate_zero, List.map_cons, List.map_nil, List.mapIdx_cons, List.mapIdx_nil, Option.getD_some, ite_true, ite_false, if_true, if_false, reduceIte, reduceCtorEq, Nat.reduceAdd, Nat.reduceSub, Nat.reduceLT, Nat.reduceLeDiff, Nat.reduceEqDiff, Nat.zero_add, Nat.zero_lt_succ, Nat.lt_add_one, true_and, and_true, and_self, Bool.not_true, Bool.not_false, Nat.succ_ne_zero, dT, dF, e_add, e_sub, e_lt, e_gt, e_ge, e_le, e_int, e_abs, e]
theorem turns (A B : Sl) : ∀ (ds : List D) (a b c : Int) (s : Sl), Ok1 s → ∃ a' c' s', Ok1 s' ∧ loopF (fgN 3) lt ds [A, B, du a b c, s] = some (.nx, [A, B, du a' b c', s'])
  | [], a, b, c, s, h => ⟨a, c, s, h, rfl⟩
  | d :: r, a, b, c, s, h => by
    obtain ⟨a1, c1, e1⟩ := lt_ok A B a b c d
    obtain ⟨a2, c2, s2, h2, e2⟩ := turns A B r a1 b c1 (.tr d) (.inr ⟨_, rfl⟩)
    refine ⟨a2, c2, s2, h2, ?_⟩
    have eg : fgN 3 d [A, B, du a b c, s] = some [A, B, du a b c, .tr d] := by
      rcases h with rfl | ⟨d, rfl⟩
      · rfl
      · rfl
    simp only [loopF, eg, e1, e2]
theorem lb_ok (ns : List Int) (k : Nat) (s t : Sl) (h : Ok2 s) (ht : Ok1 t) : ∃ ds t', Ok1 t' ∧ lb [Rl ns, .tr (.int (k : Int)), s, t] = some (.nx, [Rl ns, .tr (.int (k : Int)), .ow false (.l ds), t']) := by
  obtain ⟨a, b, _, e0⟩ := dice ns k
  have st : fSetN 2 m_law_dice (fCons (fV 0) (fCons (fV 1) fNil)) 2 [Rl ns, .tr (.int (k : Int)), s, t] = some (.nx, [Rl ns, .tr (.int (k : Int)), du a b 0, t]) := by
    have cnd : (2 : Nat) = 2 ∧ 2 < 4 := by decide
    rcases h with rfl | ⟨ds, rfl⟩
    · unfold fSetN
      simp only [defF, defN, back, fSeq, fNx, fAsg, fOp, fUn, fV, fC, fgN, fgT, fgsC, fgs0, fCB, fCons, fNil, fIfS, fB, fTru, fNot, fAnd, fOr, fAndV, fOrV, fNotV, fIf, fRet, fRetN, fDrop, fPar, fSetO, fIxO, fTup, fLst, fCall, fCallO, fCallS, fChain, fFor, fLc, fiA, fiR1, fIsi, fYes, D.tyN, List.getElem?_cons_zero, List.getElem?_cons_succ, List.set_cons_zero, List.set_cons_succ, List.length_cons, List.length_nil, List.length_set, List.length_append, List.length_replicate, List.cons_append, List.nil_append, List.replicate_succ, List.replicate_zero, List.map_cons, List.map_nil, List.mapIdx_cons, List.mapIdx_nil, Option.getD_some, ite_true, ite_false, if_true, if_false, reduceIte, reduceCtorEq, Nat.reduceAdd, Nat.reduceSub, Nat.reduceLT, Nat.reduceLeDiff, Nat.reduceEqDiff, Nat.zero_add, Nat.zero_lt_succ, Nat.lt_add_one, true_and, and_true, and_self, Bool.not_true, Bool.not_false, Nat.succ_ne_zero, dT, dF, e_add, e_sub, e_lt, e_gt, e_ge, e_le, e_int, e_abs, e0, if_pos cnd]
    · unfold fSetN
      simp only [defF, defN, back, fSeq, fNx, fAsg, fOp, fUn, fV, fC, fgN, fgT, fgsC, fgs0, fCB, fCons, fNil, fIfS, fB, fTru, fNot, fAnd, fOr, fAndV, fOrV, fNotV, fIf, fRet, fRetN, fDrop, fPar, fSetO, fIxO, fTup, fLst, fCall, fCallO, fCallS, fChain, fFor, fLc, fiA, fiR1, fIsi, fYes, D.tyN, List.getElem?_cons_zero, List.getElem?_cons_succ, List.set_cons_zero, List.set_cons_succ, List.length_cons, List.length_nil, List.length_set, List.length_append, List.length_replicate, List.cons_append, List.nil_append, List.replicate_succ, List.replicate_zero, List.map_cons, List.map_nil, List.mapIdx_cons, List.mapIdx_nil, Option.getD_some, ite_true, ite_false, if_true, if_false, reduceIte, reduceCtorEq, Nat.reduceAdd, Nat.reduceSub, Nat.reduceLT, Nat.reduceLeDiff, Nat.reduceEqDiff, Nat.zero_add, Nat.zero_lt_succ, Nat.lt_add_one, true_and, and_true, and_self, Bool.not_true, Bool.not_false, Nat.succ_ne_zero, dT, dF, e_add, e_sub, e_lt, e_gt, e_ge, e_le, e_int, e_abs, e0, if_pos cnd]
  obtain ⟨a1, c1, t1, h1, e1⟩ := turns (Rl ns) (.tr (.int (k : Int))) (rngD 0 4) a b 0 t ht
  have e4 : l4 [Rl ns, .tr (.int (k : Int)), du a b 0, t] = some (rngD 0 4, [Rl ns, .tr (.int (k : Int)), du a b 0, t]) := rfl
  refine ⟨[.int a1, .int b, .int c1], t1, h1, ?_⟩
  unfold lb
  simp only [fSeq, fFor, st, e4, e1]
theorem loop_ok (ns : List Int) : ∀ (ds : List D), (∀ d ∈ ds, ∃ k : Nat, d = .int (k : Int)) → ∀ (s1 s2 s3 : Sl), Ok1 s1 → Ok2 s2 → Ok1 s3 → ∃ s1' s2' s3', loopF (fgN 1) lb ds [Rl ns, s1, s2, s3] = some (.nx, [Rl ns, s1', s2', s3'])
  | [], _, s1, s2, s3, _, _, _ => ⟨s1, s2, s3, rfl⟩
  | d :: r, h, s1, s2, s3, h1, h2, h3 => by
    obtain ⟨k, rfl⟩ := h d List.mem_cons_self
    obtain ⟨ds, t', ht, e⟩ := lb_ok ns k s2 s3 h2 h3
    obtain ⟨t1, t2, t3, e2⟩ := loop_ok ns r (fun x hx => h x (List.mem_cons_of_mem _ hx)) (.tr (.int (k : Int))) (.ow false (.l ds)) t' (.inr ⟨_, rfl⟩) (.inr ⟨_, rfl⟩) ht
    refine ⟨t1, t2, t3, ?_⟩
    have eg : fgN 1 (.int (k : Int)) [Rl ns, s1, s2, s3] = some [Rl ns, .tr (.int (k : Int)), s2, s3] := by
      rcases h1 with rfl | ⟨d, rfl⟩
      · rfl
      · rfl
    simp only [loopF, eg, e, e2]
theorem l3_ok (A B X Y : Sl) : (l3 [A, B, X, Y]).map (fun p => flT p.1) = some true := by kernel_rfl
theorem math (ns : List Int) (hl : ns.length ≤ 63) : ∃ as', m_law [.tr (.rl (ns.map D.int))] = some (.bl true, as') := by
  obtain ⟨n, hn⟩ : ∃ n : Int, n = (if (if (ns.length : Int) < 8 then (ns.length : Int) else 8) > 1 then (if (ns.length : Int) < 8 then (ns.length : Int) else 8) else 1) := ⟨_, rfl⟩
  have hb : -(2 ^ 62) ≤ n ∧ n < 2 ^ 62 := by
    rw [hn]; split <;> (try split) <;> omega
  have e1 : l1 [Rl ns, .no, .no, .no] = some (rngD 0 n.toNat, [Rl ns, .no, .no, .no]) := by
    have c1 : gMin2 [.int 8, .int (ns.length : Int)] = some (.int (if (ns.length : Int) < 8 then (ns.length : Int) else 8)) := rfl
    have c2 : ∀ x : Int, gMax2 [.int 1, .int x] = some (.int (if x > 1 then x else 1)) := fun _ => rfl
    unfold l1
    simp only [defF, defN, back, fSeq, fNx, fAsg, fOp, fUn, fV, fC, fgN, fgT, fgsC, fgs0, fCB, fCons, fNil, fIfS, fB, fTru, fNot, fAnd, fOr, fAndV, fOrV, fNotV, fIf, fRet, fRetN, fDrop, fPar, fSetO, fIxO, fTup, fLst, fCall, fCallO, fCallS, fChain, fFor, fLc, fiA, fiR1, fIsi, fYes, D.tyN, List.getElem?_cons_zero, List.getElem?_cons_succ, List.set_cons_zero, List.set_cons_succ, List.length_cons, List.length_nil, List.length_set, List.length_append, List.length_replicate, List.cons_append, List.nil_append, List.replicate_succ, List.replicate_zero, List.map_cons, List.map_nil, List.mapIdx_cons, List.mapIdx_nil, Option.getD_some, ite_true, ite_false, if_true, if_false, reduceIte, reduceCtorEq, Nat.reduceAdd, Nat.reduceSub, Nat.reduceLT, Nat.reduceLeDiff, Nat.reduceEqDiff, Nat.zero_add, Nat.zero_lt_succ, Nat.lt_add_one, true_and, and_true, and_self, Bool.not_true, Bool.not_false, Nat.succ_ne_zero, dT, dF, e_add, e_sub, e_lt, e_gt, e_ge, e_le, e_int, e_abs, gl_rl, c1, c2, ← hn, if_pos hb]
  obtain ⟨s1, s2, s3, e2⟩ := loop_ok ns (rngD 0 n.toNat) (fun d hd => by
    unfold rngD at hd
    obtain ⟨i, _, rfl⟩ := List.mem_map.mp hd
    exact ⟨i, by rw [Int.zero_add]⟩) .no .no .no (.inl rfl) (.inl rfl) (.inl rfl)
  have e4 := l3_ok (Rl ns) s1 s2 s3
  cases e5 : l3 [Rl ns, s1, s2, s3] with
  | none => rw [e5] at e4; cases e4
  | some p =>
    obtain ⟨f, s'⟩ := p
    rw [e5] at e4
    have f1 := flT_of (Option.some.inj e4)
    subst f1
    have ed : ([Rl ns] ++ List.replicate (4 - 1) Sl.no : List Sl) = [Rl ns, .no, .no, .no] := rfl
    unfold m_law
    rw [b_law_eq]
    unfold defF
    rw [ed]
    simp only [fSeq, fFor, e1, e2, e5]
    exact ⟨_, rfl⟩
end K00
namespace K00
open PySem PySem.Spec PyProof.Rows L2 DL
/-! ### the end -/
theorem all_mk {l : PySem.W.OpenLaw} {w : World} {K : PySem.W.Frag} {h : Heap} {mg : Str → Option Value} {fa : Addr} (X : K.In h) (G : h.Ns mainGlobals mg) (hfa : mg "law" = some (.ref fa))
    {f0 : Addr} {od0 an0 : Option Addr} {sl0 : Array (Option Value)} {oc0 kV0 dc0 pm0 cd0 ct0 : Value} {f1 : Addr} {od1 an1 : Option Addr} {sl1 : Array (Option Value)} {oc1 kV1 dc1 pm1 cd1 ct1 : Value} {f2 : Addr} {od2 an2 : Option Addr} {sl2 : Array (Option Value)} {oc2 kV2 dc2 pm2 cd2 ct2 : Value} {f3 : Addr} {od3 an3 : Option Addr} {sl3 : Array (Option Value)} {oc3 kV3 dc3 pm3 cd3 ct3 : Value} {f4 : Addr} {od4 an4 : Option Addr} {sl4 : Array (Option Value)} {oc4 kV4 dc4 pm4 cd4 ct4 : Value} {f5 : Addr} {od5 an5 : Option Addr} {sl5 : Array (Option Value)} {oc5 kV5 dc5 pm5 cd5 ct5 : Value}
    (a0 : PySem.W.nsIn K mainGlobals "_law_dice" = some (some (.ref f0))) (l0 : K.lookup f0 = some ⟨oc0, od0, .func (PySem.W.fnOf "_law_dice" "_law_dice" (defArgs s_law_dice) (defBody s_law_dice) (defScope s_law_dice) .none kV0 dc0 pm0 an0 cd0 ct0), sl0⟩) (c0 : PySem.W.codeIn K cd0 "_law_dice" = true) (k0 : PySem.W.keepIn K (.ref f0) = true)
    (a1 : PySem.W.nsIn K mainGlobals "_law_kinds" = some (some (.ref f1))) (l1 : K.lookup f1 = some ⟨oc1, od1, .func (PySem.W.fnOf "_law_kinds" "_law_kinds" (defArgs s_law_kinds) (defBody s_law_kinds) (defScope s_law_kinds) .none kV1 dc1 pm1 an1 cd1 ct1), sl1⟩) (c1 : PySem.W.codeIn K cd1 "_law_kinds" = true) (k1 : PySem.W.keepIn K (.ref f1) = true)
    (a2 : PySem.W.nsIn K mainGlobals "_law_roll" = some (some (.ref f2))) (l2 : K.lookup f2 = some ⟨oc2, od2, .func (PySem.W.fnOf "_law_roll" "_law_roll" (defArgs s_law_roll) (defBody s_law_roll) (defScope s_law_roll) .none kV2 dc2 pm2 an2 cd2 ct2), sl2⟩) (c2 : PySem.W.codeIn K cd2 "_law_roll" = true) (k2 : PySem.W.keepIn K (.ref f2) = true)
    (a3 : PySem.W.nsIn K mainGlobals "_law_one_of" = some (some (.ref f3))) (l3 : K.lookup f3 = some ⟨oc3, od3, .func (PySem.W.fnOf "_law_one_of" "_law_one_of" (defArgs s_law_one_of) (defBody s_law_one_of) (defScope s_law_one_of) .none kV3 dc3 pm3 an3 cd3 ct3), sl3⟩) (c3 : PySem.W.codeIn K cd3 "_law_one_of" = true) (k3 : PySem.W.keepIn K (.ref f3) = true)
    (a4 : PySem.W.nsIn K mainGlobals "_law_right" = some (some (.ref f4))) (l4 : K.lookup f4 = some ⟨oc4, od4, .func (PySem.W.fnOf "_law_right" "_law_right" (defArgs s_law_right) (defBody s_law_right) (defScope s_law_right) .none kV4 dc4 pm4 an4 cd4 ct4), sl4⟩) (c4 : PySem.W.codeIn K cd4 "_law_right" = true) (k4 : PySem.W.keepIn K (.ref f4) = true)
    (a5 : PySem.W.nsIn K mainGlobals "law" = some (some (.ref f5))) (l5 : K.lookup f5 = some ⟨oc5, od5, .func (PySem.W.fnOf "law" "law" (defArgs s_law) (defBody s_law) (defScope s_law) .none kV5 dc5 pm5 an5 cd5 ct5), sl5⟩) (c5 : PySem.W.codeIn K cd5 "law" = true) (k5 : PySem.W.keepIn K (.ref f5) = true)
    (z0 : PySem.W.nsIn K mainGlobals "range" = some none)
    (z1 : PySem.W.nsIn K mainGlobals "max" = some none)
    (z2 : PySem.W.nsIn K mainGlobals "min" = some none)
    (z3 : PySem.W.nsIn K mainGlobals "len" = some none)
    (z4 : PySem.W.nsIn K mainGlobals "int" = some none)
    (z5 : PySem.W.nsIn K mainGlobals "abs" = some none)
    (z6 : PySem.W.nsIn K mainGlobals "repr" = some none)
    (z7 : PySem.W.nsIn K mainGlobals "isinstance" = some none)
    (z8 : PySem.W.nsIn K mainGlobals "OverflowError" = some none)
    (z9 : PySem.W.nsIn K mainGlobals "IndexError" = some none)
    (z10 : PySem.W.nsIn K mainGlobals "RuntimeError" = some none)
    (z11 : PySem.W.nsIn K mainGlobals "KeyError" = some none)
    (z12 : PySem.W.nsIn K mainGlobals "ArithmeticError" = some none)
    (z13 : PySem.W.nsIn K mainGlobals "ValueError" = some none)
    {Nc0 : Addr} {nmc0 qc0 : Str} {bsc0 subc0 : List Value} {snc0 : List Str} {abc0 : Bool} {colc0 : Option Bool} {ddc0 : Option Addr} {u0_0 u0_1 u0_2 u0_3 u0_5 : Option Value} {gt0 : Option Value}
    {cn0 : Value} {dn0 : Option Addr} {es0 : Array DictEntry} {ep0 : Nat} {slz0 : Array (Option Value)}
    {Nc1 : Addr} {nmc1 qc1 : Str} {bsc1 subc1 : List Value} {snc1 : List Str} {abc1 : Bool} {colc1 : Option Bool} {ddc1 : Option Addr} {u1_0 u1_1 u1_2 u1_3 u1_5 : Option Value} {gt1 : Option Value}
    {cn1 : Value} {dn1 : Option Addr} {es1 : Array DictEntry} {ep1 : Nat} {slz1 : Array (Option Value)}
    {Nc2 : Addr} {nmc2 qc2 : Str} {bsc2 subc2 : List Value} {snc2 : List Str} {abc2 : Bool} {colc2 : Option Bool} {ddc2 : Option Addr} {u2_0 u2_1 u2_2 u2_3 u2_5 : Option Value} {gt2 : Option Value}
    {cn2 : Value} {dn2 : Option Addr} {es2 : Array DictEntry} {ep2 : Nat} {slz2 : Array (Option Value)}
    {Nc3 : Addr} {nmc3 qc3 : Str} {bsc3 subc3 : List Value} {snc3 : List Str} {abc3 : Bool} {colc3 : Option Bool} {ddc3 : Option Addr} {u3_0 u3_1 u3_2 u3_3 u3_5 : Option Value} {gt3 : Option Value}
    {cn3 : Value} {dn3 : Option Addr} {es3 : Array DictEntry} {ep3 : Nat} {slz3 : Array (Option Value)}
    {Nc4 : Addr} {nmc4 qc4 : Str} {bsc4 subc4 : List Value} {snc4 : List Str} {abc4 : Bool} {colc4 : Option Bool} {ddc4 : Option Addr} {u4_0 u4_1 u4_2 u4_3 u4_5 : Option Value} {gt4 : Option Value}
    {cn4 : Value} {dn4 : Option Addr} {es4 : Array DictEntry} {ep4 : Nat} {slz4 : Array (Option Value)}
    {Nc5 : Addr} {nmc5 qc5 : Str} {bsc5 subc5 : List Value} {snc5 : List Str} {abc5 : Bool} {colc5 : Option Bool} {ddc5 : Option Addr} {u5_0 u5_1 u5_2 u5_3 u5_5 : Option Value} {gt5 : Option Value}
    {ini5 : Addr} {od_5 an_5 : Option Addr} {sl_5 : Array (Option Value)} {oc_5 kV_5 dc_5 pm_5 cd_5 ct_5 : Value}
    {Nc6 : Addr} {nmc6 qc6 : Str} {bsc6 subc6 : List Value} {snc6 : List Str} {abc6 : Bool} {colc6 : Option Bool} {ddc6 : Option Addr} {u6_0 u6_1 u6_2 u6_3 u6_5 : Option Value} {gt6 : Option Value}
    {ini6 : Addr} {od_6 an_6 : Option Addr} {sl_6 : Array (Option Value)} {oc_6 kV_6 dc_6 pm_6 cd_6 ct_6 : Value}
    {Nc7 : Addr} {nmc7 qc7 : Str} {bsc7 subc7 : List Value} {snc7 : List Str} {abc7 : Bool} {colc7 : Option Bool} {ddc7 : Option Addr} {u7_0 u7_1 u7_2 u7_3 u7_5 : Option Value} {gt7 : Option Value}
    {ini7 : Addr} {od_7 an_7 : Option Addr} {sl_7 : Array (Option Value)} {oc_7 kV_7 dc_7 pm_7 cd_7 ct_7 : Value}
    {Nc8 : Addr} {nmc8 qc8 : Str} {bsc8 subc8 : List Value} {snc8 : List Str} {abc8 : Bool} {colc8 : Option Bool} {ddc8 : Option Addr} {u8_0 u8_1 u8_2 u8_3 u8_5 : Option Value} {gt8 : Option Value}
    {ini8 : Addr} {od_8 an_8 : Option Addr} {sl_8 : Array (Option Value)} {oc_8 kV_8 dc_8 pm_8 cd_8 ct_8 : Value}
    {Nc9 : Addr} {nmc9 qc9 : Str} {bsc9 subc9 : List Value} {snc9 : List Str} {abc9 : Bool} {colc9 : Option Bool} {ddc9 : Option Addr} {u9_0 u9_1 u9_2 u9_3 u9_5 : Option Value} {gt9 : Option Value}
    {ini9 : Addr} {od_9 an_9 : Option Addr} {sl_9 : Array (Option Value)} {oc_9 kV_9 dc_9 pm_9 cd_9 ct_9 : Value}
    {Nc10 : Addr} {nmc10 qc10 : Str} {bsc10 subc10 : List Value} {snc10 : List Str} {abc10 : Bool} {colc10 : Option Bool} {ddc10 : Option Addr} {u10_0 u10_1 u10_2 u10_3 u10_5 : Option Value} {gt10 : Option Value}
    {ini10 : Addr} {od_10 an_10 : Option Addr} {sl_10 : Array (Option Value)} {oc_10 kV_10 dc_10 pm_10 cd_10 ct_10 : Value}
    (hx_g0 : PySem.W.nsIn K mainGlobals "NetError" = some (some (.ref (cl 0))))
    (hx_lc0 : K.lookup (cl 0) = some (excClassObj nmc0 qc0 (cl 0) Nc0 bsc0 [.type "ValueError", .type "Exception", .type "BaseException", .type "object"] true snc0 subc0 abc0 colc0 ddc0 u0_0 u0_1 u0_2 u0_3 u0_5 "ValueError.__new__"))
    (hx_kc0 : PySem.W.keepIn K (.ref (cl 0)) = true)
    (hx_x1_0 : PySem.W.isClsIn K (cl 0) = true)
    (hx_x2_0 : PySem.W.findIn K (.ref (cl 0)) "__getattribute__" = some (some (.builtin "BaseException.__getattribute__")))
    (hx_x3_0 : PySem.W.findIn K (.ref (cl 0)) "__getattr__" = some gt0)
    (hx_x4_0 : PySem.W.subIn K (.ref (cl 0)) (.type "BaseException") = some true)
    (hx_x5_0 : PySem.W.findIn K (.ref (cl 0)) "__class__" = some (some (.builtin "object.__class__")))
    (hx_x6_0 : PySem.W.mroIn K (cl 0) (.type "object") = some true)
    (hx_x7_0 : PySem.W.typeIn K (.ref (cl 0)) = some (.type "type"))
    (hx_q0_OverflowError : PySem.W.subIn K (.ref (cl 0)) (.type "OverflowError") = some false)
    (hx_q0_IndexError : PySem.W.subIn K (.ref (cl 0)) (.type "IndexError") = some false)
    (hx_q0_RuntimeError : PySem.W.subIn K (.ref (cl 0)) (.type "RuntimeError") = some false)
    (hx_q0_KeyError : PySem.W.subIn K (.ref (cl 0)) (.type "KeyError") = some false)
    (hx_q0_ArithmeticError : PySem.W.subIn K (.ref (cl 0)) (.type "ArithmeticError") = some false)
    (hx_q0_TooMany : PySem.W.subIn K (.ref (cl 0)) (.ref (cl 8)) = some false)
    (hx_q0_NothingToUndo : PySem.W.subIn K (.ref (cl 0)) (.ref (cl 9)) = some false)
    (hx_q0_Refused : PySem.W.subIn K (.ref (cl 0)) (.ref (cl 10)) = some false)
    (hx_q0_ValueError : PySem.W.subIn K (.ref (cl 0)) (.type "ValueError") = some true)
    (hx_q0_UnknownPlace : PySem.W.subIn K (.ref (cl 0)) (.ref (cl 6)) = some false)
    (hx_q0_InvalidNumber : PySem.W.subIn K (.ref (cl 0)) (.ref (cl 7)) = some false)
    (hx_q0_InvalidOperation : PySem.W.subIn K (.ref (cl 0)) (.ref (cl 4)) = some false)
    (hx_q0_ParseError : PySem.W.subIn K (.ref (cl 0)) (.ref (cl 5)) = some false)
    (hx_q0_NetError : PySem.W.subIn K (.ref (cl 0)) (.ref (cl 0)) = some true)
    (hx_q0_InvalidNet : PySem.W.subIn K (.ref (cl 0)) (.ref (cl 1)) = some false)
    (hx_q0_InvalidLot : PySem.W.subIn K (.ref (cl 0)) (.ref (cl 2)) = some false)
    (hx_q0_InvalidParting : PySem.W.subIn K (.ref (cl 0)) (.ref (cl 3)) = some false)
    (hx_ln0 : K.lookup Nc0 = some ⟨cn0, dn0, .dict es0 ep0, slz0⟩)
    (hx_he0 : strKeys es0 = true)
    (hx_ni0 : PySem.W.nsIn K Nc0 "__init__" = some none)
    (hx_g1 : PySem.W.nsIn K mainGlobals "InvalidNet" = some (some (.ref (cl 1))))
    (hx_lc1 : K.lookup (cl 1) = some (excClassObj nmc1 qc1 (cl 1) Nc1 bsc1 [.ref (cl 0), .type "ValueError", .type "Exception", .type "BaseException", .type "object"] true snc1 subc1 abc1 colc1 ddc1 u1_0 u1_1 u1_2 u1_3 u1_5 "ValueError.__new__"))
    (hx_kc1 : PySem.W.keepIn K (.ref (cl 1)) = true)
    (hx_x1_1 : PySem.W.isClsIn K (cl 1) = true)
    (hx_x2_1 : PySem.W.findIn K (.ref (cl 1)) "__getattribute__" = some (some (.builtin "BaseException.__getattribute__")))
    (hx_x3_1 : PySem.W.findIn K (.ref (cl 1)) "__getattr__" = some gt1)
    (hx_x4_1 : PySem.W.subIn K (.ref (cl 1)) (.type "BaseException") = some true)
    (hx_x5_1 : PySem.W.findIn K (.ref (cl 1)) "__class__" = some (some (.builtin "object.__class__")))
    (hx_x6_1 : PySem.W.mroIn K (cl 1) (.type "object") = some true)
    (hx_x7_1 : PySem.W.typeIn K (.ref (cl 1)) = some (.type "type"))
    (hx_q1_OverflowError : PySem.W.subIn K (.ref (cl 1)) (.type "OverflowError") = some false)
    (hx_q1_IndexError : PySem.W.subIn K (.ref (cl 1)) (.type "IndexError") = some false)
    (hx_q1_RuntimeError : PySem.W.subIn K (.ref (cl 1)) (.type "RuntimeError") = some false)
    (hx_q1_KeyError : PySem.W.subIn K (.ref (cl 1)) (.type "KeyError") = some false)
    (hx_q1_ArithmeticError : PySem.W.subIn K (.ref (cl 1)) (.type "ArithmeticError") = some false)
    (hx_q1_TooMany : PySem.W.subIn K (.ref (cl 1)) (.ref (cl 8)) = some false)
    (hx_q1_NothingToUndo : PySem.W.subIn K (.ref (cl 1)) (.ref (cl 9)) = some false)
    (hx_q1_Refused : PySem.W.subIn K (.ref (cl 1)) (.ref (cl 10)) = some false)
    (hx_q1_ValueError : PySem.W.subIn K (.ref (cl 1)) (.type "ValueError") = some true)
    (hx_q1_UnknownPlace : PySem.W.subIn K (.ref (cl 1)) (.ref (cl 6)) = some false)
    (hx_q1_InvalidNumber : PySem.W.subIn K (.ref (cl 1)) (.ref (cl 7)) = some false)
    (hx_q1_InvalidOperation : PySem.W.subIn K (.ref (cl 1)) (.ref (cl 4)) = some false)
    (hx_q1_ParseError : PySem.W.subIn K (.ref (cl 1)) (.ref (cl 5)) = some false)
    (hx_q1_NetError : PySem.W.subIn K (.ref (cl 1)) (.ref (cl 0)) = some true)
    (hx_q1_InvalidNet : PySem.W.subIn K (.ref (cl 1)) (.ref (cl 1)) = some true)
    (hx_q1_InvalidLot : PySem.W.subIn K (.ref (cl 1)) (.ref (cl 2)) = some false)
    (hx_q1_InvalidParting : PySem.W.subIn K (.ref (cl 1)) (.ref (cl 3)) = some false)
    (hx_ln1 : K.lookup Nc1 = some ⟨cn1, dn1, .dict es1 ep1, slz1⟩)
    (hx_he1 : strKeys es1 = true)
    (hx_ni1 : PySem.W.nsIn K Nc1 "__init__" = some none)
    (hx_g2 : PySem.W.nsIn K mainGlobals "InvalidLot" = some (some (.ref (cl 2))))
    (hx_lc2 : K.lookup (cl 2) = some (excClassObj nmc2 qc2 (cl 2) Nc2 bsc2 [.ref (cl 0), .type "ValueError", .type "Exception", .type "BaseException", .type "object"] true snc2 subc2 abc2 colc2 ddc2 u2_0 u2_1 u2_2 u2_3 u2_5 "ValueError.__new__"))
    (hx_kc2 : PySem.W.keepIn K (.ref (cl 2)) = true)
    (hx_x1_2 : PySem.W.isClsIn K (cl 2) = true)
    (hx_x2_2 : PySem.W.findIn K (.ref (cl 2)) "__getattribute__" = some (some (.builtin "BaseException.__getattribute__")))
    (hx_x3_2 : PySem.W.findIn K (.ref (cl 2)) "__getattr__" = some gt2)
    (hx_x4_2 : PySem.W.subIn K (.ref (cl 2)) (.type "BaseException") = some true)
    (hx_x5_2 : PySem.W.findIn K (.ref (cl 2)) "__class__" = some (some (.builtin "object.__class__")))
    (hx_x6_2 : PySem.W.mroIn K (cl 2) (.type "object") = some true)
    (hx_x7_2 : PySem.W.typeIn K (.ref (cl 2)) = some (.type "type"))
    (hx_q2_OverflowError : PySem.W.subIn K (.ref (cl 2)) (.type "OverflowError") = some false)
    (hx_q2_IndexError : PySem.W.subIn K (.ref (cl 2)) (.type "IndexError") = some false)
    (hx_q2_RuntimeError : PySem.W.subIn K (.ref (cl 2)) (.type "RuntimeError") = some false)
    (hx_q2_KeyError : PySem.W.subIn K (.ref (cl 2)) (.type "KeyError") = some false)
    (hx_q2_ArithmeticError : PySem.W.subIn K (.ref (cl 2)) (.type "ArithmeticError") = some false)
    (hx_q2_TooMany : PySem.W.subIn K (.ref (cl 2)) (.ref (cl 8)) = some false)
    (hx_q2_NothingToUndo : PySem.W.subIn K (.ref (cl 2)) (.ref (cl 9)) = some false)
    (hx_q2_Refused : PySem.W.subIn K (.ref (cl 2)) (.ref (cl 10)) = some false)
    (hx_q2_ValueError : PySem.W.subIn K (.ref (cl 2)) (.type "ValueError") = some true)
    (hx_q2_UnknownPlace : PySem.W.subIn K (.ref (cl 2)) (.ref (cl 6)) = some false)
    (hx_q2_InvalidNumber : PySem.W.subIn K (.ref (cl 2)) (.ref (cl 7)) = some false)
    (hx_q2_InvalidOperation : PySem.W.subIn K (.ref (cl 2)) (.ref (cl 4)) = some false)
    (hx_q2_ParseError : PySem.W.subIn K (.ref (cl 2)) (.ref (cl 5)) = some false)
    (hx_q2_NetError : PySem.W.subIn K (.ref (cl 2)) (.ref (cl 0)) = some true)
    (hx_q2_InvalidNet : PySem.W.subIn K (.ref (cl 2)) (.ref (cl 1)) = some false)
    (hx_q2_InvalidLot : PySem.W.subIn K (.ref (cl 2)) (.ref (cl 2)) = some true)
    (hx_q2_InvalidParting : PySem.W.subIn K (.ref (cl 2)) (.ref (cl 3)) = some false)
    (hx_ln2 : K.lookup Nc2 = some ⟨cn2, dn2, .dict es2 ep2, slz2⟩)
    (hx_he2 : strKeys es2 = true)
    (hx_ni2 : PySem.W.nsIn K Nc2 "__init__" = some none)
    (hx_g3 : PySem.W.nsIn K mainGlobals "InvalidParting" = some (some (.ref (cl 3))))
    (hx_lc3 : K.lookup (cl 3) = some (excClassObj nmc3 qc3 (cl 3) Nc3 bsc3 [.ref (cl 0), .type "ValueError", .type "Exception", .type "BaseException", .type "object"] true snc3 subc3 abc3 colc3 ddc3 u3_0 u3_1 u3_2 u3_3 u3_5 "ValueError.__new__"))
    (hx_kc3 : PySem.W.keepIn K (.ref (cl 3)) = true)
    (hx_x1_3 : PySem.W.isClsIn K (cl 3) = true)
    (hx_x2_3 : PySem.W.findIn K (.ref (cl 3)) "__getattribute__" = some (some (.builtin "BaseException.__getattribute__")))
    (hx_x3_3 : PySem.W.findIn K (.ref (cl 3)) "__getattr__" = some gt3)
    (hx_x4_3 : PySem.W.subIn K (.ref (cl 3)) (.type "BaseException") = some true)
    (hx_x5_3 : PySem.W.findIn K (.ref (cl 3)) "__class__" = some (some (.builtin "object.__class__")))
    (hx_x6_3 : PySem.W.mroIn K (cl 3) (.type "object") = some true)
    (hx_x7_3 : PySem.W.typeIn K (.ref (cl 3)) = some (.type "type"))
    (hx_q3_OverflowError : PySem.W.subIn K (.ref (cl 3)) (.type "OverflowError") = some false)
    (hx_q3_IndexError : PySem.W.subIn K (.ref (cl 3)) (.type "IndexError") = some false)
    (hx_q3_RuntimeError : PySem.W.subIn K (.ref (cl 3)) (.type "RuntimeError") = some false)
    (hx_q3_KeyError : PySem.W.subIn K (.ref (cl 3)) (.type "KeyError") = some false)
    (hx_q3_ArithmeticError : PySem.W.subIn K (.ref (cl 3)) (.type "ArithmeticError") = some false)
    (hx_q3_TooMany : PySem.W.subIn K (.ref (cl 3)) (.ref (cl 8)) = some false)
    (hx_q3_NothingToUndo : PySem.W.subIn K (.ref (cl 3)) (.ref (cl 9)) = some false)
    (hx_q3_Refused : PySem.W.subIn K (.ref (cl 3)) (.ref (cl 10)) = some false)
    (hx_q3_ValueError : PySem.W.subIn K (.ref (cl 3)) (.type "ValueError") = some true)
    (hx_q3_UnknownPlace : PySem.W.subIn K (.ref (cl 3)) (.ref (cl 6)) = some false)
    (hx_q3_InvalidNumber : PySem.W.subIn K (.ref (cl 3)) (.ref (cl 7)) = some false)
    (hx_q3_InvalidOperation : PySem.W.subIn K (.ref (cl 3)) (.ref (cl 4)) = some false)
    (hx_q3_ParseError : PySem.W.subIn K (.ref (cl 3)) (.ref (cl 5)) = some false)
    (hx_q3_NetError : PySem.W.subIn K (.ref (cl 3)) (.ref (cl 0)) = some true)
    (hx_q3_InvalidNet : PySem.W.subIn K (.ref (cl 3)) (.ref (cl 1)) = some false)
    (hx_q3_InvalidLot : PySem.W.subIn K (.ref (cl 3)) (.ref (cl 2)) = some false)
    (hx_q3_InvalidParting : PySem.W.subIn K (.ref (cl 3)) (.ref (cl 3)) = some true)
    (hx_ln3 : K.lookup Nc3 = some ⟨cn3, dn3, .dict es3 ep3, slz3⟩)
    (hx_he3 : strKeys es3 = true)
    (hx_ni3 : PySem.W.nsIn K Nc3 "__init__" = some none)
    (hx_g4 : PySem.W.nsIn K mainGlobals "InvalidOperation" = some (some (.ref (cl 4))))
    (hx_lc4 : K.lookup (cl 4) = some (excClassObj nmc4 qc4 (cl 4) Nc4 bsc4 [.ref (cl 0), .type "ValueError", .type "Exception", .type "BaseException", .type "object"] true snc4 subc4 abc4 colc4 ddc4 u4_0 u4_1 u4_2 u4_3 u4_5 "ValueError.__new__"))
    (hx_kc4 : PySem.W.keepIn K (.ref (cl 4)) = true)
    (hx_x1_4 : PySem.W.isClsIn K (cl 4) = true)
    (hx_x2_4 : PySem.W.findIn K (.ref (cl 4)) "__getattribute__" = some (some (.builtin "BaseException.__getattribute__")))
    (hx_x3_4 : PySem.W.findIn K (.ref (cl 4)) "__getattr__" = some gt4)
    (hx_x4_4 : PySem.W.subIn K (.ref (cl 4)) (.type "BaseException") = some true)
    (hx_x5_4 : PySem.W.findIn K (.ref (cl 4)) "__class__" = some (some (.builtin "object.__class__")))
    (hx_x6_4 : PySem.W.mroIn K (cl 4) (.type "object") = some true)
    (hx_x7_4 : PySem.W.typeIn K (.ref (cl 4)) = some (.type "type"))
    (hx_q4_OverflowError : PySem.W.subIn K (.ref (cl 4)) (.type "OverflowError") = some false)
    (hx_q4_IndexError : PySem.W.subIn K (.ref (cl 4)) (.type "IndexError") = some false)
    (hx_q4_RuntimeError : PySem.W.subIn K (.ref (cl 4)) (.type "RuntimeError") = some false)
    (hx_q4_KeyError : PySem.W.subIn K (.ref (cl 4)) (.type "KeyError") = some false)
    (hx_q4_ArithmeticError : PySem.W.subIn K (.ref (cl 4)) (.type "ArithmeticError") = some false)
    (hx_q4_TooMany : PySem.W.subIn K (.ref (cl 4)) (.ref (cl 8)) = some false)
    (hx_q4_NothingToUndo : PySem.W.subIn K (.ref (cl 4)) (.ref (cl 9)) = some false)
    (hx_q4_Refused : PySem.W.subIn K (.ref (cl 4)) (.ref (cl 10)) = some false)
    (hx_q4_ValueError : PySem.W.subIn K (.ref (cl 4)) (.type "ValueError") = some true)
    (hx_q4_UnknownPlace : PySem.W.subIn K (.ref (cl 4)) (.ref (cl 6)) = some false)
    (hx_q4_InvalidNumber : PySem.W.subIn K (.ref (cl 4)) (.ref (cl 7)) = some false)
    (hx_q4_InvalidOperation : PySem.W.subIn K (.ref (cl 4)) (.ref (cl 4)) = some true)
    (hx_q4_ParseError : PySem.W.subIn K (.ref (cl 4)) (.ref (cl 5)) = some false)
    (hx_q4_NetError : PySem.W.subIn K (.ref (cl 4)) (.ref (cl 0)) = some true)
    (hx_q4_InvalidNet : PySem.W.subIn K (.ref (cl 4)) (.ref (cl 1)) = some false)
    (hx_q4_InvalidLot : PySem.W.subIn K (.ref (cl 4)) (.ref (cl 2)) = some false)
    (hx_q4_InvalidParting : PySem.W.subIn K (.ref (cl 4)) (.ref (cl 3)) = some false)
    (hx_ln4 : K.lookup Nc4 = some ⟨cn4, dn4, .dict es4 ep4, slz4⟩)
    (hx_he4 : strKeys es4 = true)
    (hx_ni4 : PySem.W.nsIn K Nc4 "__init__" = some none)
    (hx_g5 : PySem.W.nsIn K mainGlobals "ParseError" = some (some (.ref (cl 5))))
    (hx_lc5 : K.lookup (cl 5) = some (excClassObj nmc5 qc5 (cl 5) Nc5 bsc5 [.ref (cl 0), .type "ValueError", .type "Exception", .type "BaseException", .type "object"] true snc5 subc5 abc5 colc5 ddc5 u5_0 u5_1 u5_2 u5_3 u5_5 "ValueError.__new__"))
    (hx_kc5 : PySem.W.keepIn K (.ref (cl 5)) = true)
    (hx_x1_5 : PySem.W.isClsIn K (cl 5) = true)
    (hx_x2_5 : PySem.W.findIn K (.ref (cl 5)) "__getattribute__" = some (some (.builtin "BaseException.__getattribute__")))
    (hx_x3_5 : PySem.W.findIn K (.ref (cl 5)) "__getattr__" = some gt5)
    (hx_x4_5 : PySem.W.subIn K (.ref (cl 5)) (.type "BaseException") = some true)
    (hx_x5_5 : PySem.W.findIn K (.ref (cl 5)) "__class__" = some (some (.builtin "object.__class__")))
    (hx_x6_5 : PySem.W.mroIn K (cl 5) (.type "object") = some true)
    (hx_x7_5 : PySem.W.typeIn K (.ref (cl 5)) = some (.type "type"))
    (hx_q5_OverflowError : PySem.W.subIn K (.ref (cl 5)) (.type "OverflowError") = some false)
    (hx_q5_IndexError : PySem.W.subIn K (.ref (cl 5)) (.type "IndexError") = some false)
    (hx_q5_RuntimeError : PySem.W.subIn K (.ref (cl 5)) (.type "RuntimeError") = some false)
    (hx_q5_KeyError : PySem.W.subIn K (.ref (cl 5)) (.type "KeyError") = some false)
    (hx_q5_ArithmeticError : PySem.W.subIn K (.ref (cl 5)) (.type "ArithmeticError") = some false)
    (hx_q5_TooMany : PySem.W.subIn K (.ref (cl 5)) (.ref (cl 8)) = some false)
    (hx_q5_NothingToUndo : PySem.W.subIn K (.ref (cl 5)) (.ref (cl 9)) = some false)
    (hx_q5_Refused : PySem.W.subIn K (.ref (cl 5)) (.ref (cl 10)) = some false)
    (hx_q5_ValueError : PySem.W.subIn K (.ref (cl 5)) (.type "ValueError") = some true)
    (hx_q5_UnknownPlace : PySem.W.subIn K (.ref (cl 5)) (.ref (cl 6)) = some false)
    (hx_q5_InvalidNumber : PySem.W.subIn K (.ref (cl 5)) (.ref (cl 7)) = some false)
    (hx_q5_InvalidOperation : PySem.W.subIn K (.ref (cl 5)) (.ref (cl 4)) = some false)
    (hx_q5_ParseError : PySem.W.subIn K (.ref (cl 5)) (.ref (cl 5)) = some true)
    (hx_q5_NetError : PySem.W.subIn K (.ref (cl 5)) (.ref (cl 0)) = some true)
    (hx_q5_InvalidNet : PySem.W.subIn K (.ref (cl 5)) (.ref (cl 1)) = some false)
    (hx_q5_InvalidLot : PySem.W.subIn K (.ref (cl 5)) (.ref (cl 2)) = some false)
    (hx_q5_InvalidParting : PySem.W.subIn K (.ref (cl 5)) (.ref (cl 3)) = some false)
    (hx_sa5 : PySem.W.findIn K (.ref (cl 5)) "__setattr__" = some (some (.builtin "object.__setattr__")))
    (hx_ii5 : PySem.W.findIn K (.ref (cl 5)) "__init__" = some (some (.ref ini5)))
    (hx_ti5 : PySem.W.typeIn K (.ref ini5) = some (.type "function"))
    (hx_li5 : K.lookup ini5 = some ⟨oc_5, od_5, .func (PySem.W.fnOf "__init__" "ParseError.__init__" (defArgs s_init_ParseError) (defBody s_init_ParseError) (defScope s_init_ParseError) .none kV_5 dc_5 pm_5 an_5 cd_5 ct_5), sl_5⟩)
    (hx_ci5 : PySem.W.codeIn K cd_5 "ParseError.__init__" = true)
    (hx_ki5 : PySem.W.keepIn K (.ref ini5) = true)
    (hx_no5 : PySem.W.findIn K (.ref (cl 5)) "line" = some none)
    (hx_rd5 : PySem.W.readsIn K (cl 0) (.type "type") = true)
    (hx_ra5 : PySem.W.specialIn K (.ref (cl 0)) "__getattribute__" = some (some (.builtin "type.__getattribute__")))
    (hx_va5 : PySem.W.findCls K (.ref (cl 0)) (.type "type") "__init__" = some (.val (.builtin "ValueError.__init__")))
    (hx_g6 : PySem.W.nsIn K mainGlobals "UnknownPlace" = some (some (.ref (cl 6))))
    (hx_lc6 : K.lookup (cl 6) = some (excClassObj nmc6 qc6 (cl 6) Nc6 bsc6 [.type "KeyError", .type "LookupError", .type "Exception", .type "BaseException", .type "object"] true snc6 subc6 abc6 colc6 ddc6 u6_0 u6_1 u6_2 u6_3 u6_5 "LookupError.__new__"))
    (hx_kc6 : PySem.W.keepIn K (.ref (cl 6)) = true)
    (hx_x1_6 : PySem.W.isClsIn K (cl 6) = true)
    (hx_x2_6 : PySem.W.findIn K (.ref (cl 6)) "__getattribute__" = some (some (.builtin "BaseException.__getattribute__")))
    (hx_x3_6 : PySem.W.findIn K (.ref (cl 6)) "__getattr__" = some gt6)
    (hx_x4_6 : PySem.W.subIn K (.ref (cl 6)) (.type "BaseException") = some true)
    (hx_x5_6 : PySem.W.findIn K (.ref (cl 6)) "__class__" = some (some (.builtin "object.__class__")))
    (hx_x6_6 : PySem.W.mroIn K (cl 6) (.type "object") = some true)
    (hx_x7_6 : PySem.W.typeIn K (.ref (cl 6)) = some (.type "type"))
    (hx_q6_OverflowError : PySem.W.subIn K (.ref (cl 6)) (.type "OverflowError") = some false)
    (hx_q6_IndexError : PySem.W.subIn K (.ref (cl 6)) (.type "IndexError") = some false)
    (hx_q6_RuntimeError : PySem.W.subIn K (.ref (cl 6)) (.type "RuntimeError") = some false)
    (hx_q6_KeyError : PySem.W.subIn K (.ref (cl 6)) (.type "KeyError") = some true)
    (hx_q6_ArithmeticError : PySem.W.subIn K (.ref (cl 6)) (.type "ArithmeticError") = some false)
    (hx_q6_TooMany : PySem.W.subIn K (.ref (cl 6)) (.ref (cl 8)) = some false)
    (hx_q6_NothingToUndo : PySem.W.subIn K (.ref (cl 6)) (.ref (cl 9)) = some false)
    (hx_q6_Refused : PySem.W.subIn K (.ref (cl 6)) (.ref (cl 10)) = some false)
    (hx_q6_ValueError : PySem.W.subIn K (.ref (cl 6)) (.type "ValueError") = some false)
    (hx_q6_UnknownPlace : PySem.W.subIn K (.ref (cl 6)) (.ref (cl 6)) = some true)
    (hx_q6_InvalidNumber : PySem.W.subIn K (.ref (cl 6)) (.ref (cl 7)) = some false)
    (hx_q6_InvalidOperation : PySem.W.subIn K (.ref (cl 6)) (.ref (cl 4)) = some false)
    (hx_q6_ParseError : PySem.W.subIn K (.ref (cl 6)) (.ref (cl 5)) = some false)
    (hx_q6_NetError : PySem.W.subIn K (.ref (cl 6)) (.ref (cl 0)) = some false)
    (hx_q6_InvalidNet : PySem.W.subIn K (.ref (cl 6)) (.ref (cl 1)) = some false)
    (hx_q6_InvalidLot : PySem.W.subIn K (.ref (cl 6)) (.ref (cl 2)) = some false)
    (hx_q6_InvalidParting : PySem.W.subIn K (.ref (cl 6)) (.ref (cl 3)) = some false)
    (hx_sa6 : PySem.W.findIn K (.ref (cl 6)) "__setattr__" = some (some (.builtin "object.__setattr__")))
    (hx_ii6 : PySem.W.findIn K (.ref (cl 6)) "__init__" = some (some (.ref ini6)))
    (hx_ti6 : PySem.W.typeIn K (.ref ini6) = some (.type "function"))
    (hx_li6 : K.lookup ini6 = some ⟨oc_6, od_6, .func (PySem.W.fnOf "__init__" "UnknownPlace.__init__" (defArgs s_init_UnknownPlace) (defBody s_init_UnknownPlace) (defScope s_init_UnknownPlace) .none kV_6 dc_6 pm_6 an_6 cd_6 ct_6), sl_6⟩)
    (hx_ci6 : PySem.W.codeIn K cd_6 "UnknownPlace.__init__" = true)
    (hx_ki6 : PySem.W.keepIn K (.ref ini6) = true)
    (hx_no6 : PySem.W.findIn K (.ref (cl 6)) "place" = some none)
    (hx_va6 : PySem.W.findCls K (.type "KeyError") (.type "type") "__init__" = some (.val (.builtin "KeyError.__init__")))
    (hx_g7 : PySem.W.nsIn K mainGlobals "InvalidNumber" = some (some (.ref (cl 7))))
    (hx_lc7 : K.lookup (cl 7) = some (excClassObj nmc7 qc7 (cl 7) Nc7 bsc7 [.type "ArithmeticError", .type "Exception", .type "BaseException", .type "object"] true snc7 subc7 abc7 colc7 ddc7 u7_0 u7_1 u7_2 u7_3 u7_5 "ArithmeticError.__new__"))
    (hx_kc7 : PySem.W.keepIn K (.ref (cl 7)) = true)
    (hx_x1_7 : PySem.W.isClsIn K (cl 7) = true)
    (hx_x2_7 : PySem.W.findIn K (.ref (cl 7)) "__getattribute__" = some (some (.builtin "BaseException.__getattribute__")))
    (hx_x3_7 : PySem.W.findIn K (.ref (cl 7)) "__getattr__" = some gt7)
    (hx_x4_7 : PySem.W.subIn K (.ref (cl 7)) (.type "BaseException") = some true)
    (hx_x5_7 : PySem.W.findIn K (.ref (cl 7)) "__class__" = some (some (.builtin "object.__class__")))
    (hx_x6_7 : PySem.W.mroIn K (cl 7) (.type "object") = some true)
    (hx_x7_7 : PySem.W.typeIn K (.ref (cl 7)) = some (.type "type"))
    (hx_q7_OverflowError : PySem.W.subIn K (.ref (cl 7)) (.type "OverflowError") = some false)
    (hx_q7_IndexError : PySem.W.subIn K (.ref (cl 7)) (.type "IndexError") = some false)
    (hx_q7_RuntimeError : PySem.W.subIn K (.ref (cl 7)) (.type "RuntimeError") = some false)
    (hx_q7_KeyError : PySem.W.subIn K (.ref (cl 7)) (.type "KeyError") = some false)
    (hx_q7_ArithmeticError : PySem.W.subIn K (.ref (cl 7)) (.type "ArithmeticError") = some true)
    (hx_q7_TooMany : PySem.W.subIn K (.ref (cl 7)) (.ref (cl 8)) = some false)
    (hx_q7_NothingToUndo : PySem.W.subIn K (.ref (cl 7)) (.ref (cl 9)) = some false)
    (hx_q7_Refused : PySem.W.subIn K (.ref (cl 7)) (.ref (cl 10)) = some false)
    (hx_q7_ValueError : PySem.W.subIn K (.ref (cl 7)) (.type "ValueError") = some false)
    (hx_q7_UnknownPlace : PySem.W.subIn K (.ref (cl 7)) (.ref (cl 6)) = some false)
    (hx_q7_InvalidNumber : PySem.W.subIn K (.ref (cl 7)) (.ref (cl 7)) = some true)
    (hx_q7_InvalidOperation : PySem.W.subIn K (.ref (cl 7)) (.ref (cl 4)) = some false)
    (hx_q7_ParseError : PySem.W.subIn K (.ref (cl 7)) (.ref (cl 5)) = some false)
    (hx_q7_NetError : PySem.W.subIn K (.ref (cl 7)) (.ref (cl 0)) = some false)
    (hx_q7_InvalidNet : PySem.W.subIn K (.ref (cl 7)) (.ref (cl 1)) = some false)
    (hx_q7_InvalidLot : PySem.W.subIn K (.ref (cl 7)) (.ref (cl 2)) = some false)
    (hx_q7_InvalidParting : PySem.W.subIn K (.ref (cl 7)) (.ref (cl 3)) = some false)
    (hx_sa7 : PySem.W.findIn K (.ref (cl 7)) "__setattr__" = some (some (.builtin "object.__setattr__")))
    (hx_ii7 : PySem.W.findIn K (.ref (cl 7)) "__init__" = some (some (.ref ini7)))
    (hx_ti7 : PySem.W.typeIn K (.ref ini7) = some (.type "function"))
    (hx_li7 : K.lookup ini7 = some ⟨oc_7, od_7, .func (PySem.W.fnOf "__init__" "InvalidNumber.__init__" (defArgs s_init_InvalidNumber) (defBody s_init_InvalidNumber) (defScope s_init_InvalidNumber) .none kV_7 dc_7 pm_7 an_7 cd_7 ct_7), sl_7⟩)
    (hx_ci7 : PySem.W.codeIn K cd_7 "InvalidNumber.__init__" = true)
    (hx_ki7 : PySem.W.keepIn K (.ref ini7) = true)
    (hx_no7 : PySem.W.findIn K (.ref (cl 7)) "value" = some none)
    (hx_va7 : PySem.W.findCls K (.type "ArithmeticError") (.type "type") "__init__" = some (.val (.builtin "ArithmeticError.__init__")))
    (hx_g8 : PySem.W.nsIn K mainGlobals "TooMany" = some (some (.ref (cl 8))))
    (hx_lc8 : K.lookup (cl 8) = some (excClassObj nmc8 qc8 (cl 8) Nc8 bsc8 [.type "OverflowError", .type "ArithmeticError", .type "Exception", .type "BaseException", .type "object"] true snc8 subc8 abc8 colc8 ddc8 u8_0 u8_1 u8_2 u8_3 u8_5 "OverflowError.__new__"))
    (hx_kc8 : PySem.W.keepIn K (.ref (cl 8)) = true)
    (hx_x1_8 : PySem.W.isClsIn K (cl 8) = true)
    (hx_x2_8 : PySem.W.findIn K (.ref (cl 8)) "__getattribute__" = some (some (.builtin "BaseException.__getattribute__")))
    (hx_x3_8 : PySem.W.findIn K (.ref (cl 8)) "__getattr__" = some gt8)
    (hx_x4_8 : PySem.W.subIn K (.ref (cl 8)) (.type "BaseException") = some true)
    (hx_x5_8 : PySem.W.findIn K (.ref (cl 8)) "__class__" = some (some (.builtin "object.__class__")))
    (hx_x6_8 : PySem.W.mroIn K (cl 8) (.type "object") = some true)
    (hx_x7_8 : PySem.W.typeIn K (.ref (cl 8)) = some (.type "type"))
    (hx_q8_OverflowError : PySem.W.subIn K (.ref (cl 8)) (.type "OverflowError") = some true)
    (hx_q8_IndexError : PySem.W.subIn K (.ref (cl 8)) (.type "IndexError") = some false)
    (hx_q8_RuntimeError : PySem.W.subIn K (.ref (cl 8)) (.type "RuntimeError") = some false)
    (hx_q8_KeyError : PySem.W.subIn K (.ref (cl 8)) (.type "KeyError") = some false)
    (hx_q8_ArithmeticError : PySem.W.subIn K (.ref (cl 8)) (.type "ArithmeticError") = some true)
    (hx_q8_TooMany : PySem.W.subIn K (.ref (cl 8)) (.ref (cl 8)) = some true)
    (hx_q8_NothingToUndo : PySem.W.subIn K (.ref (cl 8)) (.ref (cl 9)) = some false)
    (hx_q8_Refused : PySem.W.subIn K (.ref (cl 8)) (.ref (cl 10)) = some false)
    (hx_q8_ValueError : PySem.W.subIn K (.ref (cl 8)) (.type "ValueError") = some false)
    (hx_q8_UnknownPlace : PySem.W.subIn K (.ref (cl 8)) (.ref (cl 6)) = some false)
    (hx_q8_InvalidNumber : PySem.W.subIn K (.ref (cl 8)) (.ref (cl 7)) = some false)
    (hx_q8_InvalidOperation : PySem.W.subIn K (.ref (cl 8)) (.ref (cl 4)) = some false)
    (hx_q8_ParseError : PySem.W.subIn K (.ref (cl 8)) (.ref (cl 5)) = some false)
    (hx_q8_NetError : PySem.W.subIn K (.ref (cl 8)) (.ref (cl 0)) = some false)
    (hx_q8_InvalidNet : PySem.W.subIn K (.ref (cl 8)) (.ref (cl 1)) = some false)
    (hx_q8_InvalidLot : PySem.W.subIn K (.ref (cl 8)) (.ref (cl 2)) = some false)
    (hx_q8_InvalidParting : PySem.W.subIn K (.ref (cl 8)) (.ref (cl 3)) = some false)
    (hx_sa8 : PySem.W.findIn K (.ref (cl 8)) "__setattr__" = some (some (.builtin "object.__setattr__")))
    (hx_ii8 : PySem.W.findIn K (.ref (cl 8)) "__init__" = some (some (.ref ini8)))
    (hx_ti8 : PySem.W.typeIn K (.ref ini8) = some (.type "function"))
    (hx_li8 : K.lookup ini8 = some ⟨oc_8, od_8, .func (PySem.W.fnOf "__init__" "TooMany.__init__" (defArgs s_init_TooMany) (defBody s_init_TooMany) (defScope s_init_TooMany) .none kV_8 dc_8 pm_8 an_8 cd_8 ct_8), sl_8⟩)
    (hx_ci8 : PySem.W.codeIn K cd_8 "TooMany.__init__" = true)
    (hx_ki8 : PySem.W.keepIn K (.ref ini8) = true)
    (hx_no8 : PySem.W.findIn K (.ref (cl 8)) "limit" = some none)
    (hx_va8 : PySem.W.findCls K (.type "OverflowError") (.type "type") "__init__" = some (.val (.builtin "OverflowError.__init__")))
    (hx_g9 : PySem.W.nsIn K mainGlobals "NothingToUndo" = some (some (.ref (cl 9))))
    (hx_lc9 : K.lookup (cl 9) = some (excClassObj nmc9 qc9 (cl 9) Nc9 bsc9 [.type "IndexError", .type "LookupError", .type "Exception", .type "BaseException", .type "object"] true snc9 subc9 abc9 colc9 ddc9 u9_0 u9_1 u9_2 u9_3 u9_5 "IndexError.__new__"))
    (hx_kc9 : PySem.W.keepIn K (.ref (cl 9)) = true)
    (hx_x1_9 : PySem.W.isClsIn K (cl 9) = true)
    (hx_x2_9 : PySem.W.findIn K (.ref (cl 9)) "__getattribute__" = some (some (.builtin "BaseException.__getattribute__")))
    (hx_x3_9 : PySem.W.findIn K (.ref (cl 9)) "__getattr__" = some gt9)
    (hx_x4_9 : PySem.W.subIn K (.ref (cl 9)) (.type "BaseException") = some true)
    (hx_x5_9 : PySem.W.findIn K (.ref (cl 9)) "__class__" = some (some (.builtin "object.__class__")))
    (hx_x6_9 : PySem.W.mroIn K (cl 9) (.type "object") = some true)
    (hx_x7_9 : PySem.W.typeIn K (.ref (cl 9)) = some (.type "type"))
    (hx_q9_OverflowError : PySem.W.subIn K (.ref (cl 9)) (.type "OverflowError") = some false)
    (hx_q9_IndexError : PySem.W.subIn K (.ref (cl 9)) (.type "IndexError") = some true)
    (hx_q9_RuntimeError : PySem.W.subIn K (.ref (cl 9)) (.type "RuntimeError") = some false)
    (hx_q9_KeyError : PySem.W.subIn K (.ref (cl 9)) (.type "KeyError") = some false)
    (hx_q9_ArithmeticError : PySem.W.subIn K (.ref (cl 9)) (.type "ArithmeticError") = some false)
    (hx_q9_TooMany : PySem.W.subIn K (.ref (cl 9)) (.ref (cl 8)) = some false)
    (hx_q9_NothingToUndo : PySem.W.subIn K (.ref (cl 9)) (.ref (cl 9)) = some true)
    (hx_q9_Refused : PySem.W.subIn K (.ref (cl 9)) (.ref (cl 10)) = some false)
    (hx_q9_ValueError : PySem.W.subIn K (.ref (cl 9)) (.type "ValueError") = some false)
    (hx_q9_UnknownPlace : PySem.W.subIn K (.ref (cl 9)) (.ref (cl 6)) = some false)
    (hx_q9_InvalidNumber : PySem.W.subIn K (.ref (cl 9)) (.ref (cl 7)) = some false)
    (hx_q9_InvalidOperation : PySem.W.subIn K (.ref (cl 9)) (.ref (cl 4)) = some false)
    (hx_q9_ParseError : PySem.W.subIn K (.ref (cl 9)) (.ref (cl 5)) = some false)
    (hx_q9_NetError : PySem.W.subIn K (.ref (cl 9)) (.ref (cl 0)) = some false)
    (hx_q9_InvalidNet : PySem.W.subIn K (.ref (cl 9)) (.ref (cl 1)) = some false)
    (hx_q9_InvalidLot : PySem.W.subIn K (.ref (cl 9)) (.ref (cl 2)) = some false)
    (hx_q9_InvalidParting : PySem.W.subIn K (.ref (cl 9)) (.ref (cl 3)) = some false)
    (hx_sa9 : PySem.W.findIn K (.ref (cl 9)) "__setattr__" = some (some (.builtin "object.__setattr__")))
    (hx_ii9 : PySem.W.findIn K (.ref (cl 9)) "__init__" = some (some (.ref ini9)))
    (hx_ti9 : PySem.W.typeIn K (.ref ini9) = some (.type "function"))
    (hx_li9 : K.lookup ini9 = some ⟨oc_9, od_9, .func (PySem.W.fnOf "__init__" "NothingToUndo.__init__" (defArgs s_init_NothingToUndo) (defBody s_init_NothingToUndo) (defScope s_init_NothingToUndo) .none kV_9 dc_9 pm_9 an_9 cd_9 ct_9), sl_9⟩)
    (hx_ci9 : PySem.W.codeIn K cd_9 "NothingToUndo.__init__" = true)
    (hx_ki9 : PySem.W.keepIn K (.ref ini9) = true)
    (hx_no9 : PySem.W.findIn K (.ref (cl 9)) "many" = some none)
    (hx_va9 : PySem.W.findCls K (.type "IndexError") (.type "type") "__init__" = some (.val (.builtin "IndexError.__init__")))
    (hx_g10 : PySem.W.nsIn K mainGlobals "Refused" = some (some (.ref (cl 10))))
    (hx_lc10 : K.lookup (cl 10) = some (excClassObj nmc10 qc10 (cl 10) Nc10 bsc10 [.type "RuntimeError", .type "Exception", .type "BaseException", .type "object"] true snc10 subc10 abc10 colc10 ddc10 u10_0 u10_1 u10_2 u10_3 u10_5 "RuntimeError.__new__"))
    (hx_kc10 : PySem.W.keepIn K (.ref (cl 10)) = true)
    (hx_x1_10 : PySem.W.isClsIn K (cl 10) = true)
    (hx_x2_10 : PySem.W.findIn K (.ref (cl 10)) "__getattribute__" = some (some (.builtin "BaseException.__getattribute__")))
    (hx_x3_10 : PySem.W.findIn K (.ref (cl 10)) "__getattr__" = some gt10)
    (hx_x4_10 : PySem.W.subIn K (.ref (cl 10)) (.type "BaseException") = some true)
    (hx_x5_10 : PySem.W.findIn K (.ref (cl 10)) "__class__" = some (some (.builtin "object.__class__")))
    (hx_x6_10 : PySem.W.mroIn K (cl 10) (.type "object") = some true)
    (hx_x7_10 : PySem.W.typeIn K (.ref (cl 10)) = some (.type "type"))
    (hx_q10_OverflowError : PySem.W.subIn K (.ref (cl 10)) (.type "OverflowError") = some false)
    (hx_q10_IndexError : PySem.W.subIn K (.ref (cl 10)) (.type "IndexError") = some false)
    (hx_q10_RuntimeError : PySem.W.subIn K (.ref (cl 10)) (.type "RuntimeError") = some true)
    (hx_q10_KeyError : PySem.W.subIn K (.ref (cl 10)) (.type "KeyError") = some false)
    (hx_q10_ArithmeticError : PySem.W.subIn K (.ref (cl 10)) (.type "ArithmeticError") = some false)
    (hx_q10_TooMany : PySem.W.subIn K (.ref (cl 10)) (.ref (cl 8)) = some false)
    (hx_q10_NothingToUndo : PySem.W.subIn K (.ref (cl 10)) (.ref (cl 9)) = some false)
    (hx_q10_Refused : PySem.W.subIn K (.ref (cl 10)) (.ref (cl 10)) = some true)
    (hx_q10_ValueError : PySem.W.subIn K (.ref (cl 10)) (.type "ValueError") = some false)
    (hx_q10_UnknownPlace : PySem.W.subIn K (.ref (cl 10)) (.ref (cl 6)) = some false)
    (hx_q10_InvalidNumber : PySem.W.subIn K (.ref (cl 10)) (.ref (cl 7)) = some false)
    (hx_q10_InvalidOperation : PySem.W.subIn K (.ref (cl 10)) (.ref (cl 4)) = some false)
    (hx_q10_ParseError : PySem.W.subIn K (.ref (cl 10)) (.ref (cl 5)) = some false)
    (hx_q10_NetError : PySem.W.subIn K (.ref (cl 10)) (.ref (cl 0)) = some false)
    (hx_q10_InvalidNet : PySem.W.subIn K (.ref (cl 10)) (.ref (cl 1)) = some false)
    (hx_q10_InvalidLot : PySem.W.subIn K (.ref (cl 10)) (.ref (cl 2)) = some false)
    (hx_q10_InvalidParting : PySem.W.subIn K (.ref (cl 10)) (.ref (cl 3)) = some false)
    (hx_sa10 : PySem.W.findIn K (.ref (cl 10)) "__setattr__" = some (some (.builtin "object.__setattr__")))
    (hx_ii10 : PySem.W.findIn K (.ref (cl 10)) "__init__" = some (some (.ref ini10)))
    (hx_ti10 : PySem.W.typeIn K (.ref ini10) = some (.type "function"))
    (hx_li10 : K.lookup ini10 = some ⟨oc_10, od_10, .func (PySem.W.fnOf "__init__" "Refused.__init__" (defArgs s_init_Refused) (defBody s_init_Refused) (defScope s_init_Refused) .none kV_10 dc_10 pm_10 an_10 cd_10 ct_10), sl_10⟩)
    (hx_ci10 : PySem.W.codeIn K cd_10 "Refused.__init__" = true)
    (hx_ki10 : PySem.W.keepIn K (.ref ini10) = true)
    (hx_no10 : PySem.W.findIn K (.ref (cl 10)) "reason" = some none)
    (hx_va10 : PySem.W.findCls K (.type "RuntimeError") (.type "type") "__init__" = some (.val (.builtin "RuntimeError.__init__")))
    (hx_y1 : PySem.W.specialIn K (.builtin "object.__class__") "__get__" = some (some (.builtin "getset_descriptor.__get__")))
    (hx_y2 : PySem.W.takesIn K (.builtin "object.__class__") = some true)
    : ∃ fd : FuncData, (∀ (s : Shared) (v : Value), BindsTo s fd ⟨[v], []⟩ [("_law_script", v)]) ∧ ∀ base : Heap, K.In base → base.Ns mainGlobals mg → FnG l.prog w K mg base CX0 4 fa fd ["_law_script"] (spF K 1 m_law) := by
  have e := hfa.symm.trans (PySem.W.mg_of X G a5)
  cases e
  have F0 := fun_mk (st := s_law_dice) l0 c0 k0
  have b0 := F0.binds (ps := ["_law_script", "_law_at"]) fun _ _ _ _ _ _ us hl => match us, hl with | [_, _], _ => rfl
  have F1 := fun_mk (st := s_law_kinds) l1 c1 k1
  have b1 := F1.binds (ps := ["_law_error"]) fun _ _ _ _ _ _ us hl => match us, hl with | [_], _ => rfl
  have F2 := fun_mk (st := s_law_roll) l2 c2 k2
  have b2 := F2.binds (ps := ["_law_dice_here", "_law_total"]) fun _ _ _ _ _ _ us hl => match us, hl with | [_, _], _ => rfl
  have F3 := fun_mk (st := s_law_one_of) l3 c3 k3
  have b3 := F3.binds (ps := ["_law_dice_here", "_law_items"]) fun _ _ _ _ _ _ us hl => match us, hl with | [_, _], _ => rfl
  have F4 := fun_mk (st := s_law_right) l4 c4 k4
  have b4 := F4.binds (ps := ["_law_dice_here"]) fun _ _ _ _ _ _ us hl => match us, hl with | [_], _ => rfl
  have F5 := fun_mk (st := s_law) l5 c5 k5
  have b5 := F5.binds (ps := ["_law_script"]) fun _ _ _ _ _ _ us hl => match us, hl with | [_], _ => rfl
  have X0 : ExK K (cl 0) := ⟨hx_x1_0, hx_x2_0, ⟨_, hx_x3_0⟩, hx_x4_0, hx_x5_0, hx_y1, hx_y2, hx_x6_0⟩
  have X1 : ExK K (cl 1) := ⟨hx_x1_1, hx_x2_1, ⟨_, hx_x3_1⟩, hx_x4_1, hx_x5_1, hx_y1, hx_y2, hx_x6_1⟩
  have X2 : ExK K (cl 2) := ⟨hx_x1_2, hx_x2_2, ⟨_, hx_x3_2⟩, hx_x4_2, hx_x5_2, hx_y1, hx_y2, hx_x6_2⟩
  have X3 : ExK K (cl 3) := ⟨hx_x1_3, hx_x2_3, ⟨_, hx_x3_3⟩, hx_x4_3, hx_x5_3, hx_y1, hx_y2, hx_x6_3⟩
  have X4 : ExK K (cl 4) := ⟨hx_x1_4, hx_x2_4, ⟨_, hx_x3_4⟩, hx_x4_4, hx_x5_4, hx_y1, hx_y2, hx_x6_4⟩
  have X5 : ExK K (cl 5) := ⟨hx_x1_5, hx_x2_5, ⟨_, hx_x3_5⟩, hx_x4_5, hx_x5_5, hx_y1, hx_y2, hx_x6_5⟩
  have FI5 := fun_mk (st := s_init_ParseError) hx_li5 hx_ci5 hx_ki5
  have bI5 := FI5.binds (ps := ["self", "line"]) fun _ _ _ _ _ _ us hl => match us, hl with | [_, _], _ => rfl
  have X6 : ExK K (cl 6) := ⟨hx_x1_6, hx_x2_6, ⟨_, hx_x3_6⟩, hx_x4_6, hx_x5_6, hx_y1, hx_y2, hx_x6_6⟩
  have FI6 := fun_mk (st := s_init_UnknownPlace) hx_li6 hx_ci6 hx_ki6
  have bI6 := FI6.binds (ps := ["self", "place"]) fun _ _ _ _ _ _ us hl => match us, hl with | [_, _], _ => rfl
  have X7 : ExK K (cl 7) := ⟨hx_x1_7, hx_x2_7, ⟨_, hx_x3_7⟩, hx_x4_7, hx_x5_7, hx_y1, hx_y2, hx_x6_7⟩
  have FI7 := fun_mk (st := s_init_InvalidNumber) hx_li7 hx_ci7 hx_ki7
  have bI7 := FI7.binds (ps := ["self", "value"]) fun _ _ _ _ _ _ us hl => match us, hl with | [_, _], _ => rfl
  have X8 : ExK K (cl 8) := ⟨hx_x1_8, hx_x2_8, ⟨_, hx_x3_8⟩, hx_x4_8, hx_x5_8, hx_y1, hx_y2, hx_x6_8⟩
  have FI8 := fun_mk (st := s_init_TooMany) hx_li8 hx_ci8 hx_ki8
  have bI8 := FI8.binds (ps := ["self", "limit"]) fun _ _ _ _ _ _ us hl => match us, hl with | [_, _], _ => rfl
  have X9 : ExK K (cl 9) := ⟨hx_x1_9, hx_x2_9, ⟨_, hx_x3_9⟩, hx_x4_9, hx_x5_9, hx_y1, hx_y2, hx_x6_9⟩
  have FI9 := fun_mk (st := s_init_NothingToUndo) hx_li9 hx_ci9 hx_ki9
  have bI9 := FI9.binds (ps := ["self", "many"]) fun _ _ _ _ _ _ us hl => match us, hl with | [_, _], _ => rfl
  have X10 : ExK K (cl 10) := ⟨hx_x1_10, hx_x2_10, ⟨_, hx_x3_10⟩, hx_x4_10, hx_x5_10, hx_y1, hx_y2, hx_x6_10⟩
  have FI10 := fun_mk (st := s_init_Refused) hx_li10 hx_ci10 hx_ki10
  have bI10 := FI10.binds (ps := ["self", "reason"]) fun _ _ _ _ _ _ us hl => match us, hl with | [_, _], _ => rfl
  have XX : ∀ i, i < 11 → ExK K (cl i) := fun i h => match i, h with | 0, _ => X0 | 1, _ => X1 | 2, _ => X2 | 3, _ => X3 | 4, _ => X4 | 5, _ => X5 | 6, _ => X6 | 7, _ => X7 | 8, _ => X8 | 9, _ => X9 | 10, _ => X10
  have T : Tx K mg (fun i => match i with | 0 => f0 | 1 => f1 | 2 => f2 | 3 => f3 | 4 => f4 | _ => fa) (fun i => match i with | 0 => PySem.W.fnOf "_law_dice" "_law_dice" (defArgs s_law_dice) (defBody s_law_dice) (defScope s_law_dice) .none kV0 dc0 pm0 an0 cd0 ct0 | 1 => PySem.W.fnOf "_law_kinds" "_law_kinds" (defArgs s_law_kinds) (defBody s_law_kinds) (defScope s_law_kinds) .none kV1 dc1 pm1 an1 cd1 ct1 | 2 => PySem.W.fnOf "_law_roll" "_law_roll" (defArgs s_law_roll) (defBody s_law_roll) (defScope s_law_roll) .none kV2 dc2 pm2 an2 cd2 ct2 | 3 => PySem.W.fnOf "_law_one_of" "_law_one_of" (defArgs s_law_one_of) (defBody s_law_one_of) (defScope s_law_one_of) .none kV3 dc3 pm3 an3 cd3 ct3 | 4 => PySem.W.fnOf "_law_right" "_law_right" (defArgs s_law_right) (defBody s_law_right) (defScope s_law_right) .none kV4 dc4 pm4 an4 cd4 ct4 | _ => PySem.W.fnOf "law" "law" (defArgs s_law) (defBody s_law) (defScope s_law) .none kV5 dc5 pm5 an5 cd5 ct5) (fun i => match i with | 5 => ini5 | 6 => ini6 | 7 => ini7 | 8 => ini8 | 9 => ini9 | 10 => ini10 | _ => fa) (fun i => match i with | 5 => PySem.W.fnOf "__init__" "ParseError.__init__" (defArgs s_init_ParseError) (defBody s_init_ParseError) (defScope s_init_ParseError) .none kV_5 dc_5 pm_5 an_5 cd_5 ct_5 | 6 => PySem.W.fnOf "__init__" "UnknownPlace.__init__" (defArgs s_init_UnknownPlace) (defBody s_init_UnknownPlace) (defScope s_init_UnknownPlace) .none kV_6 dc_6 pm_6 an_6 cd_6 ct_6 | 7 => PySem.W.fnOf "__init__" "InvalidNumber.__init__" (defArgs s_init_InvalidNumber) (defBody s_init_InvalidNumber) (defScope s_init_InvalidNumber) .none kV_7 dc_7 pm_7 an_7 cd_7 ct_7 | 8 => PySem.W.fnOf "__init__" "TooMany.__init__" (defArgs s_init_TooMany) (defBody s_init_TooMany) (defScope s_init_TooMany) .none kV_8 dc_8 pm_8 an_8 cd_8 ct_8 | 9 => PySem.W.fnOf "__init__" "NothingToUndo.__init__" (defArgs s_init_NothingToUndo) (defBody s_init_NothingToUndo) (defScope s_init_NothingToUndo) .none kV_9 dc_9 pm_9 an_9 cd_9 ct_9 | _ => PySem.W.fnOf "__init__" "Refused.__init__" (defArgs s_init_Refused) (defBody s_init_Refused) (defScope s_init_Refused) .none kV_10 dc_10 pm_10 an_10 cd_10 ct_10) := { F_law_dice := F0, B_law_dice := b0, G_law_dice := PySem.W.mg_of X G a0, F_law_kinds := F1, B_law_kinds := b1, G_law_kinds := PySem.W.mg_of X G a1, F_law_roll := F2, B_law_roll := b2, G_law_roll := PySem.W.mg_of X G a2, F_law_one_of := F3, B_law_one_of := b3, G_law_one_of := PySem.W.mg_of X G a3, F_law_right := F4, B_law_right := b4, G_law_right := PySem.W.mg_of X G a4, F_law := F5, B_law := b5, G_law := PySem.W.mg_of X G a5, n_range := PySem.W.mg_none_of X G z0, n_max := PySem.W.mg_none_of X G z1, n_min := PySem.W.mg_none_of X G z2, n_len := PySem.W.mg_none_of X G z3, n_int := PySem.W.mg_none_of X G z4, n_abs := PySem.W.mg_none_of X G z5, n_repr := PySem.W.mg_none_of X G z6, n_isinstance := PySem.W.mg_none_of X G z7, n_OverflowError := PySem.W.mg_none_of X G z8, n_IndexError := PySem.W.mg_none_of X G z9, n_RuntimeError := PySem.W.mg_none_of X G z10, n_KeyError := PySem.W.mg_none_of X G z11, n_ArithmeticError := PySem.W.mg_none_of X G z12, n_ValueError := PySem.W.mg_none_of X G z13, G_NetError := PySem.W.mg_of X G hx_g0, K_NetError := hx_kc0, E_NetError := excIn0 hx_lc0 (nsOk_of hx_ln0 hx_he0) hx_ni0 (tail0 _), G_InvalidNet := PySem.W.mg_of X G hx_g1, K_InvalidNet := hx_kc1, E_InvalidNet := excIn0 hx_lc1 (nsOk_of hx_ln1 hx_he1) hx_ni1 ((tail1 hx_lc0 (nsOk_of hx_ln0 hx_he0) hx_ni0)), G_InvalidLot := PySem.W.mg_of X G hx_g2, K_InvalidLot := hx_kc2, E_InvalidLot := excIn0 hx_lc2 (nsOk_of hx_ln2 hx_he2) hx_ni2 ((tail1 hx_lc0 (nsOk_of hx_ln0 hx_he0) hx_ni0)), G_InvalidParting := PySem.W.mg_of X G hx_g3, K_InvalidParting := hx_kc3, E_InvalidParting := excIn0 hx_lc3 (nsOk_of hx_ln3 hx_he3) hx_ni3 ((tail1 hx_lc0 (nsOk_of hx_ln0 hx_he0) hx_ni0)), G_InvalidOperation := PySem.W.mg_of X G hx_g4, K_InvalidOperation := hx_kc4, E_InvalidOperation := excIn0 hx_lc4 (nsOk_of hx_ln4 hx_he4) hx_ni4 ((tail1 hx_lc0 (nsOk_of hx_ln0 hx_he0) hx_ni0)), G_ParseError := PySem.W.mg_of X G hx_g5, O_ParseError := ⟨PySem.F.excBase_ValueError, ⟨_, _, _, _, _, _, _, _, _, _, _, _, _, _, hx_lc5⟩, (by first | decide +kernel | kernel_rfl | simp), (by first | decide +kernel | kernel_rfl | simp), (by first | decide +kernel | kernel_rfl | simp), (by first | decide +kernel | kernel_rfl | simp), fun self => (refuseLoop_ref _ _ _ _).trans (PySem.F.store_ValueError.passes self), hx_sa5, hx_kc5⟩, I_ParseError := hx_ii5, J_ParseError := hx_ti5, F_init_ParseError := FI5, B_init_ParseError := bI5, N_ParseError := hx_no5, R_ParseError := ⟨hx_rd5, hx_ra5⟩, V_ParseError := hx_va5, G_UnknownPlace := PySem.W.mg_of X G hx_g6, O_UnknownPlace := ⟨PySem.F.excBase_LookupError, ⟨_, _, _, _, _, _, _, _, _, _, _, _, _, _, hx_lc6⟩, (by first | decide +kernel | kernel_rfl | simp), (by first | decide +kernel | kernel_rfl | simp), (by first | decide +kernel | kernel_rfl | simp), (by first | decide +kernel | kernel_rfl | simp), fun self => by kernel_rfl, hx_sa6, hx_kc6⟩, I_UnknownPlace := hx_ii6, J_UnknownPlace := hx_ti6, F_init_UnknownPlace := FI6, B_init_UnknownPlace := bI6, N_UnknownPlace := hx_no6, V_UnknownPlace := hx_va6, G_InvalidNumber := PySem.W.mg_of X G hx_g7, O_InvalidNumber := ⟨PySem.F.excBase_ArithmeticError, ⟨_, _, _, _, _, _, _, _, _, _, _, _, _, _, hx_lc7⟩, (by first | decide +kernel | kernel_rfl | simp), (by first | decide +kernel | kernel_rfl | simp), (by first | decide +kernel | kernel_rfl | simp), (by first | decide +kernel | kernel_rfl | simp), PySem.F.store_ArithmeticError.passes, hx_sa7, hx_kc7⟩, I_InvalidNumber := hx_ii7, J_InvalidNumber := hx_ti7, F_init_InvalidNumber := FI7, B_init_InvalidNumber := bI7, N_InvalidNumber := hx_no7, V_InvalidNumber := hx_va7, G_TooMany := PySem.W.mg_of X G hx_g8, O_TooMany := ⟨PySem.F.excBase_OverflowError, ⟨_, _, _, _, _, _, _, _, _, _, _, _, _, _, hx_lc8⟩, (by first | decide +kernel | kernel_rfl | simp), (by first | decide +kernel | kernel_rfl | simp), (by first | decide +kernel | kernel_rfl | simp), (by first | decide +kernel | kernel_rfl | simp), PySem.F.store_OverflowError.passes, hx_sa8, hx_kc8⟩, I_TooMany := hx_ii8, J_TooMany := hx_ti8, F_init_TooMany := FI8, B_init_TooMany := bI8, N_TooMany := hx_no8, V_TooMany := hx_va8, G_NothingToUndo := PySem.W.mg_of X G hx_g9, O_NothingToUndo := ⟨PySem.F.excBase_IndexError, ⟨_, _, _, _, _, _, _, _, _, _, _, _, _, _, hx_lc9⟩, (by first | decide +kernel | kernel_rfl | simp), (by first | decide +kernel | kernel_rfl | simp), (by first | decide +kernel | kernel_rfl | simp), (by first | decide +kernel | kernel_rfl | simp), PySem.F.store_IndexError.passes, hx_sa9, hx_kc9⟩, I_NothingToUndo := hx_ii9, J_NothingToUndo := hx_ti9, F_init_NothingToUndo := FI9, B_init_NothingToUndo := bI9, N_NothingToUndo := hx_no9, V_NothingToUndo := hx_va9, G_Refused := PySem.W.mg_of X G hx_g10, O_Refused := ⟨PySem.F.excBase_RuntimeError, ⟨_, _, _, _, _, _, _, _, _, _, _, _, _, _, hx_lc10⟩, (by first | decide +kernel | kernel_rfl | simp), (by first | decide +kernel | kernel_rfl | simp), (by first | decide +kernel | kernel_rfl | simp), (by first | decide +kernel | kernel_rfl | simp), PySem.F.store_RuntimeError.passes, hx_sa10, hx_kc10⟩, I_Refused := hx_ii10, J_Refused := hx_ti10, F_init_Refused := FI10, B_init_Refused := bI10, N_Refused := hx_no10, V_Refused := hx_va10, S_OverflowError := tab_all XX rfl fun i b h e => match i, h, e with | 0, _, e => by cases e; exact kit_T (by decide +kernel) hx_q0_OverflowError | 1, _, e => by cases e; exact kit_T (by decide +kernel) hx_q1_OverflowError | 2, _, e => by cases e; exact kit_T (by decide +kernel) hx_q2_OverflowError | 3, _, e => by cases e; exact kit_T (by decide +kernel) hx_q3_OverflowError | 4, _, e => by cases e; exact kit_T (by decide +kernel) hx_q4_OverflowError | 5, _, e => by cases e; exact kit_T (by decide +kernel) hx_q5_OverflowError | 6, _, e => by cases e; exact kit_T (by decide +kernel) hx_q6_OverflowError | 7, _, e => by cases e; exact kit_T (by decide +kernel) hx_q7_OverflowError | 8, _, e => by cases e; exact kit_T (by decide +kernel) hx_q8_OverflowError | 9, _, e => by cases e; exact kit_T (by decide +kernel) hx_q9_OverflowError | 10, _, e => by cases e; exact kit_T (by decide +kernel) hx_q10_OverflowError, S_IndexError := tab_all XX rfl fun i b h e => match i, h, e with | 0, _, e => by cases e; exact kit_T (by decide +kernel) hx_q0_IndexError | 1, _, e => by cases e; exact kit_T (by decide +kernel) hx_q1_IndexError | 2, _, e => by cases e; exact kit_T (by decide +kernel) hx_q2_IndexError | 3, _, e => by cases e; exact kit_T (by decide +kernel) hx_q3_IndexError | 4, _, e => by cases e; exact kit_T (by decide +kernel) hx_q4_IndexError | 5, _, e => by cases e; exact kit_T (by decide +kernel) hx_q5_IndexError | 6, _, e => by cases e; exact kit_T (by decide +kernel) hx_q6_IndexError | 7, _, e => by cases e; exact kit_T (by decide +kernel) hx_q7_IndexError | 8, _, e => by cases e; exact kit_T (by decide +kernel) hx_q8_IndexError | 9, _, e => by cases e; exact kit_T (by decide +kernel) hx_q9_IndexError | 10, _, e => by cases e; exact kit_T (by decide +kernel) hx_q10_IndexError, S_RuntimeError := tab_all XX rfl fun i b h e => match i, h, e with | 0, _, e => by cases e; exact kit_T (by decide +kernel) hx_q0_RuntimeError | 1, _, e => by cases e; exact kit_T (by decide +kernel) hx_q1_RuntimeError | 2, _, e => by cases e; exact kit_T (by decide +kernel) hx_q2_RuntimeError | 3, _, e => by cases e; exact kit_T (by decide +kernel) hx_q3_RuntimeError | 4, _, e => by cases e; exact kit_T (by decide +kernel) hx_q4_RuntimeError | 5, _, e => by cases e; exact kit_T (by decide +kernel) hx_q5_RuntimeError | 6, _, e => by cases e; exact kit_T (by decide +kernel) hx_q6_RuntimeError | 7, _, e => by cases e; exact kit_T (by decide +kernel) hx_q7_RuntimeError | 8, _, e => by cases e; exact kit_T (by decide +kernel) hx_q8_RuntimeError | 9, _, e => by cases e; exact kit_T (by decide +kernel) hx_q9_RuntimeError | 10, _, e => by cases e; exact kit_T (by decide +kernel) hx_q10_RuntimeError, S_KeyError := tab_all XX rfl fun i b h e => match i, h, e with | 0, _, e => by cases e; exact kit_T (by decide +kernel) hx_q0_KeyError | 1, _, e => by cases e; exact kit_T (by decide +kernel) hx_q1_KeyError | 2, _, e => by cases e; exact kit_T (by decide +kernel) hx_q2_KeyError | 3, _, e => by cases e; exact kit_T (by decide +kernel) hx_q3_KeyError | 4, _, e => by cases e; exact kit_T (by decide +kernel) hx_q4_KeyError | 5, _, e => by cases e; exact kit_T (by decide +kernel) hx_q5_KeyError | 6, _, e => by cases e; exact kit_T (by decide +kernel) hx_q6_KeyError | 7, _, e => by cases e; exact kit_T (by decide +kernel) hx_q7_KeyError | 8, _, e => by cases e; exact kit_T (by decide +kernel) hx_q8_KeyError | 9, _, e => by cases e; exact kit_T (by decide +kernel) hx_q9_KeyError | 10, _, e => by cases e; exact kit_T (by decide +kernel) hx_q10_KeyError, S_ArithmeticError := tab_all XX rfl fun i b h e => match i, h, e with | 0, _, e => by cases e; exact kit_T (by decide +kernel) hx_q0_ArithmeticError | 1, _, e => by cases e; exact kit_T (by decide +kernel) hx_q1_ArithmeticError | 2, _, e => by cases e; exact kit_T (by decide +kernel) hx_q2_ArithmeticError | 3, _, e => by cases e; exact kit_T (by decide +kernel) hx_q3_ArithmeticError | 4, _, e => by cases e; exact kit_T (by decide +kernel) hx_q4_ArithmeticError | 5, _, e => by cases e; exact kit_T (by decide +kernel) hx_q5_ArithmeticError | 6, _, e => by cases e; exact kit_T (by decide +kernel) hx_q6_ArithmeticError | 7, _, e => by cases e; exact kit_T (by decide +kernel) hx_q7_ArithmeticError | 8, _, e => by cases e; exact kit_T (by decide +kernel) hx_q8_ArithmeticError | 9, _, e => by cases e; exact kit_T (by decide +kernel) hx_q9_ArithmeticError | 10, _, e => by cases e; exact kit_T (by decide +kernel) hx_q10_ArithmeticError, S_TooMany := tab_all XX rfl fun i b h e => match i, h, e with | 0, _, e => by cases e; exact kit_C hx_x1_8 hx_x7_8 (by decide +kernel) hx_q0_TooMany | 1, _, e => by cases e; exact kit_C hx_x1_8 hx_x7_8 (by decide +kernel) hx_q1_TooMany | 2, _, e => by cases e; exact kit_C hx_x1_8 hx_x7_8 (by decide +kernel) hx_q2_TooMany | 3, _, e => by cases e; exact kit_C hx_x1_8 hx_x7_8 (by decide +kernel) hx_q3_TooMany | 4, _, e => by cases e; exact kit_C hx_x1_8 hx_x7_8 (by decide +kernel) hx_q4_TooMany | 5, _, e => by cases e; exact kit_C hx_x1_8 hx_x7_8 (by decide +kernel) hx_q5_TooMany | 6, _, e => by cases e; exact kit_C hx_x1_8 hx_x7_8 (by decide +kernel) hx_q6_TooMany | 7, _, e => by cases e; exact kit_C hx_x1_8 hx_x7_8 (by decide +kernel) hx_q7_TooMany | 8, _, e => by cases e; exact kit_C hx_x1_8 hx_x7_8 (by decide +kernel) hx_q8_TooMany | 9, _, e => by cases e; exact kit_C hx_x1_8 hx_x7_8 (by decide +kernel) hx_q9_TooMany | 10, _, e => by cases e; exact kit_C hx_x1_8 hx_x7_8 (by decide +kernel) hx_q10_TooMany, S_NothingToUndo := tab_all XX rfl fun i b h e => match i, h, e with | 0, _, e => by cases e; exact kit_C hx_x1_9 hx_x7_9 (by decide +kernel) hx_q0_NothingToUndo | 1, _, e => by cases e; exact kit_C hx_x1_9 hx_x7_9 (by decide +kernel) hx_q1_NothingToUndo | 2, _, e => by cases e; exact kit_C hx_x1_9 hx_x7_9 (by decide +kernel) hx_q2_NothingToUndo | 3, _, e => by cases e; exact kit_C hx_x1_9 hx_x7_9 (by decide +kernel) hx_q3_NothingToUndo | 4, _, e => by cases e; exact kit_C hx_x1_9 hx_x7_9 (by decide +kernel) hx_q4_NothingToUndo | 5, _, e => by cases e; exact kit_C hx_x1_9 hx_x7_9 (by decide +kernel) hx_q5_NothingToUndo | 6, _, e => by cases e; exact kit_C hx_x1_9 hx_x7_9 (by decide +kernel) hx_q6_NothingToUndo | 7, _, e => by cases e; exact kit_C hx_x1_9 hx_x7_9 (by decide +kernel) hx_q7_NothingToUndo | 8, _, e => by cases e; exact kit_C hx_x1_9 hx_x7_9 (by decide +kernel) hx_q8_NothingToUndo | 9, _, e => by cases e; exact kit_C hx_x1_9 hx_x7_9 (by decide +kernel) hx_q9_NothingToUndo | 10, _, e => by cases e; exact kit_C hx_x1_9 hx_x7_9 (by decide +kernel) hx_q10_NothingToUndo, S_Refused := tab_all XX rfl fun i b h e => match i, h, e with | 0, _, e => by cases e; exact kit_C hx_x1_10 hx_x7_10 (by decide +kernel) hx_q0_Refused | 1, _, e => by cases e; exact kit_C hx_x1_10 hx_x7_10 (by decide +kernel) hx_q1_Refused | 2, _, e => by cases e; exact kit_C hx_x1_10 hx_x7_10 (by decide +kernel) hx_q2_Refused | 3, _, e => by cases e; exact kit_C hx_x1_10 hx_x7_10 (by decide +kernel) hx_q3_Refused | 4, _, e => by cases e; exact kit_C hx_x1_10 hx_x7_10 (by decide +kernel) hx_q4_Refused | 5, _, e => by cases e; exact kit_C hx_x1_10 hx_x7_10 (by decide +kernel) hx_q5_Refused | 6, _, e => by cases e; exact kit_C hx_x1_10 hx_x7_10 (by decide +kernel) hx_q6_Refused | 7, _, e => by cases e; exact kit_C hx_x1_10 hx_x7_10 (by decide +kernel) hx_q7_Refused | 8, _, e => by cases e; exact kit_C hx_x1_10 hx_x7_10 (by decide +kernel) hx_q8_Refused | 9, _, e => by cases e; exact kit_C hx_x1_10 hx_x7_10 (by decide +kernel) hx_q9_Refused | 10, _, e => by cases e; exact kit_C hx_x1_10 hx_x7_10 (by decide +kernel) hx_q10_Refused, S_ValueError := tab_all XX rfl fun i b h e => match i, h, e with | 0, _, e => by cases e; exact kit_T (by decide +kernel) hx_q0_ValueError | 1, _, e => by cases e; exact kit_T (by decide +kernel) hx_q1_ValueError | 2, _, e => by cases e; exact kit_T (by decide +kernel) hx_q2_ValueError | 3, _, e => by cases e; exact kit_T (by decide +kernel) hx_q3_ValueError | 4, _, e => by cases e; exact kit_T (by decide +kernel) hx_q4_ValueError | 5, _, e => by cases e; exact kit_T (by decide +kernel) hx_q5_ValueError | 6, _, e => by cases e; exact kit_T (by decide +kernel) hx_q6_ValueError | 7, _, e => by cases e; exact kit_T (by decide +kernel) hx_q7_ValueError | 8, _, e => by cases e; exact kit_T (by decide +kernel) hx_q8_ValueError | 9, _, e => by cases e; exact kit_T (by decide +kernel) hx_q9_ValueError | 10, _, e => by cases e; exact kit_T (by decide +kernel) hx_q10_ValueError, S_UnknownPlace := tab_all XX rfl fun i b h e => match i, h, e with | 0, _, e => by cases e; exact kit_C hx_x1_6 hx_x7_6 (by decide +kernel) hx_q0_UnknownPlace | 1, _, e => by cases e; exact kit_C hx_x1_6 hx_x7_6 (by decide +kernel) hx_q1_UnknownPlace | 2, _, e => by cases e; exact kit_C hx_x1_6 hx_x7_6 (by decide +kernel) hx_q2_UnknownPlace | 3, _, e => by cases e; exact kit_C hx_x1_6 hx_x7_6 (by decide +kernel) hx_q3_UnknownPlace | 4, _, e => by cases e; exact kit_C hx_x1_6 hx_x7_6 (by decide +kernel) hx_q4_UnknownPlace | 5, _, e => by cases e; exact kit_C hx_x1_6 hx_x7_6 (by decide +kernel) hx_q5_UnknownPlace | 6, _, e => by cases e; exact kit_C hx_x1_6 hx_x7_6 (by decide +kernel) hx_q6_UnknownPlace | 7, _, e => by cases e; exact kit_C hx_x1_6 hx_x7_6 (by decide +kernel) hx_q7_UnknownPlace | 8, _, e => by cases e; exact kit_C hx_x1_6 hx_x7_6 (by decide +kernel) hx_q8_UnknownPlace | 9, _, e => by cases e; exact kit_C hx_x1_6 hx_x7_6 (by decide +kernel) hx_q9_UnknownPlace | 10, _, e => by cases e; exact kit_C hx_x1_6 hx_x7_6 (by decide +kernel) hx_q10_UnknownPlace, S_InvalidNumber := tab_all XX rfl fun i b h e => match i, h, e with | 0, _, e => by cases e; exact kit_C hx_x1_7 hx_x7_7 (by decide +kernel) hx_q0_InvalidNumber | 1, _, e => by cases e; exact kit_C hx_x1_7 hx_x7_7 (by decide +kernel) hx_q1_InvalidNumber | 2, _, e => by cases e; exact kit_C hx_x1_7 hx_x7_7 (by decide +kernel) hx_q2_InvalidNumber | 3, _, e => by cases e; exact kit_C hx_x1_7 hx_x7_7 (by decide +kernel) hx_q3_InvalidNumber | 4, _, e => by cases e; exact kit_C hx_x1_7 hx_x7_7 (by decide +kernel) hx_q4_InvalidNumber | 5, _, e => by cases e; exact kit_C hx_x1_7 hx_x7_7 (by decide +kernel) hx_q5_InvalidNumber | 6, _, e => by cases e; exact kit_C hx_x1_7 hx_x7_7 (by decide +kernel) hx_q6_InvalidNumber | 7, _, e => by cases e; exact kit_C hx_x1_7 hx_x7_7 (by decide +kernel) hx_q7_InvalidNumber | 8, _, e => by cases e; exact kit_C hx_x1_7 hx_x7_7 (by decide +kernel) hx_q8_InvalidNumber | 9, _, e => by cases e; exact kit_C hx_x1_7 hx_x7_7 (by decide +kernel) hx_q9_InvalidNumber | 10, _, e => by cases e; exact kit_C hx_x1_7 hx_x7_7 (by decide +kernel) hx_q10_InvalidNumber, S_InvalidOperation := tab_all XX rfl fun i b h e => match i, h, e with | 0, _, e => by cases e; exact kit_C hx_x1_4 hx_x7_4 (by decide +kernel) hx_q0_InvalidOperation | 1, _, e => by cases e; exact kit_C hx_x1_4 hx_x7_4 (by decide +kernel) hx_q1_InvalidOperation | 2, _, e => by cases e; exact kit_C hx_x1_4 hx_x7_4 (by decide +kernel) hx_q2_InvalidOperation | 3, _, e => by cases e; exact kit_C hx_x1_4 hx_x7_4 (by decide +kernel) hx_q3_InvalidOperation | 4, _, e => by cases e; exact kit_C hx_x1_4 hx_x7_4 (by decide +kernel) hx_q4_InvalidOperation | 5, _, e => by cases e; exact kit_C hx_x1_4 hx_x7_4 (by decide +kernel) hx_q5_InvalidOperation | 6, _, e => by cases e; exact kit_C hx_x1_4 hx_x7_4 (by decide +kernel) hx_q6_InvalidOperation | 7, _, e => by cases e; exact kit_C hx_x1_4 hx_x7_4 (by decide +kernel) hx_q7_InvalidOperation | 8, _, e => by cases e; exact kit_C hx_x1_4 hx_x7_4 (by decide +kernel) hx_q8_InvalidOperation | 9, _, e => by cases e; exact kit_C hx_x1_4 hx_x7_4 (by decide +kernel) hx_q9_InvalidOperation | 10, _, e => by cases e; exact kit_C hx_x1_4 hx_x7_4 (by decide +kernel) hx_q10_InvalidOperation, S_ParseError := tab_all XX rfl fun i b h e => match i, h, e with | 0, _, e => by cases e; exact kit_C hx_x1_5 hx_x7_5 (by decide +kernel) hx_q0_ParseError | 1, _, e => by cases e; exact kit_C hx_x1_5 hx_x7_5 (by decide +kernel) hx_q1_ParseError | 2, _, e => by cases e; exact kit_C hx_x1_5 hx_x7_5 (by decide +kernel) hx_q2_ParseError | 3, _, e => by cases e; exact kit_C hx_x1_5 hx_x7_5 (by decide +kernel) hx_q3_ParseError | 4, _, e => by cases e; exact kit_C hx_x1_5 hx_x7_5 (by decide +kernel) hx_q4_ParseError | 5, _, e => by cases e; exact kit_C hx_x1_5 hx_x7_5 (by decide +kernel) hx_q5_ParseError | 6, _, e => by cases e; exact kit_C hx_x1_5 hx_x7_5 (by decide +kernel) hx_q6_ParseError | 7, _, e => by cases e; exact kit_C hx_x1_5 hx_x7_5 (by decide +kernel) hx_q7_ParseError | 8, _, e => by cases e; exact kit_C hx_x1_5 hx_x7_5 (by decide +kernel) hx_q8_ParseError | 9, _, e => by cases e; exact kit_C hx_x1_5 hx_x7_5 (by decide +kernel) hx_q9_ParseError | 10, _, e => by cases e; exact kit_C hx_x1_5 hx_x7_5 (by decide +kernel) hx_q10_ParseError, S_NetError := tab_all XX rfl fun i b h e => match i, h, e with | 0, _, e => by cases e; exact kit_C hx_x1_0 hx_x7_0 (by decide +kernel) hx_q0_NetError | 1, _, e => by cases e; exact kit_C hx_x1_0 hx_x7_0 (by decide +kernel) hx_q1_NetError | 2, _, e => by cases e; exact kit_C hx_x1_0 hx_x7_0 (by decide +kernel) hx_q2_NetError | 3, _, e => by cases e; exact kit_C hx_x1_0 hx_x7_0 (by decide +kernel) hx_q3_NetError | 4, _, e => by cases e; exact kit_C hx_x1_0 hx_x7_0 (by decide +kernel) hx_q4_NetError | 5, _, e => by cases e; exact kit_C hx_x1_0 hx_x7_0 (by decide +kernel) hx_q5_NetError | 6, _, e => by cases e; exact kit_C hx_x1_0 hx_x7_0 (by decide +kernel) hx_q6_NetError | 7, _, e => by cases e; exact kit_C hx_x1_0 hx_x7_0 (by decide +kernel) hx_q7_NetError | 8, _, e => by cases e; exact kit_C hx_x1_0 hx_x7_0 (by decide +kernel) hx_q8_NetError | 9, _, e => by cases e; exact kit_C hx_x1_0 hx_x7_0 (by decide +kernel) hx_q9_NetError | 10, _, e => by cases e; exact kit_C hx_x1_0 hx_x7_0 (by decide +kernel) hx_q10_NetError, S_InvalidNet := tab_all XX rfl fun i b h e => match i, h, e with | 0, _, e => by cases e; exact kit_C hx_x1_1 hx_x7_1 (by decide +kernel) hx_q0_InvalidNet | 1, _, e => by cases e; exact kit_C hx_x1_1 hx_x7_1 (by decide +kernel) hx_q1_InvalidNet | 2, _, e => by cases e; exact kit_C hx_x1_1 hx_x7_1 (by decide +kernel) hx_q2_InvalidNet | 3, _, e => by cases e; exact kit_C hx_x1_1 hx_x7_1 (by decide +kernel) hx_q3_InvalidNet | 4, _, e => by cases e; exact kit_C hx_x1_1 hx_x7_1 (by decide +kernel) hx_q4_InvalidNet | 5, _, e => by cases e; exact kit_C hx_x1_1 hx_x7_1 (by decide +kernel) hx_q5_InvalidNet | 6, _, e => by cases e; exact kit_C hx_x1_1 hx_x7_1 (by decide +kernel) hx_q6_InvalidNet | 7, _, e => by cases e; exact kit_C hx_x1_1 hx_x7_1 (by decide +kernel) hx_q7_InvalidNet | 8, _, e => by cases e; exact kit_C hx_x1_1 hx_x7_1 (by decide +kernel) hx_q8_InvalidNet | 9, _, e => by cases e; exact kit_C hx_x1_1 hx_x7_1 (by decide +kernel) hx_q9_InvalidNet | 10, _, e => by cases e; exact kit_C hx_x1_1 hx_x7_1 (by decide +kernel) hx_q10_InvalidNet, S_InvalidLot := tab_all XX rfl fun i b h e => match i, h, e with | 0, _, e => by cases e; exact kit_C hx_x1_2 hx_x7_2 (by decide +kernel) hx_q0_InvalidLot | 1, _, e => by cases e; exact kit_C hx_x1_2 hx_x7_2 (by decide +kernel) hx_q1_InvalidLot | 2, _, e => by cases e; exact kit_C hx_x1_2 hx_x7_2 (by decide +kernel) hx_q2_InvalidLot | 3, _, e => by cases e; exact kit_C hx_x1_2 hx_x7_2 (by decide +kernel) hx_q3_InvalidLot | 4, _, e => by cases e; exact kit_C hx_x1_2 hx_x7_2 (by decide +kernel) hx_q4_InvalidLot | 5, _, e => by cases e; exact kit_C hx_x1_2 hx_x7_2 (by decide +kernel) hx_q5_InvalidLot | 6, _, e => by cases e; exact kit_C hx_x1_2 hx_x7_2 (by decide +kernel) hx_q6_InvalidLot | 7, _, e => by cases e; exact kit_C hx_x1_2 hx_x7_2 (by decide +kernel) hx_q7_InvalidLot | 8, _, e => by cases e; exact kit_C hx_x1_2 hx_x7_2 (by decide +kernel) hx_q8_InvalidLot | 9, _, e => by cases e; exact kit_C hx_x1_2 hx_x7_2 (by decide +kernel) hx_q9_InvalidLot | 10, _, e => by cases e; exact kit_C hx_x1_2 hx_x7_2 (by decide +kernel) hx_q10_InvalidLot, S_InvalidParting := tab_all XX rfl fun i b h e => match i, h, e with | 0, _, e => by cases e; exact kit_C hx_x1_3 hx_x7_3 (by decide +kernel) hx_q0_InvalidParting | 1, _, e => by cases e; exact kit_C hx_x1_3 hx_x7_3 (by decide +kernel) hx_q1_InvalidParting | 2, _, e => by cases e; exact kit_C hx_x1_3 hx_x7_3 (by decide +kernel) hx_q2_InvalidParting | 3, _, e => by cases e; exact kit_C hx_x1_3 hx_x7_3 (by decide +kernel) hx_q3_InvalidParting | 4, _, e => by cases e; exact kit_C hx_x1_3 hx_x7_3 (by decide +kernel) hx_q4_InvalidParting | 5, _, e => by cases e; exact kit_C hx_x1_3 hx_x7_3 (by decide +kernel) hx_q5_InvalidParting | 6, _, e => by cases e; exact kit_C hx_x1_3 hx_x7_3 (by decide +kernel) hx_q6_InvalidParting | 7, _, e => by cases e; exact kit_C hx_x1_3 hx_x7_3 (by decide +kernel) hx_q7_InvalidParting | 8, _, e => by cases e; exact kit_C hx_x1_3 hx_x7_3 (by decide +kernel) hx_q8_InvalidParting | 9, _, e => by cases e; exact kit_C hx_x1_3 hx_x7_3 (by decide +kernel) hx_q9_InvalidParting | 10, _, e => by cases e; exact kit_C hx_x1_3 hx_x7_3 (by decide +kernel) hx_q10_InvalidParting, A_line := fun C h => by cases of_decide_eq_true h; exact ⟨X5, hx_no5, cls_has hx_lc5⟩, A_limit := fun C h => by cases of_decide_eq_true h; exact ⟨X8, hx_no8, cls_has hx_lc8⟩, A_place := fun C h => by cases of_decide_eq_true h; exact ⟨X6, hx_no6, cls_has hx_lc6⟩, A_value := fun C h => by cases of_decide_eq_true h; exact ⟨X7, hx_no7, cls_has hx_lc7⟩, A_many := fun C h => by cases of_decide_eq_true h; exact ⟨X9, hx_no9, cls_has hx_lc9⟩, A_reason := fun C h => by cases of_decide_eq_true h; exact ⟨X10, hx_no10, cls_has hx_lc10⟩ }
  exact ⟨PySem.W.fnOf "law" "law" (defArgs s_law) (defBody s_law) (defScope s_law) .none kV5 dc5 pm5 an5 cd5 ct5, fun s v => .of_eq rfl, fun base _ _ => ok_law T⟩
end K00
open PySem PySem.W PyProof.Rows
set_option maxRecDepth 100000 in
set_option maxHeartbeats 0 in
theorem PySem.Challenge.cw_holdsfast_k00_errors_and_what_they_keep_holds : PySem.Challenge.rw_holdsfast_k00_errors_and_what_they_keep.Holds := by
  w_on; o_law; k_head; (case hw => w_witness2)
  k_fill
  refine DL.walk_g (l := PySem.Challenge.rw_holdsfast_k00_errors_and_what_they_keep) (n := 63) (k := 4) (x := "_law_script") (sp := fun w => DL.spF _ 1 K00.m_law) rfl (by decide) rfl ⟨rfl, by decide, by decide⟩ (fun w h Y => PySem.W.kIn_of Y) ?F (fun _ _ a ns hl _ hS => DL.law_sp (K00.math ns hl) hS fun _ => rfl)
  case F =>
    intro w mg fa h KX G hmg
    refine' K00.all_mk KX G hmg ?a0 ?l0 ?c0 ?k0 ?a1 ?l1 ?c1 ?k1 ?a2 ?l2 ?c2 ?k2 ?a3 ?l3 ?c3 ?k3 ?a4 ?l4 ?c4 ?k4 ?a5 ?l5 ?c5 ?k5 ?z0 ?z1 ?z2 ?z3 ?z4 ?z5 ?z6 ?z7 ?z8 ?z9 ?z10 ?z11 ?z12 ?z13 ?hx_g0 ?hx_lc0 ?hx_kc0 ?hx_x1_0 ?hx_x2_0 ?hx_x3_0 ?hx_x4_0 ?hx_x5_0 ?hx_x6_0 ?hx_x7_0 ?hx_q0_OverflowError ?hx_q0_IndexError ?hx_q0_RuntimeError ?hx_q0_KeyError ?hx_q0_ArithmeticError ?hx_q0_TooMany ?hx_q0_NothingToUndo ?hx_q0_Refused ?hx_q0_ValueError ?hx_q0_UnknownPlace ?hx_q0_InvalidNumber ?hx_q0_InvalidOperation ?hx_q0_ParseError ?hx_q0_NetError ?hx_q0_InvalidNet ?hx_q0_InvalidLot ?hx_q0_InvalidParting ?hx_ln0 ?hx_he0 ?hx_ni0 ?hx_g1 ?hx_lc1 ?hx_kc1 ?hx_x1_1 ?hx_x2_1 ?hx_x3_1 ?hx_x4_1 ?hx_x5_1 ?hx_x6_1 ?hx_x7_1 ?hx_q1_OverflowError ?hx_q1_IndexError ?hx_q1_RuntimeError ?hx_q1_KeyError ?hx_q1_ArithmeticError ?hx_q1_TooMany ?hx_q1_NothingToUndo ?hx_q1_Refused ?hx_q1_ValueError ?hx_q1_UnknownPlace ?hx_q1_InvalidNumber ?hx_q1_InvalidOperation ?hx_q1_ParseError ?hx_q1_NetError ?hx_q1_InvalidNet ?hx_q1_InvalidLot ?hx_q1_InvalidParting ?hx_ln1 ?hx_he1 ?hx_ni1 ?hx_g2 ?hx_lc2 ?hx_kc2 ?hx_x1_2 ?hx_x2_2 ?hx_x3_2 ?hx_x4_2 ?hx_x5_2 ?hx_x6_2 ?hx_x7_2 ?hx_q2_OverflowError ?hx_q2_IndexError ?hx_q2_RuntimeError ?hx_q2_KeyError ?hx_q2_ArithmeticError ?hx_q2_TooMany ?hx_q2_NothingToUndo ?hx_q2_Refused ?hx_q2_ValueError ?hx_q2_UnknownPlace ?hx_q2_InvalidNumber ?hx_q2_InvalidOperation ?hx_q2_ParseError ?hx_q2_NetError ?hx_q2_InvalidNet ?hx_q2_InvalidLot ?hx_q2_InvalidParting ?hx_ln2 ?hx_he2 ?hx_ni2 ?hx_g3 ?hx_lc3 ?hx_kc3 ?hx_x1_3 ?hx_x2_3 ?hx_x3_3 ?hx_x4_3 ?hx_x5_3 ?hx_x6_3 ?hx_x7_3 ?hx_q3_OverflowError ?hx_q3_IndexError ?hx_q3_RuntimeError ?hx_q3_KeyError ?hx_q3_ArithmeticError ?hx_q3_TooMany ?hx_q3_NothingToUndo ?hx_q3_Refused ?hx_q3_ValueError ?hx_q3_UnknownPlace ?hx_q3_InvalidNumber ?hx_q3_InvalidOperation ?hx_q3_ParseError ?hx_q3_NetError ?hx_q3_InvalidNet ?hx_q3_InvalidLot ?hx_q3_InvalidParting ?hx_ln3 ?hx_he3 ?hx_ni3 ?hx_g4 ?hx_lc4 ?hx_kc4 ?hx_x1_4 ?hx_x2_4 ?hx_x3_4 ?hx_x4_4 ?hx_x5_4 ?hx_x6_4 ?hx_x7_4 ?hx_q4_OverflowError ?hx_q4_IndexError ?hx_q4_RuntimeError ?hx_q4_KeyError ?hx_q4_ArithmeticError ?hx_q4_TooMany ?hx_q4_NothingToUndo ?hx_q4_Refused ?hx_q4_ValueError ?hx_q4_UnknownPlace ?hx_q4_InvalidNumber ?hx_q4_InvalidOperation ?hx_q4_ParseError ?hx_q4_NetError ?hx_q4_InvalidNet ?hx_q4_InvalidLot ?hx_q4_InvalidParting ?hx_ln4 ?hx_he4 ?hx_ni4 ?hx_g5 ?hx_lc5 ?hx_kc5 ?hx_x1_5 ?hx_x2_5 ?hx_x3_5 ?hx_x4_5 ?hx_x5_5 ?hx_x6_5 ?hx_x7_5 ?hx_q5_OverflowError ?hx_q5_IndexError ?hx_q5_RuntimeError ?hx_q5_KeyError ?hx_q5_ArithmeticError ?hx_q5_TooMany ?hx_q5_NothingToUndo ?hx_q5_Refused ?hx_q5_ValueError ?hx_q5_UnknownPlace ?hx_q5_InvalidNumber ?hx_q5_InvalidOperation ?hx_q5_ParseError ?hx_q5_NetError ?hx_q5_InvalidNet ?hx_q5_InvalidLot ?hx_q5_InvalidParting ?hx_sa5 ?hx_ii5 ?hx_ti5 ?hx_li5 ?hx_ci5 ?hx_ki5 ?hx_no5 ?hx_rd5 ?hx_ra5 ?hx_va5 ?hx_g6 ?hx_lc6 ?hx_kc6 ?hx_x1_6 ?hx_x2_6 ?hx_x3_6 ?hx_x4_6 ?hx_x5_6 ?hx_x6_6 ?hx_x7_6 ?hx_q6_OverflowError ?hx_q6_IndexError ?hx_q6_RuntimeError ?hx_q6_KeyError ?hx_q6_ArithmeticError ?hx_q6_TooMany ?hx_q6_NothingToUndo ?hx_q6_Refused ?hx_q6_ValueError ?hx_q6_UnknownPlace ?hx_q6_InvalidNumber ?hx_q6_InvalidOperation ?hx_q6_ParseError ?hx_q6_NetError ?hx_q6_InvalidNet ?hx_q6_InvalidLot ?hx_q6_InvalidParting ?hx_sa6 ?hx_ii6 ?hx_ti6 ?hx_li6 ?hx_ci6 ?hx_ki6 ?hx_no6 ?hx_va6 ?hx_g7 ?hx_lc7 ?hx_kc7 ?hx_x1_7 ?hx_x2_7 ?hx_x3_7 ?hx_x4_7 ?hx_x5_7 ?hx_x6_7 ?hx_x7_7 ?hx_q7_OverflowError ?hx_q7_IndexError ?hx_q7_RuntimeError ?hx_q7_KeyError ?hx_q7_ArithmeticError ?hx_q7_TooMany ?hx_q7_NothingToUndo ?hx_q7_Refused ?hx_q7_ValueError ?hx_q7_UnknownPlace ?hx_q7_InvalidNumber ?hx_q7_InvalidOperation ?hx_q7_ParseError ?hx_q7_NetError ?hx_q7_InvalidNet ?hx_q7_InvalidLot ?hx_q7_InvalidParting ?hx_sa7 ?hx_ii7 ?hx_ti7 ?hx_li7 ?hx_ci7 ?hx_ki7 ?hx_no7 ?hx_va7 ?hx_g8 ?hx_lc8 ?hx_kc8 ?hx_x1_8 ?hx_x2_8 ?hx_x3_8 ?hx_x4_8 ?hx_x5_8 ?hx_x6_8 ?hx_x7_8 ?hx_q8_OverflowError ?hx_q8_IndexError ?hx_q8_RuntimeError ?hx_q8_KeyError ?hx_q8_ArithmeticError ?hx_q8_TooMany ?hx_q8_NothingToUndo ?hx_q8_Refused ?hx_q8_ValueError ?hx_q8_UnknownPlace ?hx_q8_InvalidNumber ?hx_q8_InvalidOperation ?hx_q8_ParseError ?hx_q8_NetError ?hx_q8_InvalidNet ?hx_q8_InvalidLot ?hx_q8_InvalidParting ?hx_sa8 ?hx_ii8 ?hx_ti8 ?hx_li8 ?hx_ci8 ?hx_ki8 ?hx_no8 ?hx_va8 ?hx_g9 ?hx_lc9 ?hx_kc9 ?hx_x1_9 ?hx_x2_9 ?hx_x3_9 ?hx_x4_9 ?hx_x5_9 ?hx_x6_9 ?hx_x7_9 ?hx_q9_OverflowError ?hx_q9_IndexError ?hx_q9_RuntimeError ?hx_q9_KeyError ?hx_q9_ArithmeticError ?hx_q9_TooMany ?hx_q9_NothingToUndo ?hx_q9_Refused ?hx_q9_ValueError ?hx_q9_UnknownPlace ?hx_q9_InvalidNumber ?hx_q9_InvalidOperation ?hx_q9_ParseError ?hx_q9_NetError ?hx_q9_InvalidNet ?hx_q9_InvalidLot ?hx_q9_InvalidParting ?hx_sa9 ?hx_ii9 ?hx_ti9 ?hx_li9 ?hx_ci9 ?hx_ki9 ?hx_no9 ?hx_va9 ?hx_g10 ?hx_lc10 ?hx_kc10 ?hx_x1_10 ?hx_x2_10 ?hx_x3_10 ?hx_x4_10 ?hx_x5_10 ?hx_x6_10 ?hx_x7_10 ?hx_q10_OverflowError ?hx_q10_IndexError ?hx_q10_RuntimeError ?hx_q10_KeyError ?hx_q10_ArithmeticError ?hx_q10_TooMany ?hx_q10_NothingToUndo ?hx_q10_Refused ?hx_q10_ValueError ?hx_q10_UnknownPlace ?hx_q10_InvalidNumber ?hx_q10_InvalidOperation ?hx_q10_ParseError ?hx_q10_NetError ?hx_q10_InvalidNet ?hx_q10_InvalidLot ?hx_q10_InvalidParting ?hx_sa10 ?hx_ii10 ?hx_ti10 ?hx_li10 ?hx_ci10 ?hx_ki10 ?hx_no10 ?hx_va10 ?hx_y1 ?hx_y2
    (case a0 => k_is)
    (case l0 => k_is)
    (case c0 => k_is)
    (case k0 => k_is)
    (case a1 => k_is)
    (case l1 => k_is)
    (case c1 => k_is)
    (case k1 => k_is)
    (case a2 => k_is)
    (case l2 => k_is)
    (case c2 => k_is)
    (case k2 => k_is)
    (case a3 => k_is)
    (case l3 => k_is)
    (case c3 => k_is)
    (case k3 => k_is)
    (case a4 => k_is)
    (case l4 => k_is)
    (case c4 => k_is)
    (case k4 => k_is)
    (case a5 => k_is)
    (case l5 => k_is)
    (case c5 => k_is)
    (case k5 => k_is)
    (case z0 => k_is)
    (case z1 => k_is)
    (case z2 => k_is)
    (case z3 => k_is)
    (case z4 => k_is)
    (case z5 => k_is)
    (case z6 => k_is)
    (case z7 => k_is)
    (case z8 => k_is)
    (case z9 => k_is)
    (case z10 => k_is)
    (case z11 => k_is)
    (case z12 => k_is)
    (case z13 => k_is)
    (case hx_g0 => k_is)
    (case hx_lc0 => k_is)
    (case hx_kc0 => k_is)
    (case hx_x1_0 => k_is)
    (case hx_x2_0 => k_is)
    (case hx_x3_0 => k_is)
    (case hx_x4_0 => k_is)
    (case hx_x5_0 => k_is)
    (case hx_x6_0 => k_is)
    (case hx_x7_0 => k_is)
    (case hx_q0_OverflowError => k_is)
    (case hx_q0_IndexError => k_is)
    (case hx_q0_RuntimeError => k_is)
    (case hx_q0_KeyError => k_is)
    (case hx_q0_ArithmeticError => k_is)
    (case hx_q0_TooMany => k_is)
    (case hx_q0_NothingToUndo => k_is)
    (case hx_q0_Refused => k_is)
    (case hx_q0_ValueError => k_is)
    (case hx_q0_UnknownPlace => k_is)
    (case hx_q0_InvalidNumber => k_is)
    (case hx_q0_InvalidOperation => k_is)
    (case hx_q0_ParseError => k_is)
    (case hx_q0_NetError => k_is)
    (case hx_q0_InvalidNet => k_is)
    (case hx_q0_InvalidLot => k_is)
    (case hx_q0_InvalidParting => k_is)
    (case hx_ln0 => k_is)
    (case hx_he0 => (first | kernel_rfl | simp [DL.strKeys]))
    (case hx_ni0 => k_is)
    (case hx_g1 => k_is)
    (case hx_lc1 => k_is)
    (case hx_kc1 => k_is)
    (case hx_x1_1 => k_is)
    (case hx_x2_1 => k_is)
    (case hx_x3_1 => k_is)
    (case hx_x4_1 => k_is)
    (case hx_x5_1 => k_is)
    (case hx_x6_1 => k_is)
    (case hx_x7_1 => k_is)
    (case hx_q1_OverflowError => k_is)
    (case hx_q1_IndexError => k_is)
    (case hx_q1_RuntimeError => k_is)
    (case hx_q1_KeyError => k_is)
    (case hx_q1_ArithmeticError => k_is)
    (case hx_q1_TooMany => k_is)
    (case hx_q1_NothingToUndo => k_is)
    (case hx_q1_Refused => k_is)
    (case hx_q1_ValueError => k_is)
    (case hx_q1_UnknownPlace => k_is)
    (case hx_q1_InvalidNumber => k_is)
    (case hx_q1_InvalidOperation => k_is)
    (case hx_q1_ParseError => k_is)
    (case hx_q1_NetError => k_is)
    (case hx_q1_InvalidNet => k_is)
    (case hx_q1_InvalidLot => k_is)
    (case hx_q1_InvalidParting => k_is)
    (case hx_ln1 => k_is)
    (case hx_he1 => (first | kernel_rfl | simp [DL.strKeys]))
    (case hx_ni1 => k_is)
    (case hx_g2 => k_is)
    (case hx_lc2 => k_is)
    (case hx_kc2 => k_is)
    (case hx_x1_2 => k_is)
    (case hx_x2_2 => k_is)
    (case hx_x3_2 => k_is)
    (case hx_x4_2 => k_is)
    (case hx_x5_2 => k_is)
    (case hx_x6_2 => k_is)
    (case hx_x7_2 => k_is)
    (case hx_q2_OverflowError => k_is)
    (case hx_q2_IndexError => k_is)
    (case hx_q2_RuntimeError => k_is)
    (case hx_q2_KeyError => k_is)
    (case hx_q2_ArithmeticError => k_is)
    (case hx_q2_TooMany => k_is)
    (case hx_q2_NothingToUndo => k_is)
    (case hx_q2_Refused => k_is)
    (case hx_q2_ValueError => k_is)
    (case hx_q2_UnknownPlace => k_is)
    (case hx_q2_InvalidNumber => k_is)
    (case hx_q2_InvalidOperation => k_is)
    (case hx_q2_ParseError => k_is)
    (case hx_q2_NetError => k_is)
    (case hx_q2_InvalidNet => k_is)
    (case hx_q2_InvalidLot => k_is)
    (case hx_q2_InvalidParting => k_is)
    (case hx_ln2 => k_is)
    (case hx_he2 => (first | kernel_rfl | simp [DL.strKeys]))
    (case hx_ni2 => k_is)
    (case hx_g3 => k_is)
    (case hx_lc3 => k_is)
    (case hx_kc3 => k_is)
    (case hx_x1_3 => k_is)
    (case hx_x2_3 => k_is)
    (case hx_x3_3 => k_is)
    (case hx_x4_3 => k_is)
    (case hx_x5_3 => k_is)
    (case hx_x6_3 => k_is)
    (case hx_x7_3 => k_is)
    (case hx_q3_OverflowError => k_is)
    (case hx_q3_IndexError => k_is)
    (case hx_q3_RuntimeError => k_is)
    (case hx_q3_KeyError => k_is)
    (case hx_q3_ArithmeticError => k_is)
    (case hx_q3_TooMany => k_is)
    (case hx_q3_NothingToUndo => k_is)
    (case hx_q3_Refused => k_is)
    (case hx_q3_ValueError => k_is)
    (case hx_q3_UnknownPlace => k_is)
    (case hx_q3_InvalidNumber => k_is)
    (case hx_q3_InvalidOperation => k_is)
    (case hx_q3_ParseError => k_is)
    (case hx_q3_NetError => k_is)
    (case hx_q3_InvalidNet => k_is)
    (case hx_q3_InvalidLot => k_is)
    (case hx_q3_InvalidParting => k_is)
    (case hx_ln3 => k_is)
    (case hx_he3 => (first | kernel_rfl | simp [DL.strKeys]))
    (case hx_ni3 => k_is)
    (case hx_g4 => k_is)
    (case hx_lc4 => k_is)
    (case hx_kc4 => k_is)
    (case hx_x1_4 => k_is)
    (case hx_x2_4 => k_is)
    (case hx_x3_4 => k_is)
    (case hx_x4_4 => k_is)
    (case hx_x5_4 => k_is)
    (case hx_x6_4 => k_is)
    (case hx_x7_4 => k_is)
    (case hx_q4_OverflowError => k_is)
    (case hx_q4_IndexError => k_is)
    (case hx_q4_RuntimeError => k_is)
    (case hx_q4_KeyError => k_is)
    (case hx_q4_ArithmeticError => k_is)
    (case hx_q4_TooMany => k_is)
    (case hx_q4_NothingToUndo => k_is)
    (case hx_q4_Refused => k_is)
    (case hx_q4_ValueError => k_is)
    (case hx_q4_UnknownPlace => k_is)
    (case hx_q4_InvalidNumber => k_is)
    (case hx_q4_InvalidOperation => k_is)
    (case hx_q4_ParseError => k_is)
    (case hx_q4_NetError => k_is)
    (case hx_q4_InvalidNet => k_is)
    (case hx_q4_InvalidLot => k_is)
    (case hx_q4_InvalidParting => k_is)
    (case hx_ln4 => k_is)
    (case hx_he4 => (first | kernel_rfl | simp [DL.strKeys]))
    (case hx_ni4 => k_is)
    (case hx_g5 => k_is)
    (case hx_lc5 => k_is)
    (case hx_kc5 => k_is)
    (case hx_x1_5 => k_is)
    (case hx_x2_5 => k_is)
    (case hx_x3_5 => k_is)
    (case hx_x4_5 => k_is)
    (case hx_x5_5 => k_is)
    (case hx_x6_5 => k_is)
    (case hx_x7_5 => k_is)
    (case hx_q5_OverflowError => k_is)
    (case hx_q5_IndexError => k_is)
    (case hx_q5_RuntimeError => k_is)
    (case hx_q5_KeyError => k_is)
    (case hx_q5_ArithmeticError => k_is)
    (case hx_q5_TooMany => k_is)
    (case hx_q5_NothingToUndo => k_is)
    (case hx_q5_Refused => k_is)
    (case hx_q5_ValueError => k_is)
    (case hx_q5_UnknownPlace => k_is)
    (case hx_q5_InvalidNumber => k_is)
    (case hx_q5_InvalidOperation => k_is)
    (case hx_q5_ParseError => k_is)
    (case hx_q5_NetError => k_is)
    (case hx_q5_InvalidNet => k_is)
    (case hx_q5_InvalidLot => k_is)
    (case hx_q5_InvalidParting => k_is)
    (case hx_sa5 => k_is)
    (case hx_ii5 => k_is)
    (case hx_ti5 => k_is)
    (case hx_li5 => k_is)
    (case hx_ci5 => k_is)
    (case hx_ki5 => k_is)
    (case hx_no5 => k_is)
    (case hx_rd5 => k_is)
    (case hx_ra5 => k_is)
    (case hx_va5 => k_is)
    (case hx_g6 => k_is)
    (case hx_lc6 => k_is)
    (case hx_kc6 => k_is)
    (case hx_x1_6 => k_is)
    (case hx_x2_6 => k_is)
    (case hx_x3_6 => k_is)
    (case hx_x4_6 => k_is)
    (case hx_x5_6 => k_is)
    (case hx_x6_6 => k_is)
    (case hx_x7_6 => k_is)
    (case hx_q6_OverflowError => k_is)
    (case hx_q6_IndexError => k_is)
    (case hx_q6_RuntimeError => k_is)
    (case hx_q6_KeyError => k_is)
    (case hx_q6_ArithmeticError => k_is)
    (case hx_q6_TooMany => k_is)
    (case hx_q6_NothingToUndo => k_is)
    (case hx_q6_Refused => k_is)
    (case hx_q6_ValueError => k_is)
    (case hx_q6_UnknownPlace => k_is)
    (case hx_q6_InvalidNumber => k_is)
    (case hx_q6_InvalidOperation => k_is)
    (case hx_q6_ParseError => k_is)
    (case hx_q6_NetError => k_is)
    (case hx_q6_InvalidNet => k_is)
    (case hx_q6_InvalidLot => k_is)
    (case hx_q6_InvalidParting => k_is)
    (case hx_sa6 => k_is)
    (case hx_ii6 => k_is)
    (case hx_ti6 => k_is)
    (case hx_li6 => k_is)
    (case hx_ci6 => k_is)
    (case hx_ki6 => k_is)
    (case hx_no6 => k_is)
    (case hx_va6 => k_is)
    (case hx_g7 => k_is)
    (case hx_lc7 => k_is)
    (case hx_kc7 => k_is)
    (case hx_x1_7 => k_is)
    (case hx_x2_7 => k_is)
    (case hx_x3_7 => k_is)
    (case hx_x4_7 => k_is)
    (case hx_x5_7 => k_is)
    (case hx_x6_7 => k_is)
    (case hx_x7_7 => k_is)
    (case hx_q7_OverflowError => k_is)
    (case hx_q7_IndexError => k_is)
    (case hx_q7_RuntimeError => k_is)
    (case hx_q7_KeyError => k_is)
    (case hx_q7_ArithmeticError => k_is)
    (case hx_q7_TooMany => k_is)
    (case hx_q7_NothingToUndo => k_is)
    (case hx_q7_Refused => k_is)
    (case hx_q7_ValueError => k_is)
    (case hx_q7_UnknownPlace => k_is)
    (case hx_q7_InvalidNumber => k_is)
    (case hx_q7_InvalidOperation => k_is)
    (case hx_q7_ParseError => k_is)
    (case hx_q7_NetError => k_is)
    (case hx_q7_InvalidNet => k_is)
    (case hx_q7_InvalidLot => k_is)
    (case hx_q7_InvalidParting => k_is)
    (case hx_sa7 => k_is)
    (case hx_ii7 => k_is)
    (case hx_ti7 => k_is)
    (case hx_li7 => k_is)
    (case hx_ci7 => k_is)
    (case hx_ki7 => k_is)
    (case hx_no7 => k_is)
    (case hx_va7 => k_is)
    (case hx_g8 => k_is)
    (case hx_lc8 => k_is)
    (case hx_kc8 => k_is)
    (case hx_x1_8 => k_is)
    (case hx_x2_8 => k_is)
    (case hx_x3_8 => k_is)
    (case hx_x4_8 => k_is)
    (case hx_x5_8 => k_is)
    (case hx_x6_8 => k_is)
    (case hx_x7_8 => k_is)
    (case hx_q8_OverflowError => k_is)
    (case hx_q8_IndexError => k_is)
    (case hx_q8_RuntimeError => k_is)
    (case hx_q8_KeyError => k_is)
    (case hx_q8_ArithmeticError => k_is)
    (case hx_q8_TooMany => k_is)
    (case hx_q8_NothingToUndo => k_is)
    (case hx_q8_Refused => k_is)
    (case hx_q8_ValueError => k_is)
    (case hx_q8_UnknownPlace => k_is)
    (case hx_q8_InvalidNumber => k_is)
    (case hx_q8_InvalidOperation => k_is)
    (case hx_q8_ParseError => k_is)
    (case hx_q8_NetError => k_is)
    (case hx_q8_InvalidNet => k_is)
    (case hx_q8_InvalidLot => k_is)
    (case hx_q8_InvalidParting => k_is)
    (case hx_sa8 => k_is)
    (case hx_ii8 => k_is)
    (case hx_ti8 => k_is)
    (case hx_li8 => k_is)
    (case hx_ci8 => k_is)
    (case hx_ki8 => k_is)
    (case hx_no8 => k_is)
    (case hx_va8 => k_is)
    (case hx_g9 => k_is)
    (case hx_lc9 => k_is)
    (case hx_kc9 => k_is)
    (case hx_x1_9 => k_is)
    (case hx_x2_9 => k_is)
    (case hx_x3_9 => k_is)
    (case hx_x4_9 => k_is)
    (case hx_x5_9 => k_is)
    (case hx_x6_9 => k_is)
    (case hx_x7_9 => k_is)
    (case hx_q9_OverflowError => k_is)
    (case hx_q9_IndexError => k_is)
    (case hx_q9_RuntimeError => k_is)
    (case hx_q9_KeyError => k_is)
    (case hx_q9_ArithmeticError => k_is)
    (case hx_q9_TooMany => k_is)
    (case hx_q9_NothingToUndo => k_is)
    (case hx_q9_Refused => k_is)
    (case hx_q9_ValueError => k_is)
    (case hx_q9_UnknownPlace => k_is)
    (case hx_q9_InvalidNumber => k_is)
    (case hx_q9_InvalidOperation => k_is)
    (case hx_q9_ParseError => k_is)
    (case hx_q9_NetError => k_is)
    (case hx_q9_InvalidNet => k_is)
    (case hx_q9_InvalidLot => k_is)
    (case hx_q9_InvalidParting => k_is)
    (case hx_sa9 => k_is)
    (case hx_ii9 => k_is)
    (case hx_ti9 => k_is)
    (case hx_li9 => k_is)
    (case hx_ci9 => k_is)
    (case hx_ki9 => k_is)
    (case hx_no9 => k_is)
    (case hx_va9 => k_is)
    (case hx_g10 => k_is)
    (case hx_lc10 => k_is)
    (case hx_kc10 => k_is)
    (case hx_x1_10 => k_is)
    (case hx_x2_10 => k_is)
    (case hx_x3_10 => k_is)
    (case hx_x4_10 => k_is)
    (case hx_x5_10 => k_is)
    (case hx_x6_10 => k_is)
    (case hx_x7_10 => k_is)
    (case hx_q10_OverflowError => k_is)
    (case hx_q10_IndexError => k_is)
    (case hx_q10_RuntimeError => k_is)
    (case hx_q10_KeyError => k_is)
    (case hx_q10_ArithmeticError => k_is)
    (case hx_q10_TooMany => k_is)
    (case hx_q10_NothingToUndo => k_is)
    (case hx_q10_Refused => k_is)
    (case hx_q10_ValueError => k_is)
    (case hx_q10_UnknownPlace => k_is)
    (case hx_q10_InvalidNumber => k_is)
    (case hx_q10_InvalidOperation => k_is)
    (case hx_q10_ParseError => k_is)
    (case hx_q10_NetError => k_is)
    (case hx_q10_InvalidNet => k_is)
    (case hx_q10_InvalidLot => k_is)
    (case hx_q10_InvalidParting => k_is)
    (case hx_sa10 => k_is)
    (case hx_ii10 => k_is)
    (case hx_ti10 => k_is)
    (case hx_li10 => k_is)
    (case hx_ci10 => k_is)
    (case hx_ki10 => k_is)
    (case hx_no10 => k_is)
    (case hx_va10 => k_is)
    (case hx_y1 => k_is)
    (case hx_y2 => k_is)
