import PyProof.Rows.All
import Wide.All
import OpenK.AllK
import Wide.FinOn
import HandS.ForMost
import HandS.IsInst
import HandS.Deep
import HandS.Flow
import HandS.TupAny
import HandS.TupMul
import HandS.Style
import HandS.Walk
import HandS.Zip
import HandS.More
import PySem.Challenge.RW_cellvouch_k02_what_words_stand_for
set_option Elab.async false
set_option linter.all false
set_option maxRecDepth 100000
namespace Vm
open PySem PySem.Spec PyProof.Rows L2

/-- a value: data; a list by value (nobody changes it any more); a read-only list; an object of the store -/
inductive D where
  | non | bl (b : Bool) | int (i : Int) | str (x : Str) | tup (xs : List D) | tl (xs : List D) | sl (xs : List D) | ref (n : Nat) | ty (n : String)
  deriving Inhabited
inductive O where
  | lst (xs : List D)
  | dic (kvs : List (Key × D))
abbrev Store := List O
abbrev En := List (Option D)
abbrev FE := En → Store → Option (D × Store)
abbrev FT := En → Store → Option (Bool × Store)
abbrev FA := En → Store → Option (List D × Store)
inductive Out where
  | nx (e : En) | rt (v : D) | bk (e : En) | ct (e : En)
abbrev FS := En → Store → Option (Out × Store)

/-- where the store's objects lie; what is hidden -/
structure Wn where
  r : List Addr
  h : List Addr

mutual
def Rep (K : PySem.W.Frag) (ρ : Wn) (H : Hp) : D → V → Prop
  | .non, v => v = .non
  | .bl b, v => v = .bl b
  | .int i, v => v = .int i
  | .str x, v => v = .str x
  | .tup ds, v => ∃ a vs, v = .ref a ∧ SqT K H a vs ∧ Reps K ρ H ds vs
  | .tl ds, v => ∃ a vs, v = .ref a ∧ ((a ∉ ρ.r ∧ a ∉ ρ.h) ∧ H a = some (.lst vs)) ∧ Reps K ρ H ds vs
  | .sl ds, v => ∃ a vs, v = .ref a ∧ ((a ∉ ρ.r ∧ ∃ ob, H a = some (.frz ob (.lst vs))) ∨ ∃ (o : Obj) (its : Array Value) (n : Nat), K.lookup a = some o ∧ o.cls = .type "list" ∧ o.dict = none ∧ o.data = .seq its n ∧ its.size ≤ sizeLine ∧ Vals vs its.toList) ∧ Reps K ρ H ds vs
  | .ref n, v => ∃ a, v = .ref a ∧ ρ.r[n]? = some a
  | .ty n, v => v = .ty n
def Reps (K : PySem.W.Frag) (ρ : Wn) (H : Hp) : List D → List V → Prop
  | [], vs => vs = []
  | d :: ds, vs => ∃ v r, vs = v :: r ∧ Rep K ρ H d v ∧ Reps K ρ H ds r
end

structure Le (ρ : Wn) (H : Hp) (ρ' : Wn) (H' : Hp) : Prop where
  pre : ∃ m hs, ρ' = ⟨ρ.r ++ m, hs ++ ρ.h⟩ ∧ (∀ a ∈ m, H a = none) ∧ ∀ a ∈ hs, H a = none
  keep : ∀ a o, a ∉ ρ.r → H a = some o → H' a = some o
  tup : ∀ a xs, Rd H a (.tup xs) → Rd H' a (.tup xs)
  live : ∀ a, H' a = none → H a = none

section
variable {K : PySem.W.Frag} {ρ ρ' ρ'' : Wn} {H H' H'' : Hp}
theorem Le.refl : Le ρ H ρ H := ⟨⟨[], [], by simp, by simp, by simp⟩, fun _ _ _ h => h, fun _ _ h => h, fun _ h => h⟩
theorem Le.notinH (L : Le ρ H ρ' H') {a : Addr} {o : HO} (h : a ∉ ρ.h) (e : H a = some o) : a ∉ ρ'.h := by
  obtain ⟨m, hs, rfl, _, hh⟩ := L.pre
  intro q
  rcases List.mem_append.mp q with q | q
  · rw [hh a q] at e; cases e
  · exact h q
theorem Le.notin (L : Le ρ H ρ' H') {a : Addr} {o : HO} (h : a ∉ ρ.r) (e : H a = some o) : a ∉ ρ'.r := by
  obtain ⟨m, hs, rfl, hm, _⟩ := L.pre
  intro q
  rcases List.mem_append.mp q with q | q
  · exact h q
  · rw [hm a q] at e; cases e
theorem Le.trans (L : Le ρ H ρ' H') (L2 : Le ρ' H' ρ'' H'') : Le ρ H ρ'' H'' := by
  refine ⟨?_, fun a o h e => L2.keep a o (L.notin h e) (L.keep a o h e), fun a xs h => L2.tup a xs (L.tup a xs h), fun a h => L.live a (L2.live a h)⟩
  obtain ⟨m, hs, rfl, hm, hh⟩ := L.pre
  obtain ⟨m', hs', rfl, hm', hh'⟩ := L2.pre
  refine ⟨m ++ m', hs' ++ hs, by rw [List.append_assoc, List.append_assoc], fun a h => ?_, fun a h => ?_⟩
  · rcases List.mem_append.mp h with h | h
    · exact hm a h
    · exact L.live a (hm' a h)
  · rcases List.mem_append.mp h with h | h
    · exact L.live a (hh' a h)
    · exact hh a h
theorem Le.sqt (L : Le ρ H ρ' H') {a : Addr} {xs : List V} (h : SqT K H a xs) : SqT K H' a xs := by
  rcases h with h | h
  · exact .inl (L.tup a xs h)
  · exact .inr h
mutual
theorem Rep.mono (L : Le ρ H ρ' H') : ∀ (d : D) (v : V), Rep K ρ H d v → Rep K ρ' H' d v
  | .non, _, h => h
  | .bl _, _, h => h
  | .int _, _, h => h
  | .str _, _, h => h
  | .tup ds, v, h => by
    obtain ⟨a, vs, e, hs, hr⟩ := h
    exact ⟨a, vs, e, L.sqt hs, Reps.mono L ds vs hr⟩
  | .tl ds, v, h => by
    obtain ⟨a, vs, e, ⟨hn, hs⟩, hr⟩ := h
    exact ⟨a, vs, e, ⟨⟨L.notin hn.1 hs, L.notinH hn.2 hs⟩, L.keep _ _ hn.1 hs⟩, Reps.mono L ds vs hr⟩
  | .sl ds, v, h => by
    obtain ⟨a, vs, e, h1, hr⟩ := h
    refine ⟨a, vs, e, ?_, Reps.mono L ds vs hr⟩
    rcases h1 with ⟨hn, ob, hs⟩ | h1
    · exact .inl ⟨L.notin hn hs, ob, L.keep _ _ hn hs⟩
    · exact .inr h1
  | .ref n, v, h => by
    obtain ⟨a, e, hr⟩ := h
    obtain ⟨m, hs, rfl, _⟩ := L.pre
    obtain ⟨hlt, _⟩ := List.getElem?_eq_some_iff.mp hr
    exact ⟨a, e, by rw [List.getElem?_append_left hlt]; exact hr⟩
  | .ty _, _, h => h
theorem Reps.mono (L : Le ρ H ρ' H') : ∀ (ds : List D) (vs : List V), Reps K ρ H ds vs → Reps K ρ' H' ds vs
  | [], _, h => h
  | d :: ds, vs, h => by
    obtain ⟨v, r, e, h1, h2⟩ := h
    exact ⟨v, r, e, Rep.mono L d v h1, Reps.mono L ds r h2⟩
end
theorem Reps.length : ∀ {ds : List D} {vs : List V}, Reps K ρ H ds vs → ds.length = vs.length
  | [], _, h => by rw [show _ = [] from h]; rfl
  | d :: ds, vs, h => by
    obtain ⟨v, r, e, _, h2⟩ := h
    rw [e, List.length_cons, List.length_cons, Reps.length h2]
theorem Reps.get : ∀ {ds : List D} {vs : List V} {i : Nat} {d : D}, Reps K ρ H ds vs → ds[i]? = some d → ∃ v, vs[i]? = some v ∧ Rep K ρ H d v
  | [], _, _, _, _, e => by simp at e
  | d :: ds, vs, 0, d', h, e => by
    obtain ⟨v, r, rfl, h1, _⟩ := h
    simp at e; subst e
    exact ⟨v, rfl, h1⟩
  | d :: ds, vs, i + 1, d', h, e => by
    obtain ⟨v, r, rfl, _, h2⟩ := h
    obtain ⟨w, e2, r2⟩ := Reps.get (i := i) (d := d') h2 (by simpa using e)
    exact ⟨w, by simpa using e2, r2⟩
theorem Reps.getV : ∀ {ds : List D} {vs : List V} {i : Nat} {v : V}, Reps K ρ H ds vs → vs[i]? = some v → ∃ d, ds[i]? = some d ∧ Rep K ρ H d v
  | [], vs, _, _, h, e => by rw [show vs = [] from h] at e; simp at e
  | d :: ds, vs, 0, v', h, e => by
    obtain ⟨v, r, rfl, h1, _⟩ := h
    simp at e; subst e
    exact ⟨d, rfl, h1⟩
  | d :: ds, vs, i + 1, v', h, e => by
    obtain ⟨v, r, rfl, _, h2⟩ := h
    obtain ⟨w, e2, r2⟩ := Reps.getV (i := i) (v := v') h2 (by simpa using e)
    exact ⟨w, by simpa using e2, r2⟩
theorem Reps.append : ∀ {as bs : List D} {vs ws : List V}, Reps K ρ H as vs → Reps K ρ H bs ws → Reps K ρ H (as ++ bs) (vs ++ ws)
  | [], _, _, _, h, h' => by rw [show _ = [] from h]; exact h'
  | d :: ds, bs, vs, ws, h, h' => by
    obtain ⟨v, r, rfl, h1, h2⟩ := h
    exact ⟨v, r ++ ws, rfl, h1, Reps.append h2 h'⟩
theorem Reps.take : ∀ {ds : List D} {vs : List V} (n : Nat), Reps K ρ H ds vs → Reps K ρ H (ds.take n) (vs.take n)
  | [], _, n, h => by rw [show _ = [] from h]; simp [Reps]
  | d :: ds, vs, 0, h => by simp [Reps]
  | d :: ds, vs, n + 1, h => by
    obtain ⟨v, r, rfl, h1, h2⟩ := h
    exact ⟨v, r.take n, rfl, h1, Reps.take n h2⟩
theorem Reps.drop : ∀ {ds : List D} {vs : List V} (n : Nat), Reps K ρ H ds vs → Reps K ρ H (ds.drop n) (vs.drop n)
  | ds, vs, 0, h => h
  | [], _, n + 1, h => by rw [show _ = [] from h]; simp [Reps]
  | d :: ds, vs, n + 1, h => by
    obtain ⟨v, r, rfl, h1, h2⟩ := h
    exact Reps.drop n h2
theorem Reps.set {d : D} {v : V} (hd : Rep K ρ H d v) : ∀ {ds : List D} {vs : List V} (n : Nat), Reps K ρ H ds vs → Reps K ρ H (ds.set n d) (vs.set n v)
  | [], _, n, h => by rw [show _ = [] from h]; simp [Reps]
  | e :: ds, vs, 0, h => by
    obtain ⟨u, r, rfl, h1, h2⟩ := h
    exact ⟨v, r, rfl, hd, h2⟩
  | e :: ds, vs, n + 1, h => by
    obtain ⟨u, r, rfl, h1, h2⟩ := h
    exact ⟨u, r.set n v, rfl, h1, Reps.set hd n h2⟩
theorem Reps.snoc {ds : List D} {vs : List V} {d : D} {v : V} (h : Reps K ρ H ds vs) (hd : Rep K ρ H d v) : Reps K ρ H (ds ++ [d]) (vs ++ [v]) :=
  h.append ⟨v, [], rfl, hd, rfl⟩
theorem Reps.flat {ds : List D} {vs : List V} (h : Reps K ρ H ds vs) : ∀ n, Reps K ρ H (List.replicate n ds).flatten (List.replicate n vs).flatten
  | 0 => by simp [Reps]
  | n + 1 => by
    rw [List.replicate_succ, List.replicate_succ, List.flatten_cons, List.flatten_cons]
    exact h.append (Reps.flat h n)
end

def RepO (K : PySem.W.Frag) (ρ : Wn) (H : Hp) (o : O) (a : Addr) : Prop :=
  match o with
  | .lst ds => ∃ vs, H a = some (.lst vs) ∧ Reps K ρ H ds vs
  | .dic kvs => ∃ us, H a = some (.dK us) ∧ us.map (·.1) = kvs.map (·.1) ∧ Reps K ρ H (kvs.map (·.2)) (us.map (·.2))
structure Sim (K : PySem.W.Frag) (ρ : Wn) (st : Store) (H : Hp) : Prop where
  len : ρ.r.length = st.length
  hid : ∀ a, a ∈ ρ.h → ∃ o, H a = some o
  inj : ∀ (i j : Nat) (a : Addr), ρ.r[i]? = some a → ρ.r[j]? = some a → i = j
  obj : ∀ (n : Nat) (o : O) (a : Addr), st[n]? = some o → ρ.r[n]? = some a → RepO K ρ H o a
structure EnR (K : PySem.W.Frag) (ρ : Wn) (H : Hp) (env : En) (σ : L2.St) : Prop where
  len : env.length = σ.length
  get : ∀ (i : Nat) (d : D), env[i]? = some (some d) → ∃ v, σ[i]? = some (some v) ∧ Rep K ρ H d v
section
variable {K : PySem.W.Frag} {ρ ρ' : Wn} {H H' : Hp} {st : Store} {env : En} {σ : L2.St}
theorem EnR.mono (E : EnR K ρ H env σ) (L : Le ρ H ρ' H') : EnR K ρ' H' env σ :=
  ⟨E.len, fun i d e => let ⟨v, e1, r⟩ := E.get i d e; ⟨v, e1, Rep.mono L d v r⟩⟩
theorem EnR.set (E : EnR K ρ H env σ) {i : Nat} {d : D} {v : V} (r : Rep K ρ H d v) : EnR K ρ H (env.set i (some d)) (σ.set i (some v)) := by
  refine ⟨by rw [List.length_set, List.length_set]; exact E.len, fun j d' e => ?_⟩
  by_cases h : i = j
  · subst h
    have hl : i < env.length := by
      have q := (List.getElem?_eq_some_iff.mp e).1
      simpa using q
    rw [List.getElem?_set_self hl] at e
    cases e
    exact ⟨v, by rw [List.getElem?_set_self (by rw [← E.len]; exact hl)], r⟩
  · rw [List.getElem?_set_ne h] at e
    obtain ⟨w, e1, r1⟩ := E.get j d' e
    exact ⟨w, by rw [List.getElem?_set_ne h]; exact e1, r1⟩
/-- a new object, not told of in the store -/
theorem Le.new {p : Addr} {o : HO} (h : H p = none) : Le ρ H ρ (upd H p o) := by
  refine ⟨⟨[], [], by simp, by simp, by simp⟩, fun a o' _ e => by rw [upd_ne (ne_of_none e h)]; exact e, fun a xs r => ?_, fun a e => ?_⟩
  · rcases r with r | ⟨ob, r⟩
    · exact .inl (by rw [upd_ne (ne_of_none r h)]; exact r)
    · exact .inr ⟨ob, by rw [upd_ne (ne_of_none r h)]; exact r⟩
  · by_cases q : a = p
    · subst q; rw [upd_same] at e; cases e
    · rwa [upd_ne q] at e
theorem RepO.mono (L : Le ρ H ρ' H') {o : O} {a : Addr} (h : RepO K ρ H o a) (e : H' a = H a) : RepO K ρ' H' o a := by
  cases o with
  | lst ds =>
    obtain ⟨vs, e1, r⟩ := h
    exact ⟨vs, e.trans e1, Reps.mono L _ _ r⟩
  | dic kvs =>
    obtain ⟨us, e1, ek, r⟩ := h
    exact ⟨us, e.trans e1, ek, Reps.mono L _ _ r⟩
theorem RepO.some {o : O} {a : Addr} (h : RepO K ρ H o a) : ∃ u, H a = some u := by
  cases o with
  | lst ds => obtain ⟨vs, e, _⟩ := h; exact ⟨_, e⟩
  | dic ds => obtain ⟨vs, e, _⟩ := h; exact ⟨_, e⟩
theorem Sim.at (S : Sim K ρ st H) {n : Nat} {a : Addr} (e : ρ.r[n]? = some a) : ∃ o, st[n]? = some o ∧ RepO K ρ H o a := by
  obtain ⟨hl, _⟩ := List.getElem?_eq_some_iff.mp e
  rw [S.len] at hl
  exact ⟨st[n], List.getElem?_eq_getElem hl, S.obj n _ a (List.getElem?_eq_getElem hl) e⟩
theorem Sim.addr (S : Sim K ρ st H) {n : Nat} {o : O} (e : st[n]? = some o) : ∃ a, ρ.r[n]? = some a ∧ RepO K ρ H o a := by
  obtain ⟨hl, _⟩ := List.getElem?_eq_some_iff.mp e
  rw [← S.len] at hl
  exact ⟨ρ.r[n], List.getElem?_eq_getElem hl, S.obj n _ _ e (List.getElem?_eq_getElem hl)⟩
theorem Sim.mem (S : Sim K ρ st H) {a : Addr} (h : a ∈ ρ.r) : ∃ u, H a = some u := by
  obtain ⟨n, hl, e⟩ := List.getElem_of_mem h
  obtain ⟨o, _, r⟩ := S.at (n := n) (a := a) (by rw [List.getElem?_eq_getElem hl, e])
  exact r.some
theorem Sim.fresh (S : Sim K ρ st H) {p : Addr} (h : H p = none) : p ∉ ρ.r := fun q => by
  obtain ⟨u, e⟩ := S.mem q
  rw [h] at e; cases e
theorem Sim.freshH (S : Sim K ρ st H) {p : Addr} (h : H p = none) : p ∉ ρ.h := fun q => by
  obtain ⟨u, e⟩ := S.hid p q
  rw [h] at e; cases e
/-- an object laid that the store doesn't tell of -/
theorem Sim.new (S : Sim K ρ st H) {p : Addr} {o : HO} (h : H p = none) : Sim K ρ st (upd H p o) :=
  ⟨S.len, fun a q => (S.hid a q).imp fun o e => by rw [upd_ne (ne_of_none e h)]; exact e, S.inj, fun n x a e1 e2 => (S.obj n x a e1 e2).mono (Le.new h) (upd_ne (fun q => S.fresh h (q ▸ List.mem_of_getElem? e2)))⟩
/-- an object laid that the store tells of -/
theorem Le.push {p : Addr} {o : HO} (h : H p = none) : Le ρ H ⟨ρ.r ++ [p], ρ.h⟩ (upd H p o) := by
  have L := Le.new (ρ := ρ) (o := o) h
  exact ⟨⟨[p], [], rfl, fun a q => by rw [List.mem_singleton.mp q]; exact h, by simp⟩, L.keep, L.tup, L.live⟩
theorem Sim.push (S : Sim K ρ st H) {p : Addr} {u : HO} {o : O} (h : H p = none) (r : RepO K ⟨ρ.r ++ [p], ρ.h⟩ (upd H p u) o p) : Sim K ⟨ρ.r ++ [p], ρ.h⟩ (st ++ [o]) (upd H p u) := by
  have hl := S.len
  refine ⟨by simp [hl], fun a q => (S.hid a q).imp fun o e => by rw [upd_ne (ne_of_none e h)]; exact e, fun i j a e1 e2 => ?_, fun n x a e1 e2 => ?_⟩
  · have hf := S.fresh h
    rcases Nat.lt_or_ge i ρ.r.length with hi | hi <;> rcases Nat.lt_or_ge j ρ.r.length with hj | hj
    · rw [List.getElem?_append_left hi] at e1
      rw [List.getElem?_append_left hj] at e2
      exact S.inj i j a e1 e2
    · rw [List.getElem?_append_left hi] at e1
      rw [List.getElem?_append_right hj] at e2
      have : a = p := by
        have := List.mem_of_getElem? e2
        simpa using this
      subst this
      exact absurd (List.mem_of_getElem? e1) hf
    · rw [List.getElem?_append_right hi] at e1
      rw [List.getElem?_append_left hj] at e2
      have : a = p := by
        have := List.mem_of_getElem? e1
        simpa using this
      subst this
      exact absurd (List.mem_of_getElem? e2) hf
    · rw [List.getElem?_append_right hi] at e1
      rw [List.getElem?_append_right hj] at e2
      have h1 := (List.getElem?_eq_some_iff.mp e1).1
      have h2 := (List.getElem?_eq_some_iff.mp e2).1
      simp at h1 h2
      omega
  · rcases Nat.lt_or_ge n ρ.r.length with hi | hi
    · rw [List.getElem?_append_left (by omega)] at e1
      rw [List.getElem?_append_left hi] at e2
      exact (S.obj n x a e1 e2).mono (Le.push h) (upd_ne (fun q => S.fresh h (q ▸ List.mem_of_getElem? e2)))
    · rw [List.getElem?_append_right hi] at e2
      rw [List.getElem?_append_right (by omega)] at e1
      have q2 := List.mem_of_getElem? e2
      have q1 := List.mem_of_getElem? e1
      simp at q1 q2
      subst q1 q2
      exact r
/-- an object of the store written -/
theorem Le.write {a : Addr} {u u' : HO} (ha : a ∈ ρ.r) (e : H a = some u) (hn : ∀ xs, u ≠ .tup xs) (hf : ∀ ob w, u ≠ .frz ob w) : Le ρ H ρ (upd H a u') := by
  refine ⟨⟨[], [], by simp, by simp, by simp⟩, fun b o hb q => ?_, fun b xs q => ?_, fun b q => ?_⟩
  · rw [upd_ne (fun z => hb (by rw [z]; exact ha))]; exact q
  · have : b ≠ a := by
      rintro rfl
      rcases q with q | ⟨ob, q⟩
      · rw [e] at q; exact hn xs (Option.some.inj q)
      · rw [e] at q; exact hf ob _ (Option.some.inj q)
    rcases q with q | ⟨ob, q⟩
    · exact .inl (by rw [upd_ne this]; exact q)
    · exact .inr ⟨ob, by rw [upd_ne this]; exact q⟩
  · by_cases z : b = a
    · subst z; rw [upd_same] at q; cases q
    · rwa [upd_ne z] at q
theorem Sim.write (S : Sim K ρ st H) {n : Nat} {a : Addr} {u u' : HO} {o : O} (hn : ρ.r[n]? = some a) (e : H a = some u) (h1 : ∀ xs, u ≠ .tup xs) (h2 : ∀ ob w, u ≠ .frz ob w)
    (r : RepO K ρ (upd H a u') o a) : Sim K ρ (st.set n o) (upd H a u') := by
  have ha : a ∈ ρ.r := List.mem_of_getElem? hn
  refine ⟨by rw [List.length_set]; exact S.len, fun b q => ?_, S.inj, fun m x b e1 e2 => ?_⟩
  · by_cases z : b = a
    · exact ⟨_, by rw [z]; exact upd_same⟩
    · exact (S.hid b q).imp fun o' e' => by rw [upd_ne z]; exact e'
  by_cases z : n = m
  · subst z
    rw [hn] at e2
    cases e2
    have hl : n < st.length := by
      rw [← S.len]; exact (List.getElem?_eq_some_iff.mp hn).1
    rw [List.getElem?_set_self hl] at e1
    cases e1
    exact r
  · rw [List.getElem?_set_ne z] at e1
    have : b ≠ a := by
      rintro rfl
      exact z (S.inj n m b hn e2)
    exact (S.obj m x b e1 e2).mono (Le.write ha e h1 h2) (upd_ne this)
end

/-! ### readings -/
def Post (K : PySem.W.Frag) (ρ : Wn) (H : Hp) (st' : Store) (d : D) (Q : VK) : Prop :=
  ∀ ρ' H' v, Le ρ H ρ' H' → Sim K ρ' st' H' → Rep K ρ' H' d v → Q v H'
theorem Post.mono {K : PySem.W.Frag} {ρ ρ' : Wn} {H H' : Hp} {st' : Store} {d : D} {Q : VK} (p : Post K ρ H st' d Q) (L : Le ρ H ρ' H') : Post K ρ' H' st' d Q :=
  fun ρ2 H2 v L2 => p ρ2 H2 v (L.trans L2)
def tE (K : PySem.W.Frag) (F : FE) : TE := fun σ H Q => ∃ ρ env st d st', Sim K ρ st H ∧ EnR K ρ H env σ ∧ F env st = some (d, st') ∧ Post K ρ H st' d Q
def PostT (K : PySem.W.Frag) (ρ : Wn) (H : Hp) (st' : Store) (Q : Hp → Prop) : Prop := ∀ ρ' H', Le ρ H ρ' H' → Sim K ρ' st' H' → Q H'
def tT (K : PySem.W.Frag) (F : FT) : TT := fun σ H Q => ∃ ρ env st b st', Sim K ρ st H ∧ EnR K ρ H env σ ∧ F env st = some (b, st') ∧ PostT K ρ H st' (Q b)
def PostA (K : PySem.W.Frag) (ρ : Wn) (H : Hp) (st' : Store) (ds : List D) (Q : List V → Hp → Prop) : Prop :=
  ∀ ρ' H' vs, Le ρ H ρ' H' → Sim K ρ' st' H' → Reps K ρ' H' ds vs → Q vs H'
def tA (K : PySem.W.Frag) (F : FA) : TA := fun σ H Q => ∃ ρ env st ds st', Sim K ρ st H ∧ EnR K ρ H env σ ∧ F env st = some (ds, st') ∧ PostA K ρ H st' ds Q
def PostS (K : PySem.W.Frag) (ρ : Wn) (H : Hp) (st' : Store) (Dn : Ends) : Out → Prop
  | .nx e => ∀ ρ' H' σ', Le ρ H ρ' H' → Sim K ρ' st' H' → EnR K ρ' H' e σ' → Dn.nx σ' H'
  | .rt d => ∀ ρ' H' v, Le ρ H ρ' H' → Sim K ρ' st' H' → Rep K ρ' H' d v → Dn.rt v H'
  | .bk e => ∀ ρ' H' σ', Le ρ H ρ' H' → Sim K ρ' st' H' → EnR K ρ' H' e σ' → Dn.bk σ' H'
  | .ct e => ∀ ρ' H' σ', Le ρ H ρ' H' → Sim K ρ' st' H' → EnR K ρ' H' e σ' → Dn.ct σ' H'
theorem PostS.mono {K : PySem.W.Frag} {ρ ρ' : Wn} {H H' : Hp} {st' : Store} {o : Out} {Dn : Ends} (p : PostS K ρ H st' Dn o) (L : Le ρ H ρ' H') : PostS K ρ' H' st' Dn o := by
  cases o with
  | nx e => exact fun ρ2 H2 v L2 => p ρ2 H2 v (L.trans L2)
  | rt e => exact fun ρ2 H2 v L2 => p ρ2 H2 v (L.trans L2)
  | bk e => exact fun ρ2 H2 v L2 => p ρ2 H2 v (L.trans L2)
  | ct e => exact fun ρ2 H2 v L2 => p ρ2 H2 v (L.trans L2)
def tS (K : PySem.W.Frag) (F : FS) : TS := fun Dn σ H => ∃ ρ env st o st', Sim K ρ st H ∧ EnR K ρ H env σ ∧ F env st = some (o, st') ∧ PostS K ρ H st' Dn o

theorem peConv {X : Cx} {e : Expr} {t t' : TE} (h : PE X e t) (c : ∀ σ H Q, t' σ H Q → t σ H Q) : PE X e t' := ⟨fun pins s σ H Q I q => h.run pins s σ H Q I (c _ _ _ q)⟩
theorem ptConv {X : Cx} {e : Expr} {t t' : TT} (h : PT X e t) (c : ∀ σ H Q, t' σ H Q → t σ H Q) : PT X e t' := ⟨fun pins s σ H Q I q => h.run pins s σ H Q I (c _ _ _ q)⟩
theorem pwConv {X : Cx} {e : Expr} {t t' : TT} (h : PW X e t) (c : ∀ σ H Q, t' σ H Q → t σ H Q) : PW X e t' := ⟨fun wh pins s σ H Q I q => h.run wh pins s σ H Q I (c _ _ _ q)⟩
theorem paConv {X : Cx} {e : List Expr} {t t' : TA} (h : PA X e t) (c : ∀ σ H Q, t' σ H Q → t σ H Q) : PA X e t' := ⟨fun pos pins s σ H Q I q => h.run pos pins s σ H Q I (c _ _ _ q)⟩
theorem psConv {X : Cx} {e : Stmt} {t t' : TS} (h : PS X e t) (c : ∀ σ H Q, t' σ H Q → t σ H Q) : PS X e t' := ⟨fun pins s σ H Q I q => h.run pins s σ H Q I (c _ _ _ q)⟩
theorem pssConv {X : Cx} {e : List Stmt} {t t' : TS} (h : PSs X e t) (c : ∀ σ H Q, t' σ H Q → t σ H Q) : PSs X e t' := ⟨fun pins s σ H Q I q => h.run pins s σ H Q I (c _ _ _ q)⟩

/-- go on behind an expression -/
theorem tE_bind {K : PySem.W.Frag} {F : FE} {ρ : Wn} {env : En} {st st1 : Store} {σ : L2.St} {H : Hp} {d : D} {Q : VK} (S : Sim K ρ st H) (E : EnR K ρ H env σ) (e : F env st = some (d, st1))
    (k : ∀ ρ1 H1 v, Le ρ H ρ1 H1 → Sim K ρ1 st1 H1 → Rep K ρ1 H1 d v → EnR K ρ1 H1 env σ → Q v H1) : tE K F σ H Q :=
  ⟨ρ, env, st, d, st1, S, E, e, fun ρ1 H1 v L S1 R => k ρ1 H1 v L S1 R (E.mono L)⟩
theorem tT_bind {K : PySem.W.Frag} {F : FT} {ρ : Wn} {env : En} {st st1 : Store} {σ : L2.St} {H : Hp} {b : Bool} {Q : Bool → Hp → Prop} (S : Sim K ρ st H) (E : EnR K ρ H env σ) (e : F env st = some (b, st1))
    (k : ∀ ρ1 H1, Le ρ H ρ1 H1 → Sim K ρ1 st1 H1 → EnR K ρ1 H1 env σ → Q b H1) : tT K F σ H Q :=
  ⟨ρ, env, st, b, st1, S, E, e, fun ρ1 H1 L S1 => k ρ1 H1 L S1 (E.mono L)⟩
end Vm
namespace Vm
open PySem PySem.Spec PyProof.Rows L2

section
variable {X : Cx} {pos : Pos}

/-! ### names, constants -/
def fVar (i : Nat) : FE := fun env st => match env[i]? with
  | some (some d) => some (d, st)
  | _ => none
theorem e_var (i : Nat) {x : Str} (hN : X.N[i]? = some x := by rfl) (hv : Vis X.env.scope x := by first | exact Or.inl rfl | exact Or.inr (Or.inl rfl) | exact Or.inr (Or.inr rfl)) (hd : (x == ("__debug__" : Str)) = false := by decide)
    (hcd : (x == ("__classdict__" : Str)) = false := by decide) : PE X (.Name x pos) (tE X.K (fVar i)) := by
  refine peConv (pe_var hN hv hd hcd) fun σ H Q h => ?_
  obtain ⟨ρ, env, st, d, st', S, E, e, p⟩ := h
  unfold fVar at e
  split at e
  · rename_i d' e1
    cases e
    obtain ⟨v, e2, r⟩ := E.get i d e1
    exact ⟨v, e2, p ρ H v Le.refl S r⟩
  · cases e
def fCon (d : D) : FE := fun _ st => some (d, st)
theorem e_con {e : Expr} {v : V} {d : D} (h : PE X e (tC v)) (hr : ∀ ρ H, Rep X.K ρ H d v) : PE X e (tE X.K (fCon d)) := by
  refine peConv h fun σ H Q h => ?_
  obtain ⟨ρ, env, st, d', st', S, E, e, p⟩ := h
  cases e
  exact p ρ H v Le.refl S (hr ρ H)
theorem e_int {i : Int} {j : Nat} : PE X (.Constant (.int i) j pos) (tE X.K (fCon (.int i))) := e_con pe_int fun _ _ => rfl
theorem e_bl {b : Bool} {j : Nat} : PE X (.Constant (.bool b) j pos) (tE X.K (fCon (.bl b))) := e_con pe_bl fun _ _ => rfl
theorem e_non {j : Nat} : PE X (.Constant .none j pos) (tE X.K (fCon .non)) := e_con pe_non fun _ _ => rfl
theorem e_str {x : Str} {j : Nat} : PE X (.Constant (.str x) j pos) (tE X.K (fCon (.str x))) := e_con pe_str fun _ _ => rfl
/-- a module's constant -/
theorem e_glob {x : Str} {v : V} {u : Value} {d : D} (hg : Gl X x) (hm : X.mg x = some u) (r : RelV v u) (hr : ∀ ρ H, Rep X.K ρ H d v) (hd : (x == ("__debug__" : Str)) = false := by decide) : PE X (.Name x pos) (tE X.K (fCon d)) :=
  e_con (pe_glob hg hm r hd) hr
/-- a built-in class as a value -/
theorem e_ty {x : Str} {n : String} (hg : Gl X x) (hm : X.mg x = none) (hv : bootBuiltins x = some (.type n)) (hn : x ≠ "__name__" := by decide) (hd : (x == ("__debug__" : Str)) = false := by decide) : PE X (.Name x pos) (tE X.K (fCon (.ty n))) :=
  e_con (pe_bltn (v := .ty n) hg hm hv rfl hn hd) fun _ _ => rfl

/-! ### argument lists, displays -/
def fNil : FA := fun _ st => some ([], st)
def fCons (F : FE) (G : FA) : FA := fun env st => match F env st with
  | some (d, st1) => match G env st1 with
    | some (ds, st2) => some (d :: ds, st2)
    | none => none
  | none => none
theorem a_nil : PA X [] (tA X.K fNil) := by
  refine paConv pa_nil fun σ H Q h => ?_
  obtain ⟨ρ, env, st, d, st', S, E, e, p⟩ := h
  cases e
  exact p ρ H [] Le.refl S rfl
theorem a_cons {e : Expr} {es : List Expr} {F : FE} {G : FA} (ha : PE X e (tE X.K F)) (hr : PA X es (tA X.K G)) (hs : starEach (e :: es) X.env = (false, eval e X.env) :: starEach es X.env := by rfl) : PA X (e :: es) (tA X.K (fCons F G)) := by
  refine paConv (pa_cons ha hr hs) fun σ H Q h => ?_
  obtain ⟨ρ, env, st, ds, st', S, E, e, p⟩ := h
  unfold fCons at e
  split at e
  · rename_i d st1 e1
    split at e
    · rename_i ds2 st2 e2
      cases e
      refine tE_bind S E e1 fun ρ1 H1 v L1 S1 R1 E1 => ?_
      refine ⟨ρ1, env, st1, ds2, st', S1, E1, e2, fun ρ2 H2 vs L2 S2 R2 => ?_⟩
      exact p ρ2 H2 (v :: vs) (L1.trans L2) S2 ⟨v, vs, rfl, Rep.mono L2 _ _ R1, R2⟩
    · cases e
  · cases e

theorem Post.newTl {K : PySem.W.Frag} {ρ : Wn} {H : Hp} {st : Store} {ds : List D} {vs : List V} {Q : VK} (p : Post K ρ H st (.tl ds) Q) (S : Sim K ρ st H) (r : Reps K ρ H ds vs) : ∀ a, H a = none → Q (.ref a) (upd H a (.lst vs)) := fun a ha =>
  p ρ _ _ (Le.new ha) (S.new ha) ⟨a, vs, rfl, ⟨⟨S.fresh ha, S.freshH ha⟩, upd_same⟩, Reps.mono (Le.new ha) _ _ r⟩
theorem Post.newTup {K : PySem.W.Frag} {ρ : Wn} {H : Hp} {st : Store} {ds : List D} {vs : List V} {Q : VK} (p : Post K ρ H st (.tup ds) Q) (S : Sim K ρ st H) (r : Reps K ρ H ds vs) : ∀ a, H a = none → Q (.ref a) (upd H a (.tup vs)) := fun a ha =>
  p ρ _ _ (Le.new ha) (S.new ha) ⟨a, vs, rfl, .inl (.inl upd_same), Reps.mono (Le.new ha) _ _ r⟩
theorem Post.newRef {K : PySem.W.Frag} {ρ : Wn} {H : Hp} {st : Store} {ds : List D} {vs : List V} {Q : VK} (p : Post K ρ H (st ++ [.lst ds]) (.ref st.length) Q) (S : Sim K ρ st H) (r : Reps K ρ H ds vs) : ∀ a, H a = none → Q (.ref a) (upd H a (.lst vs)) := fun a ha => by
  have L := Le.push (ρ := ρ) (H := H) (o := .lst vs) ha
  refine p _ _ _ L (S.push ha ⟨vs, upd_same, Reps.mono L _ _ r⟩) ⟨a, rfl, ?_⟩
  rw [← S.len, List.getElem?_append_right (Nat.le_refl _)]
  simp

def fTup (A : FA) : FE := fun env st => match A env st with
  | some (ds, st1) => if ds.length ≤ 16777216 then some (.tup ds, st1) else none
  | none => none
def fLst (A : FA) : FE := fun env st => match A env st with
  | some (ds, st1) => if ds.length ≤ 16777216 then some (.tl ds, st1) else none
  | none => none
/-- a list that will be changed -/
def fLstS (A : FA) : FE := fun env st => match A env st with
  | some (ds, st1) => if ds.length ≤ 16777216 then some (.ref st1.length, st1 ++ [.lst ds]) else none
  | none => none
theorem e_tup {es : List Expr} {k : Nat} {A : FA} (h : PA X es (tA X.K A)) : PE X (.Tuple es k pos) (tE X.K (fTup A)) := by
  refine peConv (pe_tup h) fun σ H Q h => ?_
  obtain ⟨ρ, env, st, d, st', S, E, e, p⟩ := h
  unfold fTup at e
  split at e
  · rename_i ds st1 e1
    split at e
    · rename_i hl
      cases e
      refine ⟨ρ, env, st, ds, st', S, E, e1, fun ρ1 H1 vs L1 S1 R1 => ⟨by rw [← R1.length, sizeLine_eq]; exact hl, ?_⟩⟩
      exact (p.mono L1).newTup S1 R1
    · cases e
  · cases e
theorem e_lst {es : List Expr} {A : FA} (h : PA X es (tA X.K A)) : PE X (.List es pos) (tE X.K (fLst A)) := by
  refine peConv (pe_lst h) fun σ H Q h => ?_
  obtain ⟨ρ, env, st, d, st', S, E, e, p⟩ := h
  unfold fLst at e
  split at e
  · rename_i ds st1 e1
    split at e
    · rename_i hl
      cases e
      refine ⟨ρ, env, st, ds, st', S, E, e1, fun ρ1 H1 vs L1 S1 R1 => ⟨by rw [← R1.length, sizeLine_eq]; exact hl, ?_⟩⟩
      exact (p.mono L1).newTl S1 R1
    · cases e
  · cases e
theorem e_lstS {es : List Expr} {A : FA} (h : PA X es (tA X.K A)) : PE X (.List es pos) (tE X.K (fLstS A)) := by
  refine peConv (pe_lst h) fun σ H Q h => ?_
  obtain ⟨ρ, env, st, d, st', S, E, e, p⟩ := h
  unfold fLstS at e
  split at e
  · rename_i ds st1 e1
    split at e
    · rename_i hl
      cases e
      refine ⟨ρ, env, st, ds, st1, S, E, e1, fun ρ1 H1 vs L1 S1 R1 => ⟨by rw [← R1.length, sizeLine_eq]; exact hl, ?_⟩⟩
      exact (p.mono L1).newRef S1 R1
    · cases e
  · cases e

/-! ### operators -/
def lstOf (st : Store) : D → Option (List D)
  | .tl xs => some xs
  | .ref n => match st[n]? with
    | some (.lst xs) => some xs
    | _ => none
  | _ => none
def lsqOf (st : Store) : D → Option (List D)
  | .tl xs => some xs
  | .sl xs => some xs
  | .ref n => match st[n]? with
    | some (.lst xs) => some xs
    | _ => none
  | _ => none
section
variable {K : PySem.W.Frag} {ρ : Wn} {H : Hp} {st : Store} {d : D} {v : V} {ds : List D}
theorem lstOf_rep (S : Sim K ρ st H) (r : Rep K ρ H d v) (e : lstOf st d = some ds) : ∃ a vs, v = .ref a ∧ H a = some (.lst vs) ∧ Reps K ρ H ds vs := by
  unfold lstOf at e
  split at e
  · cases e
    obtain ⟨a, vs, rfl, ⟨_, h⟩, rr⟩ := r
    exact ⟨a, vs, rfl, h, rr⟩
  · split at e
    · rename_i n _ xs e1
      cases e
      obtain ⟨a, rfl, h⟩ := r
      obtain ⟨vs, h2, rr⟩ := S.obj n _ a e1 h
      exact ⟨a, vs, rfl, h2, rr⟩
    · cases e
  · cases e
theorem lsqOf_rep (S : Sim K ρ st H) (r : Rep K ρ H d v) (e : lsqOf st d = some ds) : ∃ a vs, v = .ref a ∧ SqL K H a vs ∧ Reps K ρ H ds vs := by
  unfold lsqOf at e
  split at e
  · cases e
    obtain ⟨a, vs, rfl, ⟨_, h⟩, rr⟩ := r
    exact ⟨a, vs, rfl, SqL.of h, rr⟩
  · cases e
    obtain ⟨a, vs, rfl, h, rr⟩ := r
    refine ⟨a, vs, rfl, ?_, rr⟩
    rcases h with ⟨_, ob, h⟩ | h
    · exact .inl (.inr ⟨ob, h⟩)
    · exact .inr h
  · split at e
    · rename_i n _ xs e1
      cases e
      obtain ⟨a, rfl, h⟩ := r
      obtain ⟨vs, h2, rr⟩ := S.obj n _ a e1 h
      exact ⟨a, vs, rfl, SqL.of h2, rr⟩
    · cases e
  · cases e
end
/-- a binary function of values and the rule r -/
def OpD (K : PySem.W.Frag) (f : D → D → Store → Option D) (r : R2) : Prop := ∀ (ρ : Wn) (H : Hp) (st : Store) (a b : D) (x y : V) (d : D) (Q : VK), Sim K ρ st H → Rep K ρ H a x → Rep K ρ H b y → f a b st = some d → Post K ρ H st d Q → r x y H Q
def fBin (f : D → D → Store → Option D) (F G : FE) : FE := fun env st => match F env st with
  | some (a, st1) => match G env st1 with
    | some (b, st2) => match f a b st2 with
      | some d => some (d, st2)
      | none => none
    | none => none
  | none => none
theorem tOp_conv {K : PySem.W.Frag} {f : D → D → Store → Option D} {r : R2} {F G : FE} (hd : OpD K f r) (σ : L2.St) (H : Hp) (Q : VK) (h : tE K (fBin f F G) σ H Q) : tOp r (tE K F) (tE K G) σ H Q := by
  obtain ⟨ρ, env, st, d, st', S, E, e, p⟩ := h
  unfold fBin at e
  split at e
  · rename_i a st1 e1
    split at e
    · rename_i b st2 e2
      split at e
      · rename_i d' e3
        cases e
        refine tE_bind S E e1 fun ρ1 H1 v L1 S1 R1 E1 => ?_
        refine tE_bind S1 E1 e2 fun ρ2 H2 w L2 S2 R2 E2 => ?_
        exact hd ρ2 H2 st' a b v w d Q S2 (Rep.mono L2 _ _ R1) R2 e3 (p.mono (L1.trans L2))
      · cases e
    · cases e
  · cases e
theorem e_bin {op : Operator} {f : D → D → Store → Option D} {r : R2} {a b : Expr} {F G : FE} (ho : OpR X (binaryOp op) r) (hd : OpD X.K f r) (ha : PE X a (tE X.K F)) (hb : PE X b (tE X.K G)) : PE X (.BinOp a op b pos) (tE X.K (fBin f F G)) :=
  peConv (pe_op ho ha hb) (tOp_conv hd)

def dAdd : D → D → Store → Option D
  | .int i, .int j, _ => some (.int (i + j))
  | .str i, .str j, _ => if i.length + j.length ≤ 16777216 then some (.str (i ++ j)) else none
  | .tup xs, .tup ys, _ => if xs.length + ys.length ≤ 16777216 then some (.tup (xs ++ ys)) else none
  | a, b, st => match lstOf st a with
    | some xs => match lstOf st b with
      | some ys => if xs.length + ys.length ≤ 16777216 then some (.tl (xs ++ ys)) else none
      | none => none
    | none => none
def rAddD (K : PySem.W.Frag) : R2 := fun x y H Q => (rI0 (fun i j => .int (i + j)) x y H Q ∨ (∃ i j, x = .str i ∧ y = .str j ∧ i.length + j.length ≤ sizeLine ∧ Q (.str (i ++ j)) H)) ∨ (rCatA K x y H Q ∨ rCat x y H Q)
theorem op_addD : OpR X (binaryOp .Add) (rAddD X.K) := (op_add.or op_add_str).or (op_catA.or op_cat)
theorem nil_reps {K : PySem.W.Frag} {ρ : Wn} {H : Hp} {ds : List D} {vs : List V} (r : Reps K ρ H ds vs) : vs = [] ↔ ds = [] := by
  have := r.length
  constructor
  · rintro rfl; exact List.length_eq_zero_iff.mp this
  · rintro rfl; exact r
theorem od_add {K : PySem.W.Frag} : OpD K dAdd (rAddD K) := by
  intro ρ H st a b x y d Q S ra rb e p
  unfold dAdd at e
  split at e
  · cases e
    rename_i i j
    exact .inl (.inl ⟨i, j, ra, rb, p ρ H _ Le.refl S rfl⟩)
  · rename_i i j
    split at e
    · rename_i hl
      cases e
      exact .inl (.inr ⟨i, j, ra, rb, by rw [sizeLine_eq]; exact hl, p ρ H _ Le.refl S rfl⟩)
    · cases e
  · rename_i xs ys
    split at e
    · rename_i hl
      cases e
      obtain ⟨a, vs, rfl, h1, r1⟩ := ra
      obtain ⟨b, ws, rfl, h2, r2⟩ := rb
      refine .inr (.inl ⟨a, b, vs, ws, rfl, rfl, h1, h2, by rw [sizeLine_eq, ← r1.length, ← r2.length]; exact hl, fun z => ?_, fun _ z => ?_, fun _ _ => p.newTup S (r1.append r2)⟩)
      · have := (nil_reps r1).mp z
        subst this
        exact p ρ H _ Le.refl S ⟨b, ws, rfl, h2, r2⟩
      · have := (nil_reps r2).mp z
        subst this
        exact p ρ H _ Le.refl S ⟨a, vs, rfl, h1, by rw [List.append_nil]; exact r1⟩
    · cases e
  · split at e
    · rename_i xs e1
      split at e
      · rename_i ys e2
        split at e
        · rename_i hl
          cases e
          obtain ⟨a, vs, rfl, h1, r1⟩ := lstOf_rep S ra e1
          obtain ⟨b, ws, rfl, h2, r2⟩ := lstOf_rep S rb e2
          exact .inr (.inr ⟨a, b, vs, ws, rfl, rfl, h1, h2, by rw [sizeLine_eq, ← r1.length, ← r2.length]; exact hl, p.newTl S (r1.append r2)⟩)
        · cases e
      · cases e
    · cases e
theorem e_add {a b : Expr} {F G : FE} (ha : PE X a (tE X.K F)) (hb : PE X b (tE X.K G)) : PE X (.BinOp a .Add b pos) (tE X.K (fBin dAdd F G)) := e_bin op_addD od_add ha hb

/-- ints only -/
def dI (c : Int → Int → Bool) (g : Int → Int → Int) : D → D → Store → Option D
  | .int i, .int j, _ => if c i j then some (.int (g i j)) else none
  | _, _, _ => none
theorem od_int {K : PySem.W.Frag} {c : Int → Int → Bool} {C : Int → Int → Prop} {g : Int → Int → Int} (hc : ∀ i j, c i j = true → C i j) : OpD K (dI c g) (rI C fun i j => .int (g i j)) := by
  intro ρ H st a b x y d Q S ra rb e p
  unfold dI at e
  split at e
  · rename_i i j
    split at e
    · rename_i h
      cases e
      exact ⟨i, j, ra, rb, hc _ _ h, p ρ H _ Le.refl S rfl⟩
    · cases e
  · cases e
def dSub := dI (fun _ _ => true) (fun i j => i - j)
theorem e_sub {a b : Expr} {F G : FE} (ha : PE X a (tE X.K F)) (hb : PE X b (tE X.K G)) : PE X (.BinOp a .Sub b pos) (tE X.K (fBin dSub F G)) :=
  e_bin (r := rI (fun _ _ => True) fun i j => .int (i - j)) (fun pins s σ H x y v u Q I rx ry ⟨i, j, e1, e2, _, q⟩ => op_sub pins s σ H x y v u Q I rx ry ⟨i, j, e1, e2, q⟩) (od_int fun _ _ _ => trivial) ha hb
def cDiv (i j : Int) : Bool := decide (j ≠ 0) && decide (j.natAbs < 1073741824)
def dFdiv := dI cDiv (fun i j => i.fdiv j)
theorem e_fdiv {a b : Expr} {F G : FE} (ha : PE X a (tE X.K F)) (hb : PE X b (tE X.K G)) : PE X (.BinOp a .FloorDiv b pos) (tE X.K (fBin dFdiv F G)) :=
  e_bin op_fdivN (od_int fun i j h => by simp [cDiv] at h; exact h) ha hb
def dMod := dI (fun _ j => decide (j ≠ 0)) (fun i j => i.fmod j)
theorem e_mod {a b : Expr} {F G : FE} (ha : PE X a (tE X.K F)) (hb : PE X b (tE X.K G)) : PE X (.BinOp a .Mod b pos) (tE X.K (fBin dMod F G)) :=
  e_bin op_modN (od_int fun i j h => by simpa using h) ha hb
def cPow (i j : Int) : Bool := decide (0 ≤ j) && decide (j ≤ 1000000) && decide (i.natAbs < 2 ^ 64)
def dPow := dI cPow (fun i j => i ^ j.toNat)
theorem e_pow {a b : Expr} {F G : FE} (ha : PE X a (tE X.K F)) (hb : PE X b (tE X.K G)) : PE X (.BinOp a .Pow b pos) (tE X.K (fBin dPow F G)) :=
  e_bin op_pow (od_int fun i j h => by simp [cPow] at h; exact ⟨h.1.1, h.1.2, h.2⟩) ha hb
def cMul (i j : Int) : Bool := (decide (-(2 ^ 64) < i) && decide (i < 2 ^ 64)) || (decide (-(2 ^ 64) < j) && decide (j < 2 ^ 64))
/-- products: ints; a list, a tuple, a text so many times -/
def dMul : D → D → Store → Option D
  | .int i, .int j, _ => if cMul i j then some (.int (i * j)) else none
  | .str x, .int j, _ => if decide (x.length ≤ 1000) && decide (-1000 ≤ j) && decide (j ≤ 1000) then some (.str ⟨(List.replicate j.toNat x.cps.toList).flatten.toArray⟩) else none
  | .tup xs, .int j, _ => if xs.length ≠ 0 ∧ xs.length ≤ 1000 ∧ 2 ≤ j ∧ j ≤ 1000 then some (.tup (List.replicate j.toNat xs).flatten) else none
  | a, .int j, st => match lstOf st a with
    | some xs => if xs.length ≤ 1000 ∧ -1000 ≤ j ∧ j ≤ 1000 then some (.tl (List.replicate j.toNat xs).flatten) else none
    | none => none
  | _, _, _ => none
def rRepS : R2 := fun x y H Q => ∃ (z : Str) (k : Int), x = .str z ∧ y = .int k ∧ z.length ≤ 1000 ∧ -1000 ≤ k ∧ k ≤ 1000 ∧ Q (.str ⟨(List.replicate k.toNat z.cps.toList).flatten.toArray⟩) H
def rMulD (K : PySem.W.Frag) : R2 := fun x y H Q => (rI CMul (fun i j => .int (i * j)) x y H Q ∨ rRepS x y H Q) ∨ (rRepT K x y H Q ∨ rRep x y H Q)
end
end Vm
namespace Vm
open PySem PySem.Spec PyProof.Rows L2
section
variable {X : Cx} {pos : Pos}
theorem flat_arr (x : Array Nat) : ∀ n : Nat, (List.replicate n x).foldl (· ++ ·) #[] = (List.replicate n x.toList).flatten.toArray := by
  have key : ∀ (n : Nat) (acc : Array Nat), (List.replicate n x).foldl (· ++ ·) acc = acc ++ (List.replicate n x.toList).flatten.toArray := by
    intro n
    induction n with
    | zero => intro acc; simp
    | succ n ih =>
      intro acc
      rw [List.replicate_succ, List.replicate_succ, List.foldl_cons, ih, List.flatten_cons]
      apply Array.ext'
      simp
  intro n
  rw [key]
  simp
theorem str_ext {x y : Str} (h : x.cps.toList = y.cps.toList) : x = y := by
  cases x; cases y
  simp only at h
  congr 1
  exact Array.ext' h
theorem op_repS : OpR X (binaryOp .Mult) rRepS := by
  intro pins s σ H x y v u Q I rx ry h
  obtain ⟨z, k, rfl, rfl, hz, h1, h2, q⟩ := h
  obtain ⟨t, rfl⟩ := rx
  obtain ⟨t', rfl⟩ := ry
  have hs := sizeLine_eq
  refine PySem.P.mul_str ?_ ?_ ?_ ?_
  · have e1 : decide (k < -(2 ^ 63 : Int)) = false := decide_eq_false (by omega)
    have e2 : decide (k ≥ 2 ^ 63) = false := decide_eq_false (by omega)
    rw [e1, e2]; rfl
  · intro hk _ hgt
    have hk1 : 0 < k := by omega
    have h3 : (1000 : Int) * k ≤ 2 ^ 63 - 1 := by omega
    have h4 : (1000 : Int) ≤ (2 ^ 63 - 1) / k := (Int.le_ediv_iff_mul_le hk1).mpr h3
    omega
  · intro hk _
    have : z.length * k.toNat ≤ 1000 * 1000 := Nat.mul_le_mul hz (by omega)
    show decide (z.length * k.toNat > sizeLine) = false
    apply decide_eq_false
    omega
  · have fin : ∀ (z' : Str) (w : Value) (s' : Shared), z' = ⟨(List.replicate k.toNat z.cps.toList).flatten.toArray⟩ → (∃ t, w = .str z' t) → Inv X pins σ H s' → EP X pins σ Q w s' := by
      rintro z' w s' rfl hw J
      exact ⟨.str _, H, J, hw, q⟩
    by_cases hk : k < 1
    · rw [if_pos hk]
      have e0 : k.toNat = 0 := by omega
      exact ⟨by decide, fin Str.empty _ _ (by rw [e0]; rfl) ⟨_, rfl⟩ (I.tok _)⟩
    · rw [if_neg hk]
      by_cases h3 : (k == 1 || z.length == 0) = true
      · rw [if_pos h3]
        refine fin z _ _ ?_ ⟨_, rfl⟩ I
        simp at h3
        apply str_ext
        rcases h3 with rfl | h3
        · simp
        · have : z.cps.toList = [] := by
            have : z.cps.toList.length = 0 := by simpa [Str.length] using h3
            exact List.length_eq_zero_iff.mp this
          rw [this]; simp
      · rw [if_neg h3]
        refine ⟨?_, fin _ _ _ (by rw [flat_arr]) ⟨_, rfl⟩ (I.tok _)⟩
        have h5 : z.length * k.toNat ≤ 1000 * 1000 := Nat.mul_le_mul hz (by omega)
        have h6 : (⟨(List.replicate k.toNat z.cps).foldl (· ++ ·) #[]⟩ : Str).length = k.toNat * z.length := by
          show ((List.replicate k.toNat z.cps).foldl (· ++ ·) #[]).size = _
          rw [flat_arr]
          simp [Str.length]
        show Str.length _ ≤ sizeLine
        rw [h6, Nat.mul_comm]
        omega
theorem op_mulD : OpR X (binaryOp .Mult) (rMulD X.K) := (op_mul.or op_repS).or (op_repT.or op_rep)
theorem od_mul {K : PySem.W.Frag} : OpD K dMul (rMulD K) := by
  intro ρ H st a b x y d Q S ra rb e p
  unfold dMul at e
  split at e
  · rename_i i j
    split at e
    · rename_i h
      cases e
      refine .inl (.inl ⟨i, j, ra, rb, ?_, p ρ H _ Le.refl S rfl⟩)
      simp [cMul] at h
      exact h
    · cases e
  · rename_i z j
    split at e
    · rename_i h
      cases e
      simp at h
      exact .inl (.inr ⟨z, j, ra, rb, h.1.1, h.1.2, h.2, p ρ H _ Le.refl S rfl⟩)
    · cases e
  · rename_i xs j
    split at e
    · rename_i h
      cases e
      obtain ⟨h0, h1, h2, h3⟩ := h
      obtain ⟨a, vs, rfl, hs, r⟩ := ra
      refine .inr (.inl ⟨a, j, vs, rfl, rb, hs, ?_, h2, h3, by rw [← r.length]; exact h1, p.newTup S (r.flat _)⟩)
      intro z
      rw [(nil_reps r).mp z] at h0
      exact h0 rfl
    · cases e
  · rename_i j _ _ _
    split at e
    · rename_i xs e1
      split at e
      · rename_i h
        cases e
        obtain ⟨h0, h1, h2⟩ := h
        obtain ⟨a, vs, rfl, hs, r⟩ := lstOf_rep S ra e1
        refine .inr (.inr ⟨a, j, vs, rfl, rb, hs, by omega, by omega, ?_, p.newTl S (r.flat _)⟩)
        rw [← r.length, sizeLine_eq]
        have : xs.length * j.toNat ≤ 1000 * 1000 := Nat.mul_le_mul h0 (by omega)
        omega
      · cases e
    · cases e
  · cases e
theorem e_mul {a b : Expr} {F G : FE} (ha : PE X a (tE X.K F)) (hb : PE X b (tE X.K G)) : PE X (.BinOp a .Mult b pos) (tE X.K (fBin dMul F G)) := e_bin op_mulD od_mul ha hb
/-- -a -/
def fNeg (F : FE) : FE := fun env st => match F env st with
  | some (.int i, st1) => some (.int (-i), st1)
  | _ => none
theorem e_neg {a : Expr} {F : FE} (ha : PE X a (tE X.K F)) : PE X (.UnaryOp .USub a pos) (tE X.K (fNeg F)) := by
  refine peConv (pe_un un_neg ha) fun σ H Q h => ?_
  obtain ⟨ρ, env, st, d, st', S, E, e, p⟩ := h
  unfold fNeg at e
  split at e
  · rename_i i st1 e1
    cases e
    exact tE_bind S E e1 fun ρ1 H1 v L1 S1 R1 E1 => ⟨i, R1, p ρ1 H1 _ L1 S1 rfl⟩
  · cases e
end
end Vm
namespace Vm
open PySem PySem.Spec PyProof.Rows L2

/-! ### data -/
mutual
def pd : D → PyData
  | .non => .none
  | .bl b => .bool b
  | .int i => .int i
  | .str x => .str x
  | .tup ds => .tuple (pds ds)
  | .tl ds => .list (pds ds)
  | .sl ds => .list (pds ds)
  | .ref _ => .none
  | .ty _ => .none
def pds : List D → List PyData
  | [] => []
  | d :: ds => pd d :: pds ds
end
-- plain data, with texts of signs
mutual
def okd : D → Bool
  | .non => true
  | .bl _ => true
  | .int _ => true
  | .str x => PyData.strOk x
  | .tup ds => okds ds
  | .tl ds => okds ds
  | .sl ds => okds ds
  | .ref _ => false
  | .ty _ => false
def okds : List D → Bool
  | [] => true
  | d :: ds => okd d && okds ds
end
-- how deep: numbers and texts 0
mutual
def dep : D → Nat
  | .non => 0
  | .bl _ => 0
  | .int _ => 0
  | .str _ => 0
  | .tup ds => deps ds + 1
  | .tl ds => deps ds + 1
  | .sl ds => deps ds + 1
  | .ref _ => 0
  | .ty _ => 0
def deps : List D → Nat
  | [] => 0
  | d :: ds => max (dep d) (deps ds)
end
mutual
theorem lay_pd : ∀ d : D, okd d = true → (pd d).canLay0 = true
  | .non, _ => by simp [pd, PyData.canLay0]
  | .bl _, _ => by simp [pd, PyData.canLay0]
  | .int _, _ => by simp [pd, PyData.canLay0]
  | .str _, h => by simpa [pd, PyData.canLay0, okd] using h
  | .tup ds, h => by simp only [pd, PyData.canLay0]; exact lay_pds ds (by simpa [okd] using h)
  | .tl ds, h => by simp only [pd, PyData.canLay0]; exact lay_pds ds (by simpa [okd] using h)
  | .sl ds, h => by simp only [pd, PyData.canLay0]; exact lay_pds ds (by simpa [okd] using h)
  | .ref _, h => by simp [okd] at h
  | .ty _, h => by simp [okd] at h
theorem lay_pds : ∀ ds : List D, okds ds = true → PyData.canLayAll0 (pds ds) = true
  | [], _ => by simp [pds, PyData.canLayAll0]
  | d :: ds, h => by
    simp only [okds, Bool.and_eq_true] at h
    simp only [pds, PyData.canLayAll0, lay_pd d h.1, lay_pds ds h.2, Bool.and_self]
end
mutual
theorem dep_pd : ∀ d : D, (pd d).depth = dep d
  | .non => by simp [pd, PyData.depth, dep]
  | .bl _ => by simp [pd, PyData.depth, dep]
  | .int _ => by simp [pd, PyData.depth, dep]
  | .str _ => by simp [pd, PyData.depth, dep]
  | .tup ds => by simp only [pd, PyData.depth, dep, dep_pds ds]
  | .tl ds => by simp only [pd, PyData.depth, dep, dep_pds ds]
  | .sl ds => by simp only [pd, PyData.depth, dep, dep_pds ds]
  | .ref _ => by simp [pd, PyData.depth, dep]
  | .ty _ => by simp [pd, PyData.depth, dep]
theorem dep_pds : ∀ ds : List D, PyData.depthAll (pds ds) = deps ds
  | [] => by simp [pds, PyData.depthAll, deps]
  | d :: ds => by simp only [pds, PyData.depthAll, deps, dep_pd d, dep_pds ds]
end
section
variable {K : PySem.W.Frag} {ρ : Wn} {H : Hp}
mutual
theorem dp_rep : ∀ (d : D) (v : V), Rep K ρ H d v → okd d = true → Dp K H v (pd d)
  | .non, v, r, _ => by rw [show v = .non from r]; simp only [pd]; exact .non
  | .bl b, v, r, _ => by rw [show v = .bl b from r]; simp only [pd]; exact .bl b
  | .int b, v, r, _ => by rw [show v = .int b from r]; simp only [pd]; exact .int b
  | .str b, v, r, _ => by rw [show v = .str b from r]; simp only [pd]; exact .str b
  | .tup ds, v, r, h => by
    obtain ⟨a, vs, rfl, hs, rr⟩ := r
    simp only [pd]
    exact .tup hs (dps_rep ds vs rr (by simpa [okd] using h))
  | .tl ds, v, r, h => by
    obtain ⟨a, vs, rfl, ⟨_, hs⟩, rr⟩ := r
    simp only [pd]
    exact .lst (SqL.of hs) (dps_rep ds vs rr (by simpa [okd] using h))
  | .sl ds, v, r, h => by
    obtain ⟨a, vs, rfl, hs, rr⟩ := r
    simp only [pd]
    refine .lst ?_ (dps_rep ds vs rr (by simpa [okd] using h))
    rcases hs with ⟨_, ob, h⟩ | h
    · exact .inl (.inr ⟨ob, h⟩)
    · exact .inr h
  | .ref _, _, _, h => by simp [okd] at h
  | .ty _, _, _, h => by simp [okd] at h
theorem dps_rep : ∀ (ds : List D) (vs : List V), Reps K ρ H ds vs → okds ds = true → DpAll K H vs (pds ds)
  | [], vs, r, _ => by rw [show vs = [] from r]; simp only [pds]; exact .nil
  | d :: ds, vs, r, h => by
    obtain ⟨v, w, rfl, r1, r2⟩ := r
    simp only [okds, Bool.and_eq_true] at h
    simp only [pds]
    exact .cons (dp_rep d v r1 h.1) (dps_rep ds w r2 h.2)
end
end
/-- the list at a place of the store as data -/
def deref (st : Store) : D → D
  | .ref n => match st[n]? with
    | some (.lst xs) => .tl xs
    | _ => .ref n
  | d => d
theorem dp_deref {K : PySem.W.Frag} {ρ : Wn} {H : Hp} {st : Store} (S : Sim K ρ st H) {d : D} {v : V} (r : Rep K ρ H d v) (h : okd (deref st d) = true) : Dp K H v (pd (deref st d)) := by
  unfold deref at h ⊢
  split at h
  · rename_i n
    split at h
    · rename_i xs e1
      obtain ⟨a, rfl, h1⟩ := r
      obtain ⟨vs, h2, rr⟩ := S.obj n _ a e1 h1
      simp only [e1, pd]
      exact .lst (SqL.of h2) (dps_rep xs vs rr (by simpa [okd] using h))
    · simp [okd] at h
  · exact dp_rep d v r h
/-- == of data -/
def deq (a b : D) : Bool := PyData.eqv (pd a) (pd b)

section
variable {X : Cx} {pos : Pos}
def rEqM (K : PySem.W.Frag) : R2 := fun x y H Q => ∃ d e, Dp K H x d ∧ Dp K H y e ∧ d.canLay0 = true ∧ e.canLay0 = true ∧ min d.depth e.depth ≤ 60 ∧ Q (.bl (PyData.eqv d e)) H
def rNeM (K : PySem.W.Frag) : R2 := fun x y H Q => ∃ d e, Dp K H x d ∧ Dp K H y e ∧ d.canLay0 = true ∧ e.canLay0 = true ∧ min d.depth e.depth ≤ 60 ∧ Q (.bl (!PyData.eqv d e)) H
theorem op_eqM {k : Nat} (hr : Room k X.A) : OpR X (compareOp .Eq) (rEqM X.K) := by
  intro pins s σ H x y v u Q I rx ry h
  obtain ⟨d, e, hd, he, sd, se, hm, q⟩ := h
  obtain ⟨as, r1⟩ := Dp.reads I d x v hd rx
  obtain ⟨bs, r2⟩ := Dp.reads I e y u he ry
  exact SeqAt.compareEq_reads r1 r2 sd se (by have := hr.un; omega) ⟨.bl _, H, I, rfl, q⟩
theorem op_neM {k : Nat} (hr : Room k X.A) : OpR X (compareOp .NotEq) (rNeM X.K) := by
  intro pins s σ H x y v u Q I rx ry h
  obtain ⟨d, e, hd, he, sd, se, hm, q⟩ := h
  obtain ⟨as, r1⟩ := Dp.reads I d x v hd rx
  obtain ⟨bs, r2⟩ := Dp.reads I e y u he ry
  exact SeqAt.compareNe_reads r1 r2 sd se (by have := hr.un; omega) ⟨.bl _, H, I, rfl, q⟩
def rInM (K : PySem.W.Frag) (neg : Bool) : R2 := fun x y H Q => ∃ d ds, Dp K H x d ∧ (Dp K H y (.list ds) ∨ Dp K H y (.tuple ds)) ∧ d.canLay0 = true ∧ PyData.canLayAll0 ds = true ∧ min (PyData.depthAll ds) d.depth ≤ 60 ∧
  Q (.bl (if neg then !(ds.any fun z => PyData.eqv z d) else ds.any fun z => PyData.eqv z d)) H
theorem op_inM {k : Nat} (hr : Room k X.A) : OpR X (compareOp .In) (rInM X.K false) := by
  intro pins s σ H x y v u Q I rx ry h
  obtain ⟨d, ds, hd, he, sd, se, hm, q⟩ := h
  obtain ⟨as, r1⟩ := Dp.reads I d x v hd rx
  rcases he with he | he
  · obtain ⟨bs, r2⟩ := Dp.reads I _ y u he ry
    exact SeqAt.in_list_reads r2 r1 se sd (by have := hr.un; omega) ⟨.bl _, H, I, rfl, q⟩
  · obtain ⟨bs, r2⟩ := Dp.reads I _ y u he ry
    exact SeqAt.in_tuple_reads r2 r1 se sd (by have := hr.un; omega) ⟨.bl _, H, I, rfl, q⟩
theorem op_notInM {k : Nat} (hr : Room k X.A) : OpR X (compareOp .NotIn) (rInM X.K true) := by
  intro pins s σ H x y v u Q I rx ry h
  obtain ⟨d, ds, hd, he, sd, se, hm, q⟩ := h
  obtain ⟨as, r1⟩ := Dp.reads I d x v hd rx
  rcases he with he | he
  · obtain ⟨bs, r2⟩ := Dp.reads I _ y u he ry
    exact SeqAt.notIn_list_reads r2 r1 se sd (by have := hr.un; omega) ⟨.bl _, H, I, rfl, q⟩
  · obtain ⟨bs, r2⟩ := Dp.reads I _ y u he ry
    exact SeqAt.notIn_tuple_reads r2 r1 se sd (by have := hr.un; omega) ⟨.bl _, H, I, rfl, q⟩

/-! ### comparisons -/
abbrev CmpF := D → D → Store → Option Bool
def OpC (K : PySem.W.Frag) (c : CmpF) (r : R2) : Prop := ∀ (ρ : Wn) (H : Hp) (st : Store) (a b : D) (x y : V) (k : Bool) (Q : VK), Sim K ρ st H → Rep K ρ H a x → Rep K ρ H b y → c a b st = some k → Q (.bl k) H → r x y H Q
/-- a comparison: the operator, what it gives, whether it's one of in, not in -/
structure CmpOk (X : Cx) (op : CmpOp) (c : CmpF) : Prop where
  ok : ∃ r, OpR X (compareOp op) r ∧ OpC X.K c r
def fCmp (c : CmpF) (F G : FE) : FE := fun env st => match F env st with
  | some (a, st1) => match G env st1 with
    | some (b, st2) => match c a b st2 with
      | some k => some (.bl k, st2)
      | none => none
    | none => none
  | none => none
def tCmpF (c : CmpF) (F G : FE) : FT := fun env st => match F env st with
  | some (a, st1) => match G env st1 with
    | some (b, st2) => match c a b st2 with
      | some k => some (k, st2)
      | none => none
    | none => none
  | none => none
theorem e_cmp {op : CmpOp} {c : CmpF} {a b : Expr} {F G : FE} (hc : CmpOk X op c) (ha : PE X a (tE X.K F)) (hb : PE X b (tE X.K G)) (hm : behindInMarks op b = false := by first | exact nomark _ | with_unfolding_all rfl) : PE X (.Compare a [op] [b] pos) (tE X.K (fCmp c F G)) := by
  obtain ⟨r, ho, hd⟩ := hc.ok
  refine peConv (pe_cmpR ho ha hb hm) fun σ H Q h => ?_
  obtain ⟨ρ, env, st, d, st', S, E, e, p⟩ := h
  unfold fCmp at e
  split at e
  · rename_i a st1 e1
    split at e
    · rename_i b st2 e2
      split at e
      · rename_i k e3
        cases e
        refine tE_bind S E e1 fun ρ1 H1 v L1 S1 R1 E1 => ?_
        refine tE_bind S1 E1 e2 fun ρ2 H2 w L2 S2 R2 E2 => ?_
        exact hd ρ2 H2 st' a b v w k Q S2 (Rep.mono L2 _ _ R1) R2 e3 (p ρ2 H2 _ (L1.trans L2) S2 rfl)
      · cases e
    · cases e
  · cases e
theorem t_cmp {op : CmpOp} {c : CmpF} {a b : Expr} {F G : FE} (hc : CmpOk X op c) (ha : PE X a (tE X.K F)) (hb : PE X b (tE X.K G)) (hm : behindInMarks op b = false := by first | exact nomark _ | with_unfolding_all rfl) : PT X (.Compare a [op] [b] pos) (tT X.K (tCmpF c F G)) := by
  obtain ⟨r, ho, hd⟩ := hc.ok
  refine ptConv (pt_cmpR ho ha hb hm) fun σ H Q h => ?_
  obtain ⟨ρ, env, st, d, st', S, E, e, p⟩ := h
  unfold tCmpF at e
  split at e
  · rename_i a st1 e1
    split at e
    · rename_i b st2 e2
      split at e
      · rename_i k e3
        cases e
        refine tE_bind S E e1 fun ρ1 H1 v L1 S1 R1 E1 => ?_
        refine tE_bind S1 E1 e2 fun ρ2 H2 w L2 S2 R2 E2 => ?_
        exact hd ρ2 H2 st' a b v w _ _ S2 (Rep.mono L2 _ _ R1) R2 e3 ⟨_, rfl, p ρ2 H2 (L1.trans L2) S2⟩
      · cases e
    · cases e
  · cases e
def fChain (c c' : CmpF) (F G J : FE) : FE := fun env st => match F env st with
  | some (a, st1) => match G env st1 with
    | some (b, st2) => match c a b st2 with
      | some true => match J env st2 with
        | some (d, st3) => match c' b d st3 with
          | some k => some (.bl k, st3)
          | none => none
        | none => none
      | some false => some (.bl false, st2)
      | none => none
    | none => none
  | none => none
def tChainF (c c' : CmpF) (F G J : FE) : FT := fun env st => match fChain c c' F G J env st with
  | some (.bl k, st1) => some (k, st1)
  | _ => none
theorem chain_conv {K : PySem.W.Frag} {c c' : CmpF} {r r' : R2} {F G J : FE} (hd : OpC K c r) (hd' : OpC K c' r') (σ : L2.St) (H : Hp) (Q : VK) (h : tE K (fChain c c' F G J) σ H Q) : tChain r r' (tE K F) (tE K G) (tE K J) σ H Q := by
  obtain ⟨ρ, env, st, d, st', S, E, e, p⟩ := h
  unfold fChain at e
  split at e
  · rename_i a st1 e1
    split at e
    · rename_i b st2 e2
      refine tE_bind S E e1 fun ρ1 H1 v L1 S1 R1 E1 => ?_
      refine tE_bind S1 E1 e2 fun ρ2 H2 w L2 S2 R2 E2 => ?_
      split at e
      · rename_i e3
        split at e
        · rename_i d3 st3 e4
          split at e
          · rename_i k e5
            cases e
            refine hd ρ2 H2 st2 a b v w _ _ S2 (Rep.mono L2 _ _ R1) R2 e3 ⟨true, rfl, ?_⟩
            rw [if_pos rfl]
            refine tE_bind S2 E2 e4 fun ρ3 H3 u L3 S3 R3 E3 => ?_
            exact hd' ρ3 H3 st' b d3 w u k Q S3 (Rep.mono L3 _ _ R2) R3 e5 (p ρ3 H3 _ ((L1.trans L2).trans L3) S3 rfl)
          · cases e
        · cases e
      · rename_i e3
        cases e
        refine hd ρ2 H2 st' a b v w _ _ S2 (Rep.mono L2 _ _ R1) R2 e3 ⟨false, rfl, ?_⟩
        rw [if_neg (by decide)]
        exact p ρ2 H2 _ (L1.trans L2) S2 rfl
      · cases e
    · cases e
  · cases e
theorem e_chain {op op' : CmpOp} {c c' : CmpF} {a b d : Expr} {F G J : FE} (hc : CmpOk X op c) (hc' : CmpOk X op' c') (ha : PE X a (tE X.K F)) (hb : PE X b (tE X.K G)) (hd : PE X d (tE X.K J)) (hm : lastMarks [op, op'] [b, d] = false := by with_unfolding_all rfl) :
    PE X (.Compare a [op, op'] [b, d] pos) (tE X.K (fChain c c' F G J)) := by
  obtain ⟨r, ho, h1⟩ := hc.ok
  obtain ⟨r', ho', h1'⟩ := hc'.ok
  exact peConv (pe_chain ho ho' ha hb hd hm) (chain_conv h1 h1')
theorem t_chain {op op' : CmpOp} {c c' : CmpF} {a b d : Expr} {F G J : FE} (hc : CmpOk X op c) (hc' : CmpOk X op' c') (ha : PE X a (tE X.K F)) (hb : PE X b (tE X.K G)) (hd : PE X d (tE X.K J)) (hm : lastMarks [op, op'] [b, d] = false := by with_unfolding_all rfl) :
    PT X (.Compare a [op, op'] [b, d] pos) (tT X.K (tChainF c c' F G J)) := by
  obtain ⟨r, ho, h1⟩ := hc.ok
  obtain ⟨r', ho', h1'⟩ := hc'.ok
  refine ptConv (pt_chain ho ho' ha hb hd hm) fun σ H Q h => ?_
  obtain ⟨ρ, env, st, b, st', S, E, e, p⟩ := h
  unfold tChainF at e
  split at e
  · rename_i k st1 e1
    cases e
    exact chain_conv h1 h1' σ H _ ⟨ρ, env, st, _, st', S, E, e1, fun ρ' H' v L S' R => ⟨_, R, p ρ' H' L S'⟩⟩
  · cases e

/-! the comparisons -/
def cI (g : Int → Int → Bool) (h : List Nat → List Nat → Bool) : CmpF
  | .int i, .int j, _ => some (g i j)
  | .str x, .str y, _ => some (h x.cps.toList y.cps.toList)
  | _, _, _ => none
def cLt : CmpF := cI (fun i j => decide (i < j)) (fun x y => decide (x < y))
def cLe : CmpF := cI (fun i j => decide (i ≤ j)) (fun x y => !decide (y < x))
def cGt : CmpF := cI (fun i j => decide (j < i)) (fun x y => decide (y < x))
def cGe : CmpF := cI (fun i j => decide (j ≤ i)) (fun x y => !decide (x < y))
theorem oc_I {K : PySem.W.Frag} {g : Int → Int → Bool} {h : List Nat → List Nat → Bool} : OpC K (cI g h) (fun x y H Q => rI0 (fun i j => .bl (g i j)) x y H Q ∨ ∃ i j, x = .str i ∧ y = .str j ∧ Q (.bl (h i.cps.toList j.cps.toList)) H) := by
  intro ρ H st a b x y k Q S ra rb e q
  unfold cI at e
  split at e
  · rename_i i j
    cases e
    exact .inl ⟨i, j, ra, rb, q⟩
  · rename_i i j
    cases e
    exact .inr ⟨i, j, ra, rb, q⟩
  · cases e
theorem c_lt : CmpOk X .Lt cLt := ⟨_, op_lt.or op_lt_str, oc_I⟩
theorem c_le : CmpOk X .LtE cLe := ⟨_, op_le.or op_le_str, oc_I⟩
theorem c_gt : CmpOk X .Gt cGt := ⟨_, op_gt.or op_gt_str, oc_I⟩
theorem c_ge : CmpOk X .GtE cGe := ⟨_, op_ge.or op_ge_str, oc_I⟩
/-- may these two be compared -/
def okEq (a b : D) : Bool := okd a && okd b && decide (min (dep a) (dep b) ≤ 60)
def cEq : CmpF := fun a b st => if okEq (deref st a) (deref st b) = true then some (deq (deref st a) (deref st b)) else none
def cNe : CmpF := fun a b st => if okEq (deref st a) (deref st b) = true then some (!deq (deref st a) (deref st b)) else none
theorem okEq_iff {a b : D} (h : okEq a b = true) : okd a = true ∧ okd b = true ∧ min (pd a).depth (pd b).depth ≤ 60 := by
  unfold okEq at h
  simp only [Bool.and_eq_true, decide_eq_true_eq] at h
  exact ⟨h.1.1, h.1.2, by rw [dep_pd, dep_pd]; exact h.2⟩
theorem c_eq {k : Nat} (hr : Room k X.A) : CmpOk X .Eq cEq := ⟨_, op_eqM hr, by
  intro ρ H st a b x y k Q S ra rb e q
  unfold cEq at e
  split at e
  · rename_i h
    cases e
    obtain ⟨h1, h2, h3⟩ := okEq_iff h
    exact ⟨_, _, dp_deref S ra h1, dp_deref S rb h2, lay_pd _ h1, lay_pd _ h2, h3, q⟩
  · cases e⟩
theorem c_ne {k : Nat} (hr : Room k X.A) : CmpOk X .NotEq cNe := ⟨_, op_neM hr, by
  intro ρ H st a b x y k Q S ra rb e q
  unfold cNe at e
  split at e
  · rename_i h
    cases e
    obtain ⟨h1, h2, h3⟩ := okEq_iff h
    exact ⟨_, _, dp_deref S ra h1, dp_deref S rb h2, lay_pd _ h1, lay_pd _ h2, h3, q⟩
  · cases e⟩
/-- in: among items; a sign in a text -/
def isIn : CmpF := fun a b st => match a, deref st b with
  | a, .tup ds => if okd (deref st a) && okds ds && decide (min (deps ds) (dep (deref st a)) ≤ 60) then some (ds.any fun z => deq z (deref st a)) else none
  | a, .tl ds => if okd (deref st a) && okds ds && decide (min (deps ds) (dep (deref st a)) ≤ 60) then some (ds.any fun z => deq z (deref st a)) else none
  | a, .sl ds => if okd (deref st a) && okds ds && decide (min (deps ds) (dep (deref st a)) ≤ 60) then some (ds.any fun z => deq z (deref st a)) else none
  | .str x, .str z => if x.cps.size = 1 then some (decide ((x.cps.getD 0 0) ∈ z.cps.toList)) else none
  | _, _ => none
def cIn : CmpF := isIn
def cNotIn : CmpF := fun a b st => match isIn a b st with
  | some k => some (!k)
  | none => none
theorem any_pds (d : PyData) : ∀ ds : List D, ((pds ds).any fun z => PyData.eqv z d) = ds.any fun z => PyData.eqv (pd z) d
  | [] => by simp [pds]
  | x :: ds => by simp only [pds, List.any_cons, any_pds d ds]
theorem one_sign {x : Str} (h : x.cps.size = 1) : x = ⟨#[x.cps.getD 0 0]⟩ := by
  cases x with
  | mk cps =>
    have : cps.toList.length = 1 := by simpa using h
    obtain ⟨a, ha⟩ := List.length_eq_one_iff.mp this
    have e : cps = #[a] := by
      apply Array.ext'
      simpa using ha
    subst e
    rfl
theorem isIn_ok {K : PySem.W.Frag} {neg : Bool} {ρ : Wn} {H : Hp} {st : Store} {a b : D} {x y : V} {k : Bool} {Q : VK} (S : Sim K ρ st H) (ra : Rep K ρ H a x) (rb : Rep K ρ H b y) (e : isIn a b st = some k) (q : Q (.bl (if neg then !k else k)) H) :
    rInM K neg x y H Q ∨ ∃ (c : Nat) (z : Str), x = .str ⟨#[c]⟩ ∧ y = .str z ∧ Q (.bl (if neg then !decide (c ∈ z.cps.toList) else decide (c ∈ z.cps.toList))) H := by
  have seq : ∀ ds : List D, (deref st b = .tup ds ∨ deref st b = .tl ds ∨ deref st b = .sl ds) → (if okd (deref st a) && okds ds && decide (min (deps ds) (dep (deref st a)) ≤ 60) then some (ds.any fun z => deq z (deref st a)) else none) = some k → rInM K neg x y H Q := by
    intro ds hb e
    split at e
    · rename_i h
      simp only [Bool.and_eq_true, decide_eq_true_eq] at h
      have e' : (ds.any fun z => deq z (deref st a)) = k := Option.some.inj e
      have hok : okd (deref st b) = true := by
        rcases hb with hb | hb | hb <;> (rw [hb]; simp only [okd]; exact h.1.2)
      have hd := dp_deref S rb hok
      refine ⟨pd (deref st a), pds ds, dp_deref S ra h.1.1, ?_, lay_pd _ h.1.1, lay_pds _ h.1.2, by rw [dep_pds, dep_pd]; exact h.2, ?_⟩
      · rcases hb with hb | hb | hb <;> rw [hb] at hd
        · exact .inr (by simpa only [pd] using hd)
        · exact .inl (by simpa only [pd] using hd)
        · exact .inl (by simpa only [pd] using hd)
      · rw [any_pds]
        have : (ds.any fun z => PyData.eqv (pd z) (pd (deref st a))) = k := e'
        rw [this]
        exact q
    · cases e
  unfold isIn at e
  split at e
  · rename_i ds hb; exact .inl (seq ds (.inl hb) e)
  · rename_i ds hb; exact .inl (seq ds (.inr (.inl hb)) e)
  · rename_i ds hb; exact .inl (seq ds (.inr (.inr hb)) e)
  · rename_i z w hb
    split at e
    · rename_i h1
      cases e
      have rb' : y = .str w := by
        unfold deref at hb
        split at hb
        · split at hb <;> cases hb
        · subst hb; exact rb
      refine .inr ⟨_, w, ?_, rb', q⟩
      rw [show x = .str z from ra, ← one_sign h1]
    · cases e
  · cases e
theorem c_in {k : Nat} (hr : Room k X.A) : CmpOk X .In cIn := ⟨_, (op_inM hr).or op_in_sign, fun ρ H st a b x y k Q S ra rb e q => isIn_ok (neg := false) S ra rb e q⟩
theorem c_notIn {k : Nat} (hr : Room k X.A) : CmpOk X .NotIn cNotIn := ⟨_, (op_notInM hr).or op_notIn_sign, fun ρ H st a b x y k Q S ra rb e q => by
  unfold cNotIn at e
  split at e
  · rename_i k' e1
    cases e
    exact isIn_ok (neg := true) S ra rb e1 q
  · cases e⟩
/-- is: None, truths -/
def isIs : D → D → Option Bool
  | .non, .non => some true
  | .bl _, .non => some false
  | .int _, .non => some false
  | .str _, .non => some false
  | .tup _, .non => some false
  | .tl _, .non => some false
  | .sl _, .non => some false
  | .ref _, .non => some false
  | .bl a, .bl b => some (a == b)
  | _, _ => none
def cIs : CmpF := fun a b _ => isIs a b
def cIsNot : CmpF := fun a b _ => match isIs a b with
  | some k => some (!k)
  | none => none
theorem isIs_ok {K : PySem.W.Frag} {neg : Bool} {ρ : Wn} {H : Hp} {a b : D} {x y : V} {k : Bool} {Q : VK} (ra : Rep K ρ H a x) (rb : Rep K ρ H b y) (e : isIs a b = some k) (q : Q (.bl (if neg then !k else k)) H) :
    (y = .non ∧ Q (.bl (if neg then !decide (x = .non) else decide (x = .non))) H) ∨ ∃ a b, x = .bl a ∧ y = .bl b ∧ Q (.bl (if neg then !decide (a = b) else decide (a = b))) H := by
  have f : ∀ (h : decide (x = .non) = k) (h' : y = .non), (y = .non ∧ Q (.bl (if neg then !decide (x = .non) else decide (x = .non))) H) := fun h h' => ⟨h', by rw [h]; exact q⟩
  unfold isIs at e
  split at e
  · cases e; exact .inl (f (by rw [show x = .non from ra]; rfl) rb)
  · cases e; exact .inl (f (by rw [show x = .bl _ from ra]; rfl) rb)
  · cases e; exact .inl (f (by rw [show x = .int _ from ra]; rfl) rb)
  · cases e; exact .inl (f (by rw [show x = .str _ from ra]; rfl) rb)
  · cases e; obtain ⟨a, vs, rfl, _⟩ := ra; exact .inl (f rfl rb)
  · cases e; obtain ⟨a, vs, rfl, _⟩ := ra; exact .inl (f rfl rb)
  · cases e; obtain ⟨a, vs, rfl, _⟩ := ra; exact .inl (f rfl rb)
  · cases e; obtain ⟨a, rfl, _⟩ := ra; exact .inl (f rfl rb)
  · rename_i a b
    cases e
    refine .inr ⟨a, b, ra, rb, ?_⟩
    have : decide (a = b) = (a == b) := by cases a <;> cases b <;> rfl
    rw [this]
    exact q
  · cases e
theorem c_is : CmpOk X .Is cIs := ⟨_, op_isN.or op_isBl, fun ρ H st a b x y k Q S ra rb e q => isIs_ok (neg := false) ra rb e q⟩
theorem c_isNot : CmpOk X .IsNot cIsNot := ⟨_, op_notN.or op_notBl, fun ρ H st a b x y k Q S ra rb e q => by
  unfold cIsNot at e
  split at e
  · rename_i k' e1
    cases e
    exact isIs_ok (neg := true) ra rb e1 q
  · cases e⟩
end
end Vm
namespace Vm
open PySem PySem.Spec PyProof.Rows L2
section
variable {X : Cx} {pos : Pos}

/-! ### truth -/
def tru (st : Store) : D → Option Bool
  | .non => some false
  | .bl b => some b
  | .int i => some (i != 0)
  | .str y => if y.length ≤ 16777216 then some ((y.length : Int) != 0) else none
  | .tup xs => some (!xs.isEmpty)
  | .tl xs => some (!xs.isEmpty)
  | .sl xs => some (!xs.isEmpty)
  | .ref n => match st[n]? with
    | some (.lst xs) => some (!xs.isEmpty)
    | some (.dic kvs) => some (!kvs.isEmpty)
    | _ => none
  | .ty _ => none
theorem reps_empty {K : PySem.W.Frag} {ρ : Wn} {H : Hp} {ds : List D} {vs : List V} (r : Reps K ρ H ds vs) : ds.isEmpty = vs.isEmpty := by
  have := r.length
  cases ds <;> cases vs <;> simp_all
theorem tru_rep {K : PySem.W.Frag} {ρ : Wn} {H : Hp} {st : Store} {d : D} {v : V} {k : Bool} (S : Sim K ρ st H) (r : Rep K ρ H d v) (e : tru st d = some k) : TruV K v H k := by
  unfold tru at e
  split at e
  · rw [show v = .non from r]; exact (Option.some.inj e).symm
  · rw [show v = .bl _ from r]; exact (Option.some.inj e).symm
  · rw [show v = .int _ from r]; exact (Option.some.inj e).symm
  · split at e
    · rename_i h
      rw [show v = .str _ from r]; exact ⟨by rw [sizeLine_eq]; exact h, (Option.some.inj e).symm⟩
    · cases e
  · obtain ⟨a, vs, rfl, hs, rr⟩ := r
    cases e
    exact .inr (.inl ⟨vs, hs, by rw [reps_empty rr]⟩)
  · obtain ⟨a, vs, rfl, ⟨_, hs⟩, rr⟩ := r
    cases e
    exact .inl ⟨vs, SqL.of hs, by rw [reps_empty rr]⟩
  · rename_i xs
    obtain ⟨a, vs, rfl, hs, rr⟩ := lsqOf_rep (ds := xs) S r rfl
    cases e
    exact .inl ⟨vs, hs, by rw [reps_empty rr]⟩
  · split at e
    · rename_i n _ xs e1
      obtain ⟨a, rfl, h⟩ := r
      obtain ⟨vs, h2, rr⟩ := S.obj n _ a e1 h
      cases e
      exact .inl ⟨vs, SqL.of h2, by rw [reps_empty rr]⟩
    · rename_i n _ kvs e1
      obtain ⟨a, rfl, h⟩ := r
      obtain ⟨us, h2, ek, rr⟩ := S.obj n _ a e1 h
      cases e
      refine .inr (.inr ⟨us, h2, ?_⟩)
      have := congrArg List.length ek
      cases us <;> cases kvs <;> simp_all
    · cases e
  · cases e
def tTru (F : FE) : FT := fun env st => match F env st with
  | some (d, st1) => match tru st1 d with
    | some k => some (k, st1)
    | none => none
  | none => none
theorem t_val {a : Expr} {F : FE} (ha : PE X a (tE X.K F)) (he : ∀ whole, isTrue a X.env whole = (do let v ← whole; standAt a.pos; holding [v] (truthy v)) := by intro _; rfl) : PT X a (tT X.K (tTru F)) := by
  refine ptConv (pt_truth ha he) fun σ H Q h => ?_
  obtain ⟨ρ, env, st, b, st', S, E, e, p⟩ := h
  unfold tTru at e
  split at e
  · rename_i d st1 e1
    split at e
    · rename_i k e2
      cases e
      exact tE_bind S E e1 fun ρ1 H1 v L1 S1 R1 E1 => ⟨b, tru_rep S1 R1 e2, p ρ1 H1 L1 S1⟩
    · cases e
  · cases e
def tAndF (F G : FT) : FT := fun env st => match F env st with
  | some (true, st1) => G env st1
  | some (false, st1) => some (false, st1)
  | none => none
def tOrF (F G : FT) : FT := fun env st => match F env st with
  | some (true, st1) => some (true, st1)
  | some (false, st1) => G env st1
  | none => none
def tNotF (F : FT) : FT := fun env st => match F env st with
  | some (b, st1) => some (!b, st1)
  | none => none
theorem w_and1 {a : Expr} {F : FT} (ha : PT X a (tT X.K F)) : PW X (.BoolOp .And [a] pos) (tT X.K F) := pw_and1 ha
theorem w_or1 {a : Expr} {F : FT} (ha : PT X a (tT X.K F)) : PW X (.BoolOp .Or [a] pos) (tT X.K F) := pw_or1 ha
theorem w_and {a b : Expr} {rest : List Expr} {F G : FT} (ha : PT X a (tT X.K F)) (hb : PW X (.BoolOp .And (b :: rest) pos) (tT X.K G)) : PW X (.BoolOp .And (a :: b :: rest) pos) (tT X.K (tAndF F G)) := by
  refine pwConv (pw_and ha hb) fun σ H Q h => ?_
  obtain ⟨ρ, env, st, k, st', S, E, e, p⟩ := h
  unfold tAndF at e
  split at e
  · rename_i st1 e1
    refine tT_bind S E e1 fun ρ1 H1 L1 S1 E1 => ?_
    rw [if_pos rfl]
    exact ⟨ρ1, env, st1, k, st', S1, E1, e, fun ρ2 H2 L2 S2 => p ρ2 H2 (L1.trans L2) S2⟩
  · rename_i st1 e1
    cases e
    refine tT_bind S E e1 fun ρ1 H1 L1 S1 E1 => ?_
    rw [if_neg (by decide)]
    exact p ρ1 H1 L1 S1
  · cases e
theorem w_or {a b : Expr} {rest : List Expr} {F G : FT} (ha : PT X a (tT X.K F)) (hb : PW X (.BoolOp .Or (b :: rest) pos) (tT X.K G)) : PW X (.BoolOp .Or (a :: b :: rest) pos) (tT X.K (tOrF F G)) := by
  refine pwConv (pw_or ha hb) fun σ H Q h => ?_
  obtain ⟨ρ, env, st, k, st', S, E, e, p⟩ := h
  unfold tOrF at e
  split at e
  · rename_i st1 e1
    cases e
    refine tT_bind S E e1 fun ρ1 H1 L1 S1 E1 => ?_
    rw [if_pos rfl]
    exact p ρ1 H1 L1 S1
  · rename_i st1 e1
    refine tT_bind S E e1 fun ρ1 H1 L1 S1 E1 => ?_
    rw [if_neg (by decide)]
    exact ⟨ρ1, env, st1, k, st', S1, E1, e, fun ρ2 H2 L2 S2 => p ρ2 H2 (L1.trans L2) S2⟩
  · cases e
theorem t_not {a : Expr} {F : FT} (ha : PT X a (tT X.K F)) : PT X (.UnaryOp .Not a pos) (tT X.K (tNotF F)) := by
  refine ptConv (pt_not ha) fun σ H Q h => ?_
  obtain ⟨ρ, env, st, k, st', S, E, e, p⟩ := h
  unfold tNotF at e
  split at e
  · rename_i b st1 e1
    cases e
    exact tT_bind S E e1 fun ρ1 H1 L1 S1 E1 => p ρ1 H1 L1 S1
  · cases e
/-- as values, by truth -/
def fOr (F G : FE) : FE := fun env st => match F env st with
  | some (d, st1) => match tru st1 d with
    | some true => some (d, st1)
    | some false => G env st1
    | none => none
  | none => none
def fAnd (F G : FE) : FE := fun env st => match F env st with
  | some (d, st1) => match tru st1 d with
    | some true => G env st1
    | some false => some (d, st1)
    | none => none
  | none => none
def fNot (F : FE) : FE := fun env st => match F env st with
  | some (d, st1) => match tru st1 d with
    | some k => some (.bl (!k), st1)
    | none => none
  | none => none
theorem e_one {op : BoolOp} {a : Expr} {F : FE} (h : PE X a (tE X.K F)) : PE X (.BoolOp op [a] pos) (tE X.K F) := pe_one h
theorem e_or {a b : Expr} {rest : List Expr} {F G : FE} (ha : PE X a (tE X.K F)) (hb : PE X (.BoolOp .Or (b :: rest) pos) (tE X.K G)) : PE X (.BoolOp .Or (a :: b :: rest) pos) (tE X.K (fOr F G)) := by
  refine peConv (pe_orT ha hb) fun σ H Q h => ?_
  obtain ⟨ρ, env, st, d, st', S, E, e, p⟩ := h
  unfold fOr at e
  split at e
  · rename_i d1 st1 e1
    refine tE_bind S E e1 fun ρ1 H1 v L1 S1 R1 E1 => ?_
    split at e
    · rename_i e2
      cases e
      refine ⟨true, tru_rep S1 R1 e2, ?_⟩
      rw [if_pos rfl]
      exact p ρ1 H1 _ L1 S1 R1
    · rename_i e2
      refine ⟨false, tru_rep S1 R1 e2, ?_⟩
      rw [if_neg (by decide)]
      exact ⟨ρ1, env, st1, d, st', S1, E1, e, p.mono L1⟩
    · cases e
  · cases e
theorem e_and {a b : Expr} {rest : List Expr} {F G : FE} (ha : PE X a (tE X.K F)) (hb : PE X (.BoolOp .And (b :: rest) pos) (tE X.K G)) : PE X (.BoolOp .And (a :: b :: rest) pos) (tE X.K (fAnd F G)) := by
  refine peConv (pe_andT ha hb) fun σ H Q h => ?_
  obtain ⟨ρ, env, st, d, st', S, E, e, p⟩ := h
  unfold fAnd at e
  split at e
  · rename_i d1 st1 e1
    refine tE_bind S E e1 fun ρ1 H1 v L1 S1 R1 E1 => ?_
    split at e
    · rename_i e2
      refine ⟨true, tru_rep S1 R1 e2, ?_⟩
      rw [if_pos rfl]
      exact ⟨ρ1, env, st1, d, st', S1, E1, e, p.mono L1⟩
    · rename_i e2
      cases e
      refine ⟨false, tru_rep S1 R1 e2, ?_⟩
      rw [if_neg (by decide)]
      exact p ρ1 H1 _ L1 S1 R1
    · cases e
  · cases e
theorem e_not {a : Expr} {F : FE} (ha : PE X a (tE X.K F)) : PE X (.UnaryOp .Not a pos) (tE X.K (fNot F)) := by
  refine peConv (pe_notT ha) fun σ H Q h => ?_
  obtain ⟨ρ, env, st, d, st', S, E, e, p⟩ := h
  unfold fNot at e
  split at e
  · rename_i d1 st1 e1
    refine tE_bind S E e1 fun ρ1 H1 v L1 S1 R1 E1 => ?_
    split at e
    · rename_i k e2
      cases e
      exact ⟨k, tru_rep S1 R1 e2, p ρ1 H1 _ L1 S1 rfl⟩
    · cases e
  · cases e
def fIte (C : FT) (F G : FE) : FE := fun env st => match C env st with
  | some (true, st1) => F env st1
  | some (false, st1) => G env st1
  | none => none
theorem e_ite {c a b : Expr} {C : FT} {F G : FE} (hc : PT X c (tT X.K C)) (ha : PE X a (tE X.K F)) (hb : PE X b (tE X.K G)) : PE X (.IfExp c a b pos) (tE X.K (fIte C F G)) := by
  refine peConv (pe_ifExp hc ha hb) fun σ H Q h => ?_
  obtain ⟨ρ, env, st, d, st', S, E, e, p⟩ := h
  unfold fIte at e
  split at e
  · rename_i st1 e1
    refine tT_bind S E e1 fun ρ1 H1 L1 S1 E1 => ?_
    rw [if_pos rfl]
    exact ⟨ρ1, env, st1, d, st', S1, E1, e, p.mono L1⟩
  · rename_i st1 e1
    refine tT_bind S E e1 fun ρ1 H1 L1 S1 E1 => ?_
    rw [if_neg (by decide)]
    exact ⟨ρ1, env, st1, d, st', S1, E1, e, p.mono L1⟩
  · cases e

/-! ### items, slices -/
theorem Reps.atI {K : PySem.W.Frag} {ρ : Wn} {H : Hp} {ds : List D} {vs : List V} {i : Int} {d : D} (r : Reps K ρ H ds vs) (e : L2.atI ds i = some d) : ∃ v, L2.atI vs i = some v ∧ Rep K ρ H d v := by
  unfold L2.atI at e ⊢
  rw [← r.length]
  cases h : ixN ds.length i with
  | none => rw [h] at e; cases e
  | some j =>
    rw [h] at e
    exact r.get e
def dIdx : D → D → Store → Option D := fun a b st => match b with
  | .int i => match a with
    | .tup xs => L2.atI xs i
    | .str z => if z.length ≤ 16777216 then (L2.atI z.cps.toList i).map fun c => .str ⟨#[c]⟩ else none
    | a => match lsqOf st a with
      | some xs => L2.atI xs i
      | none => none
  | _ => none
theorem od_idx {K : PySem.W.Frag} : OpD K dIdx (rIx K) := by
  intro ρ H st a b x y d Q S ra rb e p
  unfold dIdx at e
  split at e
  · rename_i i
    split at e
    · rename_i xs
      obtain ⟨a, vs, rfl, hs, r⟩ := ra
      obtain ⟨v, e1, r1⟩ := r.atI e
      exact .inr (.inl ⟨a, vs, i, v, rfl, rb, hs, e1, p ρ H _ Le.refl S r1⟩)
    · rename_i z
      split at e
      · rename_i hz
        cases h : L2.atI z.cps.toList i with
        | none => rw [h] at e; cases e
        | some c =>
          rw [h] at e
          cases e
          exact .inr (.inr ⟨z, i, c, ra, rb, by rw [sizeLine_eq]; exact hz, h, p ρ H _ Le.refl S rfl⟩)
      · cases e
    · split at e
      · rename_i xs e1
        obtain ⟨a, vs, rfl, hs, r⟩ := lsqOf_rep S ra e1
        obtain ⟨v, e2, r1⟩ := r.atI e
        exact .inl ⟨a, vs, i, v, rfl, rb, hs, e2, p ρ H _ Le.refl S r1⟩
      · cases e
  · cases e
theorem e_idx {a b : Expr} {F G : FE} (ha : PE X a (tE X.K F)) (hb : PE X b (tE X.K G)) (hs : PlainIx b := by exact fun _ _ => rfl) : PE X (.Subscript a b pos) (tE X.K (fBin dIdx F G)) :=
  peConv (pe_ix ix_seq ha hb hs) (tOp_conv od_idx)
abbrev FO := En → Store → Option (Option Int × Store)
def tO (K : PySem.W.Frag) (F : FO) : TO := fun σ H Q => ∃ ρ env st o st', Sim K ρ st H ∧ EnR K ρ H env σ ∧ F env st = some (o, st') ∧ PostT K ρ H st' (Q o)
theorem poConv {X : Cx} {e : Option Expr} {t t' : TO} (h : PO X e t) (c : ∀ σ H Q, t' σ H Q → t σ H Q) : PO X e t' := ⟨fun pins s σ H Q I q => h.run pins s σ H Q I (c _ _ _ q)⟩
def oNone : FO := fun _ st => some (none, st)
def oSome (F : FE) : FO := fun env st => match F env st with
  | some (.int i, st1) => some (some i, st1)
  | _ => none
theorem o_none : PO X none (tO X.K oNone) := by
  refine poConv po_none fun σ H Q h => ?_
  obtain ⟨ρ, env, st, d, st', S, E, e, p⟩ := h
  cases e
  exact p ρ H Le.refl S
theorem o_some {e : Expr} {F : FE} (h : PE X e (tE X.K F)) : PO X (some e) (tO X.K (oSome F)) := by
  refine poConv (po_some h) fun σ H Q h => ?_
  obtain ⟨ρ, env, st, d, st', S, E, e, p⟩ := h
  unfold oSome at e
  split at e
  · rename_i i st1 e1
    cases e
    exact tE_bind S E e1 fun ρ1 H1 v L1 S1 R1 E1 => ⟨i, R1, p ρ1 H1 L1 S1⟩
  · cases e
def cutD (xs : List D) (lo hi : Option Int) : List D := (xs.drop (HT.sIx xs.length 0 lo)).take (HT.sIx xs.length xs.length hi - HT.sIx xs.length 0 lo)
theorem Reps.cut {K : PySem.W.Frag} {ρ : Wn} {H : Hp} {ds : List D} {vs : List V} (r : Reps K ρ H ds vs) (lo hi : Option Int) : Reps K ρ H (cutD ds lo hi) (cutV vs lo hi) := by
  unfold cutD cutV
  rw [← r.length]
  exact (r.drop _).take _
def dCut : D → Option Int → Option Int → Store → Option D := fun a lo hi st => match a with
  | .tup xs => some (.tup (cutD xs lo hi))
  | .str z => if z.length ≤ 16777216 then some (.str (cutS z lo hi)) else none
  | a => match lsqOf st a with
    | some xs => some (.tl (cutD xs lo hi))
    | none => none
def fCut (F : FE) (lo hi : FO) : FE := fun env st => match F env st with
  | some (a, st1) => match lo env st1 with
    | some (l, st2) => match hi env st2 with
      | some (u, st3) => match dCut a l u st3 with
        | some d => some (d, st3)
        | none => none
      | none => none
    | none => none
  | none => none
theorem sl_any : SlR X (fun x lo hi H Q => rSlL X.K x lo hi H Q ∨ (rSlA X.K x lo hi H Q ∨ rSlS x lo hi H Q)) := sl_list.or (sl_tupA.or sl_str)
theorem e_cut {a : Expr} {lo hi : Option Expr} {p2 : Pos} {F : FE} {L U : FO} (ha : PE X a (tE X.K F)) (hl : PO X lo (tO X.K L)) (hu : PO X hi (tO X.K U)) : PE X (.Subscript a (.Slice lo hi none p2) pos) (tE X.K (fCut F L U)) := by
  refine peConv (pe_slice sl_any ha hl hu) fun σ H Q h => ?_
  obtain ⟨ρ, env, st, d, st', S, E, e, p⟩ := h
  unfold fCut at e
  split at e
  · rename_i a st1 e1
    split at e
    · rename_i l st2 e2
      split at e
      · rename_i u st3 e3
        split at e
        · rename_i d' e4
          cases e
          refine tE_bind S E e1 fun ρ1 H1 v L1 S1 R1 E1 => ?_
          refine ⟨ρ1, env, st1, l, st2, S1, E1, e2, fun ρ2 H2 L2 S2 => ?_⟩
          refine ⟨ρ2, env, st2, u, st', S2, E1.mono L2, e3, fun ρ3 H3 L3 S3 => ?_⟩
          have p3 := p.mono ((L1.trans L2).trans L3)
          have R3 := Rep.mono (L2.trans L3) _ _ R1
          unfold dCut at e4
          split at e4
          · rename_i xs
            cases e4
            obtain ⟨a, vs, rfl, hs, r⟩ := R3
            refine .inr (.inl ⟨a, vs, rfl, hs, fun hw => ?_, fun _ => p3.newTup S3 (r.cut l u)⟩)
            refine p3 ρ3 H3 _ Le.refl S3 ⟨a, vs, rfl, hs, ?_⟩
            have : cutD xs l u = xs := by
              unfold cutD
              rw [r.length, hw.1, hw.2]
              simp [← r.length]
            rw [this]
            exact r
          · rename_i z
            split at e4
            · rename_i hz
              cases e4
              exact .inr (.inr ⟨z, R3, by rw [sizeLine_eq]; exact hz, p3 ρ3 H3 _ Le.refl S3 rfl⟩)
            · cases e4
          · split at e4
            · rename_i xs e5
              cases e4
              obtain ⟨a, vs, rfl, hs, r⟩ := lsqOf_rep S3 R3 e5
              exact .inl ⟨a, vs, rfl, hs, p3.newTl S3 (r.cut l u)⟩
            · cases e4
        · cases e
      · cases e
    · cases e
  · cases e

/-! ### calls -/
abbrev FnF := List D → Store → Option (D × Store)
def spD (K : PySem.W.Frag) (n : Nat) (F : FnF) : Sp := fun vs H Q _ => vs.length = n ∧ ∃ ρ st ds d st', Sim K ρ st H ∧ Reps K ρ H ds vs ∧ F ds st = some (d, st') ∧ Post K ρ H st' d Q
/-- a def of n parameters, N names -/
def fnD (n N : Nat) (body : FS) : FnF := fun ds st => if ds.length = n then match body (ds.map some ++ List.replicate (N - n) none) st with
  | some (.rt d, st1) => some (d, st1)
  | some (.nx _, st1) => some (.non, st1)
  | _ => none
  else none
def fCall (n : Nat) (f : FnF) (A : FA) : FE := fun env st => match A env st with
  | some (ds, st1) => if ds.length = n then f ds st1 else none
  | none => none
theorem e_call {k n : Nat} {f : Addr} {fd : FuncData} {ps : List Str} {x : Str} {p : Pos} {e : Expr} {es : List Expr} {F : FnF} {A : FA} (G : FnOk X.prog X.w X.K X.mg X.base CX0 k f fd ps (spD X.K n F)) (hr : Room k X.A) (hg : Gl X x) (hm : X.mg x = some (.ref f)) (hk : PySem.W.keepIn X.K (.ref f) = true) (hb : Binds X.K fd ps [])
    (ha : PA X (e :: es) (tA X.K A)) (hdb : (x == ("__debug__" : Str)) = false := by decide) (he : starEach (e :: es) X.env = (false, eval e X.env) :: starEach es X.env := by rfl) (hpl : (backTo pos (starEach es X.env)).any (·.1) = false := by rfl) :
    PE X (.Call (.Name x p) (e :: es) [] pos) (tE X.K (fCall n F A)) := by
  refine peConv (pe_call G hr hg hm hk hb .nil (pass0 (X := X)) ha hdb he hpl) fun σ H Q h => ?_
  obtain ⟨ρ, env, st, d, st', S, E, e, p⟩ := h
  unfold fCall at e
  split at e
  · rename_i ds st1 e1
    split at e
    · rename_i hn
      refine ⟨ρ, env, st, ds, st1, S, E, e1, fun ρ1 H1 vs L1 S1 R1 => ?_⟩
      show spD X.K n F (vs ++ []) H1 Q E0
      rw [List.append_nil]
      exact ⟨by rw [← R1.length]; exact hn, ρ1, st1, ds, d, st', S1, R1, e, p.mono L1⟩
    · cases e
  · cases e
theorem en_start {K : PySem.W.Frag} {ρ : Wn} {H : Hp} : ∀ {ds : List D} {vs : List V} (n : Nat), Reps K ρ H ds vs → EnR K ρ H (ds.map some ++ List.replicate n none) (vs.map some ++ List.replicate n none) := by
  intro ds vs n r
  refine ⟨by simp [r.length], fun i d e => ?_⟩
  by_cases hi : i < ds.length
  · rw [List.getElem?_append_left (by simpa using hi), List.getElem?_map] at e
    cases h : ds[i]? with
    | none => rw [h] at e; cases e
    | some d' =>
      rw [h] at e
      cases e
      obtain ⟨v, e1, r1⟩ := r.get h
      exact ⟨v, by rw [List.getElem?_append_left (by simpa [← r.length] using hi), List.getElem?_map, e1]; rfl, r1⟩
  · rw [List.getElem?_append_right (by simpa using hi), List.getElem?_replicate] at e
    split at e <;> cases e
theorem fn_ok {P : Program} {w : World} {K : PySem.W.Frag} {mg : Str → Option Value} {base : Heap} {x qual : Str} {stm : Stmt} {f : Addr} {fd : FuncData} {N ps : List Str} {k : Nat} {body : FS} (F : Fun K x qual stm f fd) (S : FnScope N ps (defScope stm))
    (hbody : ∀ (cdv : Value) (A : Around) (outer : List PySem.Env) (s : Shared) (H : Hp) (E : XK), Room k (A.deeper (envOfC qual (defScope stm) s.heap.objs.size f cdv)) →
      PSs (cxOf CX0 P w K mg base N qual (defScope stm) f cdv A outer s H E).nox (defBody stm) (tS K body)) : FnOk P w K mg base CX0 (k + 1) f fd ps (spD K ps.length (fnD ps.length N.length body)) := by
  refine F.ok S (fun vs H Q E h => h.1) fun cdv A outer s H vs Q E hr h => ?_
  refine ⟨_, hbody cdv A outer s H E hr, ?_⟩
  obtain ⟨hl, ρ, st, ds, d, st', Sm, R, e, p⟩ := h
  unfold fnD at e
  split at e
  · rename_i hn
    have En := en_start (n := N.length - ps.length) R
    have hst : L2.start N vs = vs.map some ++ List.replicate (N.length - ps.length) none := by unfold L2.start; rw [hl]
    rw [hst]
    split at e
    · rename_i d' st1 e1
      cases e
      exact ⟨ρ, _, st, _, _, Sm, En, e1, fun ρ' H' v L S' R' => p ρ' H' v L S' R'⟩
    · rename_i e' st1 e1
      cases e
      exact ⟨ρ, _, st, _, _, Sm, En, e1, fun ρ' H' σ' L S' _ => p ρ' H' _ L S' rfl⟩
    · cases e
  · cases e
end
end Vm
namespace Vm
open PySem PySem.Spec PyProof.Rows L2
section
variable {X : Cx} {pos : Pos}

/-! ### targets -/
theorem wipe_set (σ : L2.St) (i : Nat) (x : Option V) : ∀ vs : List Nat, wipe (σ.set i x) vs = if i ∈ vs then wipe σ vs else (wipe σ vs).set i x
  | [] => by simp [wipe]
  | v :: vs => by
    show (wipe (σ.set i x) vs).set v none = if i ∈ v :: vs then (wipe σ vs).set v none else ((wipe σ vs).set v none).set i x
    rw [wipe_set σ i x vs]
    by_cases h : i ∈ vs
    · rw [if_pos h, if_pos (List.mem_cons_of_mem _ h)]
    · rw [if_neg h]
      by_cases e : i = v
      · subst e
        rw [if_pos List.mem_cons_self, List.set_set]
      · rw [if_neg (by simp [e, h]), List.set_comm _ _ e]
abbrev FG := D → En → Option En
abbrev FGs := List D → En → Option En
def tG (K : PySem.W.Frag) (vs : List Nat) (F : FG) : TG := fun v σ H Q => ∃ ρ env st d e', Sim K ρ st H ∧ EnR K ρ H env σ ∧ Rep K ρ H d v ∧ F d env = some e' ∧ ∀ σ', EnR K ρ H e' σ' → wipe σ' vs = wipe σ vs → Q σ' H
def tGs (K : PySem.W.Frag) (vs : List Nat) (F : FGs) : TGs := fun ws σ H Q => ∃ ρ env st ds e', Sim K ρ st H ∧ EnR K ρ H env σ ∧ Reps K ρ H ds ws ∧ F ds env = some e' ∧ ∀ σ', EnR K ρ H e' σ' → wipe σ' vs = wipe σ vs → Q σ' H
theorem pgConv {e : Expr} {t t' : TG} (h : PG X e t) (c : ∀ v σ H Q, t' v σ H Q → t v σ H Q) : PG X e t' := ⟨fun pins s σ H v u Q I r q => h.run pins s σ H v u Q I r (c _ _ _ _ q)⟩
theorem pgsConv {e : List Expr} {t t' : TGs} (h : PGs X e t) (c : ∀ v σ H Q, t' v σ H Q → t v σ H Q) : PGs X e t' := ⟨fun pins s σ H v u Q I r q => h.run pins s σ H v u Q I r (c _ _ _ _ q)⟩
def gSet (i : Nat) : FG := fun d env => some (env.set i (some d))
theorem g_name (vs : List Nat) {i : Nat} {x : Str} (hN : X.N.Nodup) (hi : X.N[i]? = some x) (hx : Loc X.env.scope x) (hv : i ∈ vs) (hf : X.fn x = true ∨ X.env.scope.names.lookup x = some .local := by first | exact .inl rfl | exact .inr rfl | assumption) : PG X (.Name x pos) (tG X.K vs (gSet i)) := by
  refine pgConv (pg_name hN hi hx hf) fun v σ H Q h => ?_
  obtain ⟨ρ, env, st, d, e', S, E, R, e, q⟩ := h
  cases e
  exact q _ (E.set R) (by rw [wipe_set, if_pos hv])
def gNilF : FGs := fun ds env => match ds with
  | [] => some env
  | _ => none
def gConsF (F : FG) (G : FGs) : FGs := fun ds env => match ds with
  | d :: r => match F d env with
    | some e1 => G r e1
    | none => none
  | [] => none
theorem gs_nil (vs : List Nat) : PGs X [] (tGs X.K vs gNilF) := by
  refine pgsConv pgs_nil fun v σ H Q h => ?_
  obtain ⟨ρ, env, st, ds, e', S, E, R, e, q⟩ := h
  unfold gNilF at e
  split at e
  · cases e
    exact ⟨R, q σ E rfl⟩
  · cases e
theorem gs_cons {vs : List Nat} {e : Expr} {es : List Expr} {F : FG} {G : FGs} (h1 : PG X e (tG X.K vs F)) (h2 : PGs X es (tGs X.K vs G))
    (hs : (assignEach (e :: es) X.env).map (·.2) = assign e X.env :: (assignEach es X.env).map (·.2) := by rfl) : PGs X (e :: es) (tGs X.K vs (gConsF F G)) := by
  refine pgsConv (pgs_cons h1 h2 hs) fun ws σ H Q h => ?_
  obtain ⟨ρ, env, st, ds, e', S, E, R, e, q⟩ := h
  unfold gConsF at e
  split at e
  · rename_i d r
    split at e
    · rename_i e1 he
      obtain ⟨w, wr, rfl, r1, r2⟩ := R
      exact ⟨w, wr, rfl, ρ, env, st, d, e1, S, E, r1, he, fun σ' E' hw => ⟨ρ, e1, st, r, e', S, E', r2, e, fun σ2 E2 hw2 => q σ2 E2 (hw2.trans hw)⟩⟩
    · cases e
  · cases e
def gTupF (n : Nat) (G : FGs) : FG := fun d env => match d with
  | .tup ds => if ds.length = n then G ds env else none
  | _ => none
theorem g_tup {vs : List Nat} {es : List Expr} {k n : Nat} {G : FGs} (hc : X.calm = true) (h : PGs X es (tGs X.K vs G)) (hn : (assignEach es X.env).length = n := by rfl) (hst : (assignEach es X.env).findIdx? (·.1) = none := by rfl) :
    PG X (.Tuple es k pos) (tG X.K vs (gTupF n G)) := by
  refine pgConv (pg_tup hc h hn hst) fun v σ H Q h => ?_
  obtain ⟨ρ, env, st, d, e', S, E, R, e, q⟩ := h
  unfold gTupF at e
  split at e
  · rename_i ds
    split at e
    · rename_i hl
      obtain ⟨a, ws, rfl, hs, r⟩ := R
      exact ⟨a, ws, rfl, hs, by rw [← r.length]; exact hl, ρ, env, st, ds, e', S, E, r, e, q⟩
    · cases e
  · cases e

/-! ### statements -/
def sNil : FS := fun env st => some (.nx env, st)
def sSeq (F G : FS) : FS := fun env st => match F env st with
  | some (.nx e1, st1) => G e1 st1
  | r => r
theorem ss_nil : PSs X [] (tS X.K sNil) := by
  refine pssConv pss_nil fun Dn σ H h => ?_
  obtain ⟨ρ, env, st, o, st', S, E, e, p⟩ := h
  cases e
  exact p ρ H σ Le.refl S E
theorem PostS.sw {K : PySem.W.Frag} {ρ : Wn} {H : Hp} {st : Store} {Dn Dm : Ends} {o : Out} (p : PostS K ρ H st Dn o) (h : ∀ e, o ≠ .nx e) (hr : Dn.rt = Dm.rt) (hb : Dn.bk = Dm.bk) (hc : Dn.ct = Dm.ct) : PostS K ρ H st Dm o := by
  cases o with
  | nx e => exact absurd rfl (h e)
  | rt d => exact fun ρ' H' v L S R => hr ▸ p ρ' H' v L S R
  | bk e => exact fun ρ' H' v L S R => hb ▸ p ρ' H' v L S R
  | ct e => exact fun ρ' H' v L S R => hc ▸ p ρ' H' v L S R
theorem ss_cons {a : Stmt} {rest : List Stmt} {F G : FS} (h1 : PS X a (tS X.K F)) (h2 : PSs X rest (tS X.K G)) : PSs X (a :: rest) (tS X.K (sSeq F G)) := by
  refine pssConv (pss_cons h1 h2) fun Dn σ H h => ?_
  obtain ⟨ρ, env, st, o, st', S, E, e, p⟩ := h
  unfold sSeq at e
  split at e
  · rename_i e1 st1 he
    exact ⟨ρ, env, st, _, st1, S, E, he, fun ρ1 H1 σ1 L1 S1 E1 => ⟨ρ1, e1, st1, o, st', S1, E1, e, p.mono L1⟩⟩
  · rename_i hne
    refine ⟨ρ, env, st, o, st', S, E, e, p.sw (fun e0 z => ?_) rfl rfl rfl⟩
    subst z
    exact hne e0 st' e
theorem ss_one {a : Stmt} {F : FS} (h1 : PS X a (tS X.K F)) : PSs X [a] (tS X.K F) := pss_one h1
def sPass : FS := fun env st => some (.nx env, st)
def sBrk : FS := fun env st => some (.bk env, st)
def sCnt : FS := fun env st => some (.ct env, st)
theorem s_pass : PS X (.Pass pos) (tS X.K sPass) := by
  refine psConv ps_pass fun Dn σ H h => ?_
  obtain ⟨ρ, env, st, o, st', S, E, e, p⟩ := h
  cases e
  exact p ρ H _ Le.refl S E
theorem s_brk : PS X (.Break pos) (tS X.K sBrk) := by
  refine psConv ps_break fun Dn σ H h => ?_
  obtain ⟨ρ, env, st, o, st', S, E, e, p⟩ := h
  cases e
  exact p ρ H _ Le.refl S E
theorem s_cnt : PS X (.Continue pos) (tS X.K sCnt) := by
  refine psConv ps_continue fun Dn σ H h => ?_
  obtain ⟨ρ, env, st, o, st', S, E, e, p⟩ := h
  cases e
  exact p ρ H _ Le.refl S E
def sRet (F : FE) : FS := fun env st => match F env st with
  | some (d, st1) => some (.rt d, st1)
  | none => none
theorem s_ret {e : Expr} {F : FE} (he : PE X e (tE X.K F)) : PS X (.Return (some e) pos) (tS X.K (sRet F)) := by
  refine psConv (ps_ret he) fun Dn σ H h => ?_
  obtain ⟨ρ, env, st, o, st', S, E, e, p⟩ := h
  unfold sRet at e
  split at e
  · rename_i d st1 e1
    cases e
    exact ⟨ρ, env, st, d, st', S, E, e1, p⟩
  · cases e
def sRetN : FS := fun env st => some (.rt .non, st)
theorem s_retN : PS X (.Return none pos) (tS X.K sRetN) := by
  refine psConv ps_retN fun Dn σ H h => ?_
  obtain ⟨ρ, env, st, o, st', S, E, e, p⟩ := h
  cases e
  exact p ρ H _ Le.refl S rfl
def sExpr (F : FE) : FS := fun env st => match F env st with
  | some (_, st1) => some (.nx env, st1)
  | none => none
theorem s_expr {e : Expr} {F : FE} (he : PE X e (tE X.K F)) (hs : swapsWith e none pos.line X.env = pure false := by rfl) : PS X (.Expr e pos) (tS X.K (sExpr F)) := by
  refine psConv (ps_expr he hs) fun Dn σ H h => ?_
  obtain ⟨ρ, env, st, o, st', S, E, e, p⟩ := h
  unfold sExpr at e
  split at e
  · rename_i d st1 e1
    cases e
    exact tE_bind S E e1 fun ρ1 H1 v L1 S1 R1 E1 => p ρ1 H1 σ L1 S1 E1
  · cases e
def sSet (i : Nat) (F : FE) : FS := fun env st => match F env st with
  | some (d, st1) => some (.nx (env.set i (some d)), st1)
  | none => none
theorem set_conv {K : PySem.W.Frag} {i : Nat} {F : FE} (Dn : Ends) (σ : L2.St) (H : Hp) (h : tS K (sSet i F) Dn σ H) : tAsg (tE K F) (gName i) Dn σ H := by
  obtain ⟨ρ, env, st, o, st', S, E, e, p⟩ := h
  unfold sSet at e
  split at e
  · rename_i d st1 e1
    cases e
    exact tE_bind S E e1 fun ρ1 H1 v L1 S1 R1 E1 => p ρ1 H1 _ L1 S1 (E1.set R1)
  · cases e
theorem s_set {i : Nat} {x : Str} {e : Expr} {F : FE} {pos' : Pos} (hN : X.N.Nodup) (hi : X.N[i]? = some x) (hx : Loc X.env.scope x) (he : PE X e (tE X.K F)) (hs : swapsWith e (some (.Name x pos')) pos.line X.env = pure false := by rfl)
    (hf : X.fn x = true ∨ X.env.scope.names.lookup x = some .local := by first | exact .inl rfl | exact .inr rfl | assumption) : PS X (.Assign [.Name x pos'] e pos) (tS X.K (sSet i F)) :=
  psConv (ps_set hN hi hx he hs hf) set_conv
/-- a, b = e -/
def sAsg (G : FG) (F : FE) : FS := fun env st => match F env st with
  | some (d, st1) => match G d env with
    | some e1 => some (.nx e1, st1)
    | none => none
  | none => none
theorem s_asg {vs : List Nat} {tg e : Expr} {F : FE} {G : FG} (he : PE X e (tE X.K F)) (hg : PG X tg (tG X.K vs G)) (hs : swapsWithSole [tg] e pos.line X.env = pure false := by rfl) (hw : swappedStores [tg] e X.env = pure none := by rfl)
    (h1 : (assignEach [tg] X.env).map (·.2) = [assign tg X.env] := by rfl) : PS X (.Assign [tg] e pos) (tS X.K (sAsg G F)) := by
  refine psConv (ps_asg he hg hs hw h1) fun Dn σ H h => ?_
  obtain ⟨ρ, env, st, o, st', S, E, e, p⟩ := h
  unfold sAsg at e
  split at e
  · rename_i d st1 e1
    split at e
    · rename_i en e2
      cases e
      exact tE_bind S E e1 fun ρ1 H1 v L1 S1 R1 E1 => ⟨ρ1, env, st', d, en, S1, E1, R1, e2, fun σ' E' _ => p ρ1 H1 σ' L1 S1 E'⟩
    · cases e
  · cases e
/-- a, b = x, y of plain names -/
def sPar (i j : Nat) (A : FA) : FS := fun env st => match A env st with
  | some ([a, b], st1) => some (.nx ((env.set i (some a)).set j (some b)), st1)
  | _ => none
theorem s_par {i j : Nat} {x y : Str} {a b : Expr} {A : FA} {px py pt : Pos} {kt k2 pt2} (hc : X.calm = true) (hN : X.N.Nodup) (hi : X.N[i]? = some x) (hj : X.N[j]? = some y) (hij : i ≠ j)
    (hx : X.env.scope.names.lookup x = some .local) (hy : X.env.scope.names.lookup y = some .local) (ha : PA X [a, b] (tA X.K A))
    (hw : swappedStores [.Tuple [.Name x px, .Name y py] kt pt] (.Tuple [a, b] k2 pt2) X.env = pure (some [x, y]))
    (hs : swapsWithSole [.Tuple [.Name x px, .Name y py] kt pt] (.Tuple [a, b] k2 pt2) pos.line X.env = pure false := by rfl) :
    PS X (.Assign [.Tuple [.Name x px, .Name y py] kt pt] (.Tuple [a, b] k2 pt2) pos) (tS X.K (sPar i j A)) := by
  refine psConv (ps_par hc hN hi hj hij hx hy ha hw hs) fun Dn σ H h => ?_
  obtain ⟨ρ, env, st, o, st', S, E, e, p⟩ := h
  unfold sPar at e
  split at e
  · rename_i d1 d2 st1 e1
    cases e
    refine ⟨ρ, env, st, _, st', S, E, e1, fun ρ1 H1 vs L1 S1 R1 => ?_⟩
    obtain ⟨v, r, rfl, r1, w, r', rfl, r2, r3⟩ := R1
    cases (show r' = [] from r3)
    exact ⟨v, w, rfl, p ρ1 H1 _ L1 S1 (((E.mono L1).set r1).set r2)⟩
  · cases e
def sIf (C : FT) (F G : FS) : FS := fun env st => match C env st with
  | some (true, st1) => F env st1
  | some (false, st1) => G env st1
  | none => none
theorem s_if {c : Expr} {a b : List Stmt} {C : FT} {F G : FS} (hc : PT X c (tT X.K C)) (ha : PSs X a (tS X.K F)) (hb : PSs X b (tS X.K G)) : PS X (.If c a b pos) (tS X.K (sIf C F G)) := by
  refine psConv (ps_if hc ha hb) fun Dn σ H h => ?_
  obtain ⟨ρ, env, st, o, st', S, E, e, p⟩ := h
  unfold sIf at e
  split at e
  · rename_i st1 e1
    refine tT_bind S E e1 fun ρ1 H1 L1 S1 E1 => ?_
    rw [if_pos rfl]
    exact ⟨ρ1, env, st1, o, st', S1, E1, e, p.mono L1⟩
  · rename_i st1 e1
    refine tT_bind S E e1 fun ρ1 H1 L1 S1 E1 => ?_
    rw [if_neg (by decide)]
    exact ⟨ρ1, env, st1, o, st', S1, E1, e, p.mono L1⟩
  · cases e
/-- xs[i] = e -/
def setAt (st : Store) (d : D) (j : Int) (x : D) : Option Store := match d with
  | .ref n => match st[n]? with
    | some (.lst xs) => match ixN xs.length j with
      | some m => some (st.set n (.lst (xs.set m x)))
      | none => none
    | _ => none
  | _ => none
def sPut (Fo Fi F : FE) : FS := fun env st => match F env st with
  | some (x, st1) => match Fo env st1 with
    | some (o, st2) => match Fi env st2 with
      | some (.int j, st3) => match setAt st3 o j x with
        | some st4 => some (.nx env, st4)
        | none => none
      | _ => none
    | none => none
  | none => none
theorem s_put {o i e : Expr} {Fo Fi F : FE} {spos : Pos} (he : PE X e (tE X.K F)) (ho : PE X o (tE X.K Fo)) (hi : PE X i (tE X.K Fi))
    (ha : ∀ v, assign (.Subscript o i spos) X.env v = (do
      let ov ← holding [v] (eval o X.env)
      let iv ← holding [v, ov] (eval i X.env)
      standAt spos
      holding [v, ov, iv] (setItem ov iv v)
      release [v, ov, iv] []) := by intro _; rfl)
    (hs : swapsWithSole [.Subscript o i spos] e pos.line X.env = pure false := by rfl) (hw : swappedStores [.Subscript o i spos] e X.env = pure none := by rfl)
    (h1 : (assignEach [.Subscript o i spos] X.env).map (·.2) = [assign (.Subscript o i spos) X.env] := by rfl) : PS X (.Assign [.Subscript o i spos] e pos) (tS X.K (sPut Fo Fi F)) := by
  refine psConv (ps_asg he (pg_sub ho hi set_list ha) hs hw h1) fun Dn σ H h => ?_
  obtain ⟨ρ, env, st, out, st', S, E, e, p⟩ := h
  unfold sPut at e
  split at e
  · rename_i x st1 e1
    split at e
    · rename_i od st2 e2
      split at e
      · rename_i j st3 e3
        split at e
        · rename_i st4 e4
          cases e
          refine tE_bind S E e1 fun ρ1 H1 v L1 S1 R1 E1 => ?_
          refine tE_bind S1 E1 e2 fun ρ2 H2 ov L2 S2 R2 E2 => ?_
          refine tE_bind S2 E2 e3 fun ρ3 H3 iv L3 S3 R3 E3 => ?_
          unfold setAt at e4
          split at e4
          · rename_i n
            split at e4
            · rename_i xs e5
              split at e4
              · rename_i m e6
                cases e4
                obtain ⟨a, rfl, hn⟩ := Rep.mono L3 _ _ R2
                obtain ⟨vs, h2, rr⟩ := S3.obj n _ a e5 hn
                refine ⟨a, vs, j, m, rfl, R3, h2, by rw [← rr.length]; exact e6, ?_⟩
                have LW := Le.write (u' := .lst (vs.set m v)) (List.mem_of_getElem? hn) h2 (fun _ z => by cases z) (fun _ _ z => by cases z)
                refine p ρ3 _ σ (((L1.trans L2).trans L3).trans LW) (S3.write hn h2 (fun _ z => by cases z) (fun _ _ z => by cases z) ⟨_, upd_same, ?_⟩) (E3.mono LW)
                exact Reps.mono LW _ _ (rr.set (Rep.mono (L2.trans L3) _ _ R1) m)
              · cases e4
            · cases e4
          · cases e4
        · cases e
      · cases e
    · cases e
  · cases e
/-- x += e -/
def sAug (i : Nat) (f : D → D → Store → Option D) (F : FE) : FS := fun env st => match env[i]? with
  | some (some a) => match F env st with
    | some (b, st1) => match f a b st1 with
      | some d => some (.nx (env.set i (some d)), st1)
      | none => none
    | none => none
  | _ => none
theorem s_aug {i : Nat} {x : Str} {e : Expr} {F : FE} {op : Operator} {f : D → D → Store → Option D} {r : TIp} {pos' : Pos} (hN : X.N.Nodup) (hi : X.N[i]? = some x) (hx : Loc X.env.scope x) (he : PE X e (tE X.K F)) (ho : PIp X op r) (hd : OpD X.K f r)
    (hf : X.fn x = true ∨ X.env.scope.names.lookup x = some .local := by first | exact .inl rfl | exact .inr rfl | assumption) : PS X (.AugAssign (.Name x pos') op e pos) (tS X.K (sAug i f F)) := by
  refine psConv (ps_aug hN hi hx he ho hf) fun Dn σ H h => ?_
  obtain ⟨ρ, env, st, out, st', S, E, e, p⟩ := h
  unfold sAug at e
  split at e
  · rename_i a ea
    split at e
    · rename_i b st1 e1
      split at e
      · rename_i d e2
        cases e
        obtain ⟨v, ev, ra⟩ := E.get i a ea
        refine ⟨v, ev, ?_⟩
        refine tE_bind S E e1 fun ρ1 H1 w L1 S1 R1 E1 => ?_
        exact hd ρ1 H1 st' a b v w d _ S1 (Rep.mono L1 _ _ ra) R1 e2 fun ρ2 H2 z L2 S2 R2 => p ρ2 H2 _ (L1.trans L2) S2 ((E1.mono L2).set R2)
      · cases e
    · cases e
  · cases e
theorem s_augAdd {i : Nat} {x : Str} {e : Expr} {F : FE} {pos' : Pos} (hN : X.N.Nodup) (hi : X.N[i]? = some x) (hx : Loc X.env.scope x) (he : PE X e (tE X.K F))
    (hf : X.fn x = true ∨ X.env.scope.names.lookup x = some .local := by first | exact .inl rfl | exact .inr rfl | assumption) : PS X (.AugAssign (.Name x pos') .Add e pos) (tS X.K (sAug i (dI (fun _ _ => true) (fun i j => i + j)) F)) :=
  s_aug (r := fun x y H Q => rI (fun _ _ => True) (fun i j => .int (i + j)) x y H Q) hN hi hx he (fun pins s σ H x y v u Q I r1 r2 h => by obtain ⟨a, b, e1, e2, _, q⟩ := h; exact ip_add pins s σ H x y v u Q I r1 r2 ⟨a, b, e1, e2, q⟩) (od_int fun _ _ _ => trivial) hf

/-! ### while -/
def whileN (C : FT) (B : FS) : Nat → En → Store → Option (Out × Store)
  | 0, _, _ => none
  | n + 1, env, st => match C env st with
    | some (true, st1) => match B env st1 with
      | some (.nx e1, st2) => whileN C B n e1 st2
      | some (.ct e1, st2) => whileN C B n e1 st2
      | some (.bk e1, st2) => some (.nx e1, st2)
      | some (.rt d, st2) => some (.rt d, st2)
      | none => none
    | some (false, st1) => some (.nx env, st1)
    | none => none
def sWhile (n : Nat) (C : FT) (B : FS) : FS := fun env st => whileN C B n env st
theorem s_while (n : Nat) {c : Expr} {body : List Stmt} {C : FT} {B : FS} (hp : PassesOwn (model X.prog X.w) X.A X.env X.xe) (hc : PT X c (tT X.K C)) (hb : PSs X body (tS X.K B)) : PS X (.While c body [] pos) (tS X.K (sWhile n C B)) := by
  refine psConv (ps_while hp hc hb) fun Dn σ H h => ?_
  obtain ⟨ρ, env, st, o, st', S, E, e, p⟩ := h
  refine ⟨fun m σ1 H1 => ∃ ρ1 e1 st1, Le ρ H ρ1 H1 ∧ Sim X.K ρ1 st1 H1 ∧ EnR X.K ρ1 H1 e1 σ1 ∧ whileN C B m e1 st1 = some (o, st'), ⟨n, ρ, env, st, Le.refl, S, E, e⟩, ?_⟩
  rintro m σ1 H1 ⟨ρ1, e1, st1, L1, S1, E1, hw⟩
  cases m with
  | zero => cases hw
  | succ m =>
    unfold whileN at hw
    split at hw
    · rename_i st2 ec
      refine tT_bind S1 E1 ec fun ρ2 H2 L2 S2 E2 => ?_
      rw [if_pos rfl]
      refine ⟨fun σ3 H3 => ∃ ρ3 e3 st3, Le ρ H ρ3 H3 ∧ Sim X.K ρ3 st3 H3 ∧ EnR X.K ρ3 H3 e3 σ3 ∧ whileN C B m e3 st3 = some (o, st'), fun σ3 H3 h3 => ⟨m, Nat.lt_succ_self m, h3⟩, ?_⟩
      split at hw
      · rename_i e3 st3 eb
        exact ⟨ρ2, e1, st2, _, st3, S2, E2, eb, fun ρ3 H3 σ3 L3 S3 E3 => ⟨ρ3, e3, st3, (L1.trans L2).trans L3, S3, E3, hw⟩⟩
      · rename_i e3 st3 eb
        exact ⟨ρ2, e1, st2, _, st3, S2, E2, eb, fun ρ3 H3 σ3 L3 S3 E3 => ⟨ρ3, e3, st3, (L1.trans L2).trans L3, S3, E3, hw⟩⟩
      · rename_i e3 st3 eb
        cases hw
        exact ⟨ρ2, e1, st2, _, st', S2, E2, eb, fun ρ3 H3 σ3 L3 S3 E3 => p ρ3 H3 σ3 ((L1.trans L2).trans L3) S3 E3⟩
      · rename_i d st3 eb
        cases hw
        exact ⟨ρ2, e1, st2, _, st', S2, E2, eb, fun ρ3 H3 v L3 S3 R3 => p ρ3 H3 v ((L1.trans L2).trans L3) S3 R3⟩
      · cases hw
    · rename_i st2 ec
      cases hw
      refine tT_bind S1 E1 ec fun ρ2 H2 L2 S2 E2 => ?_
      rw [if_neg (by decide)]
      exact p ρ2 H2 σ1 (L1.trans L2) S2 E2
    · cases hw

/-! ### what is walked -/
abbrev Gd := Store → Prop
abbrev FI := En → Store → Option ((List D × Gd) × Store)
def Src (K : PySem.W.Frag) (ρ : Wn) (H : Hp) (J : It) (ds : List D) (g : Gd) : Prop := ∃ (G : Hp → Prop) (Y : Nat → Hp → V → Hp → Prop), Walk J ds.length G Y ∧
  (∀ ρ' H' st', Le ρ H ρ' H' → Sim K ρ' st' H' → g st' → G H') ∧
  (∀ i ρ' H' st' x H'', i < ds.length → Le ρ H ρ' H' → Sim K ρ' st' H' → g st' → Y i H' x H'' → ∃ d, ds[i]? = some d ∧ Le ρ' H' ρ' H'' ∧ Sim K ρ' st' H'' ∧ Rep K ρ' H'' d x)
def tI (K : PySem.W.Frag) (F : FI) : TI := fun σ H R => ∃ ρ env st ds g st', Sim K ρ st H ∧ EnR K ρ H env σ ∧ F env st = some ((ds, g), st') ∧ g st' ∧
  ∀ ρ1 H1 J, Le ρ H ρ1 H1 → Sim K ρ1 st' H1 → Src K ρ1 H1 J ds g → R J H1
theorem piConv {tg e : Expr} {t t' : TI} (h : PI X tg e t) (c : ∀ σ H Q, t' σ H Q → t σ H Q) : PI X tg e t' := ⟨fun pins s σ H Q I q => h.run pins s σ H Q I (c _ _ _ q)⟩
theorem piOr {tg e : Expr} {t t' : TI} (h : PI X tg e t) (h' : PI X tg e t') : PI X tg e (fun σ H R => t σ H R ∨ t' σ H R) := ⟨fun pins s σ H R I q => by
  rcases q with q | q
  · exact h.run pins s σ H R I q
  · exact h'.run pins s σ H R I q⟩
def itemsOf (st : Store) : D → Option (List D × Gd)
  | .tup xs => some (xs, fun _ => True)
  | .tl xs => some (xs, fun _ => True)
  | .sl xs => some (xs, fun _ => True)
  | .str z => some (z.cps.toList.map fun c => .str ⟨#[c]⟩, fun _ => True)
  | .ref n => match st[n]? with
    | some (.lst xs) => some (xs, fun st' => st'[n]? = some (.lst xs))
    | _ => none
  | _ => none
def iVal (F : FE) : FI := fun env st => match F env st with
  | some (d, st1) => match itemsOf st1 d with
    | some r => some (r, st1)
    | none => none
  | none => none
theorem src_list {K : PySem.W.Frag} {ρ : Wn} {H : Hp} {a : Addr} {vs : List V} {ds : List D} {g : Gd} (r : Reps K ρ H ds vs) (hg : ∀ ρ' H' st', Le ρ H ρ' H' → Sim K ρ' st' H' → g st' → SqL K H' a vs) : Src K ρ H (Itl K a) ds g := by
  refine ⟨fun H => SqL K H a vs, YAt vs, by rw [r.length]; exact walk_list, hg, fun i ρ' H' st' x H'' hi L S q y => ?_⟩
  obtain ⟨rfl, hx⟩ := y
  obtain ⟨d, e, rd⟩ := (Reps.mono L _ _ r).getV hx
  exact ⟨d, e, Le.refl, S, rd⟩
theorem src_tup {K : PySem.W.Frag} {ρ : Wn} {H : Hp} {a : Addr} {vs : List V} {ds : List D} {g : Gd} (r : Reps K ρ H ds vs) (hs : SqT K H a vs) : Src K ρ H (Itt K a) ds g := by
  refine ⟨fun H => SqT K H a vs, YAt vs, by rw [r.length]; exact walk_tup, fun ρ' H' st' L _ _ => L.sqt hs, fun i ρ' H' st' x H'' hi L S q y => ?_⟩
  obtain ⟨rfl, hx⟩ := y
  obtain ⟨d, e, rd⟩ := (Reps.mono L _ _ r).getV hx
  exact ⟨d, e, Le.refl, S, rd⟩
theorem i_val {tg e : Expr} {F : FE} (he : PE X e (tE X.K F)) : PI X tg e (tI X.K (iVal F)) := by
  refine piConv (piOr (pi_list he) (piOr (pi_tup he) (pi_str he))) fun σ H R h => ?_
  obtain ⟨ρ, env, st, ds, g, st', S, E, e, hg, q⟩ := h
  unfold iVal at e
  split at e
  · rename_i d st1 e1
    split at e
    · rename_i r e2
      cases e
      unfold itemsOf at e2
      split at e2
      · cases e2
        refine .inr (.inl (tE_bind S E e1 fun ρ1 H1 v L1 S1 R1 E1 => ?_))
        obtain ⟨a, vs, rfl, hs, rr⟩ := R1
        exact ⟨a, rfl, ⟨vs, hs⟩, q ρ1 H1 _ L1 S1 (src_tup rr hs)⟩
      · cases e2
        refine .inl (tE_bind S E e1 fun ρ1 H1 v L1 S1 R1 E1 => ?_)
        obtain ⟨a, vs, rfl, ⟨hn, hs⟩, rr⟩ := R1
        exact ⟨a, rfl, ⟨vs, SqL.of hs⟩, q ρ1 H1 _ L1 S1 (src_list rr fun ρ' H' st'' L _ _ => SqL.of (L.keep _ _ hn.1 hs))⟩
      · cases e2
        refine .inl (tE_bind S E e1 fun ρ1 H1 v L1 S1 R1 E1 => ?_)
        obtain ⟨a, vs, rfl, hs, rr⟩ := R1
        have hq : ∀ ρ' H', Le ρ1 H1 ρ' H' → SqL X.K H' a vs := fun ρ' H' L => by
          rcases hs with ⟨hn, ob, hs⟩ | hs
          · exact .inl (.inr ⟨ob, L.keep _ _ hn hs⟩)
          · exact .inr hs
        exact ⟨a, rfl, ⟨vs, hq _ _ Le.refl⟩, q ρ1 H1 _ L1 S1 (src_list rr fun ρ' H' _ L _ _ => hq ρ' H' L)⟩
      · rename_i z
        cases e2
        refine .inr (.inr (tE_bind S E e1 fun ρ1 H1 v L1 S1 R1 E1 => ?_))
        refine ⟨z, R1, q ρ1 H1 _ L1 S1 ⟨fun _ => True, _, by have w := walk_str (z := z); rw [show (z.cps.toList.map fun c => D.str ⟨#[c]⟩).length = z.cps.size by simp]; exact w, fun _ _ _ _ _ _ => trivial, fun i ρ' H' st'' x H'' hi L S' _ y => ?_⟩⟩
        obtain ⟨rfl, c, hc, rfl⟩ := y
        exact ⟨.str ⟨#[c]⟩, by rw [List.getElem?_map, Array.getElem?_toList, hc]; rfl, Le.refl, S', rfl⟩
      · split at e2
        · rename_i n _ xs e3
          cases e2
          refine .inl (tE_bind S E e1 fun ρ1 H1 v L1 S1 R1 E1 => ?_)
          obtain ⟨a, rfl, ha⟩ := R1
          obtain ⟨vs, h2, rr⟩ := S1.obj n _ a e3 ha
          refine ⟨a, rfl, ⟨vs, SqL.of h2⟩, q ρ1 H1 _ L1 S1 ?_⟩
          refine ⟨fun H => ∃ ws, SqL X.K H a ws ∧ ws.length = vs.length ∧ ∀ (ρ' : Wn) , True, fun i H x H' => H' = H ∧ ∀ ws, SqL X.K H a ws → ws[i]? = some x, ?_, ?_, ?_⟩
          · rw [rr.length]
            refine ⟨fun i H hi hq => ?_, fun H hq => ?_, fun i H x H' hi _ y => y⟩
            · obtain ⟨ws, hw, hl, _⟩ := hq
              exact ⟨ws, ws[i]'(by omega), hw, by simp⟩
            · obtain ⟨ws, hw, hl, _⟩ := hq
              exact ⟨ws, hw, by omega⟩
          · intro ρ' H' st'' L S' g'
            have ha' : ρ'.r[n]? = some a := by
              obtain ⟨m, hs, rfl, _⟩ := L.pre
              rw [List.getElem?_append_left (List.getElem?_eq_some_iff.mp ha).1]
              exact ha
            obtain ⟨ws, hw, rw'⟩ := S'.obj n _ a g' ha'
            exact ⟨ws, SqL.of hw, by rw [← rw'.length, rr.length], fun _ => trivial⟩
          · intro i ρ' H' st'' x H'' hi L S' g' y
            obtain ⟨rfl, hx⟩ := y
            have ha' : ρ'.r[n]? = some a := by
              obtain ⟨m, hs, rfl, _⟩ := L.pre
              rw [List.getElem?_append_left (List.getElem?_eq_some_iff.mp ha).1]
              exact ha
            obtain ⟨ws, hw, rw'⟩ := S'.obj n _ a g' ha'
            obtain ⟨d, e4, rd⟩ := rw'.getV (hx ws (SqL.of hw))
            exact ⟨d, e4, Le.refl, S', rd⟩
        · cases e2
      · cases e2
    · cases e
  · cases e
/-- range(n), range(a, b) -/
def rangeD (lo : Int) (n : Nat) : List D := (List.range n).map fun i => .int (lo + (i : Nat))
theorem src_range {K : PySem.W.Frag} {ρ : Wn} {H : Hp} {lo : Int} {n : Nat} {g : Gd} : Src K ρ H (Itr lo n) (rangeD lo n) g := by
  refine ⟨fun _ => True, YFn fun i => .int (lo + i), by rw [show (rangeD lo n).length = n by simp [rangeD]]; exact walk_range, fun _ _ _ _ _ _ => trivial, fun i ρ' H' st' x H'' hi L S q y => ?_⟩
  obtain ⟨rfl, rfl⟩ := y
  have hi' : i < n := by simpa [rangeD] using hi
  exact ⟨.int (lo + (i : Nat)), by simp [rangeD, hi'], Le.refl, S, rfl⟩
def iRange1 (A : FA) : FI := fun env st => match A env st with
  | some ([.int j], st1) => if -4611686018427387904 ≤ j ∧ j < 4611686018427387904 then some ((rangeD 0 j.toNat, fun _ => True), st1) else none
  | _ => none
def iRange2 (A : FA) : FI := fun env st => match A env st with
  | some ([.int i, .int j], st1) => if (-4611686018427387904 ≤ i ∧ i < 4611686018427387904) ∧ -4611686018427387904 ≤ j ∧ j < 4611686018427387904 then some ((rangeD i (j - i).toNat, fun _ => True), st1) else none
  | _ => none
theorem i_range1 {tg a : Expr} {A : FA} {p : Pos} (hg : Gl X "range") (hm : X.mg "range" = none) (ha : PA X [a] (tA X.K A)) (hs : starEach [a] X.env = [(false, eval a X.env)] := by rfl) : PI X tg (.Call (.Name "range" p) [a] [] pos) (tI X.K (iRange1 A)) := by
  refine piConv (pi_range1 hg hm ha hs) fun σ H R h => ?_
  obtain ⟨ρ, env, st, ds, g, st', S, E, e, hgd, q⟩ := h
  unfold iRange1 at e
  split at e
  · rename_i j st1 e1
    split at e
    · rename_i hb
      cases e
      refine ⟨ρ, env, st, _, st', S, E, e1, fun ρ1 H1 vs L1 S1 R1 => ?_⟩
      obtain ⟨v, r, rfl, r1, r2⟩ := R1
      cases (show r = [] from r2)
      exact ⟨j, by rw [show v = .int j from r1], by omega, by omega, q ρ1 H1 _ L1 S1 src_range⟩
    · cases e
  · cases e
theorem i_range2 {tg a b : Expr} {A : FA} {p : Pos} (hg : Gl X "range") (hm : X.mg "range" = none) (ha : PA X [a, b] (tA X.K A)) (hs : starEach [a, b] X.env = [(false, eval a X.env), (false, eval b X.env)] := by rfl) (hs2 : starEach [b] X.env = [(false, eval b X.env)] := by rfl) : PI X tg (.Call (.Name "range" p) [a, b] [] pos) (tI X.K (iRange2 A)) := by
  refine piConv (pi_range2 hg hm ha hs hs2) fun σ H R h => ?_
  obtain ⟨ρ, env, st, ds, g, st', S, E, e, hgd, q⟩ := h
  unfold iRange2 at e
  split at e
  · rename_i i j st1 e1
    split at e
    · rename_i hb
      cases e
      refine ⟨ρ, env, st, _, st', S, E, e1, fun ρ1 H1 vs L1 S1 R1 => ?_⟩
      obtain ⟨v, r, rfl, r1, w, r', rfl, r2, r3⟩ := R1
      cases (show r' = [] from r3)
      exact ⟨i, j, by rw [show v = .int i from r1, show w = .int j from r2], ⟨by omega, by omega, by omega, by omega⟩, q ρ1 H1 _ L1 S1 src_range⟩
    · cases e
  · cases e

/-! ### for -/
open Classical in
noncomputable def forN (g : Gd) (T : FG) (B : FS) : List D → En → Store → Option (Out × Store)
  | [], env, st => if g st then some (.nx env, st) else none
  | d :: ds, env, st => if g st then match T d env with
      | some e1 => match B e1 st with
        | some (.nx e2, st2) => forN g T B ds e2 st2
        | some (.ct e2, st2) => forN g T B ds e2 st2
        | some (.bk e2, st2) => some (.nx e2, st2)
        | some (.rt v, st2) => some (.rt v, st2)
        | none => none
      | none => none
    else none
noncomputable def sFor (I : FI) (T : FG) (B : FS) : FS := fun env st => match I env st with
  | some ((ds, g), st1) => forN g T B ds env st1
  | none => none
theorem s_for {vs : List Nat} {tg iter : Expr} {body : List Stmt} {I : FI} {T : FG} {B : FS} (hp : PassesOwn (model X.prog X.w) X.A X.env X.xe) (hc : X.calm = true) (hi : PI X tg iter (tI X.K I)) (hg : PG X tg (tG X.K vs T)) (hb : PSs X body (tS X.K B))
    (hs : ∀ x, foldedSetIterable iter X.env x = pure x := by intro _; rfl) : PS X (.For tg iter body [] pos) (tS X.K (sFor I T B)) := by
  refine psConv (ps_for hp hc hi hg hb hs) fun Dn σ H h => ?_
  obtain ⟨ρ, env, st, o, st', S, E, e, p⟩ := h
  unfold sFor at e
  split at e
  · rename_i ds g st1 e1
    have g1 : g st1 := by
      cases ds <;> (unfold forN at e; split at e)
      · assumption
      · cases e
      · assumption
      · cases e
    refine ⟨ρ, env, st, ds, g, st1, S, E, e1, g1, fun ρ1 H1 J L1 S1 src => ?_⟩
    obtain ⟨G, Y, w, hG, hY⟩ := src
    have gOf : ∀ {i e2 st2}, forN g T B (ds.drop i) e2 st2 = some (o, st') → g st2 := fun {i e2 st2} h => by
      cases hd : ds.drop i <;> (rw [hd] at h; unfold forN at h; split at h)
      · assumption
      · cases h
      · assumption
      · cases h
    refine for_it w (Pv := fun i σ2 H2 => ∃ ρ2 e2 st2, Le ρ1 H1 ρ2 H2 ∧ Sim X.K ρ2 st2 H2 ∧ EnR X.K ρ2 H2 e2 σ2 ∧ forN g T B (ds.drop i) e2 st2 = some (o, st')) ⟨ρ1, env, st1, Le.refl, S1, E.mono L1, e⟩ ?_ ?_ ?_
    · rintro i σ2 H2 _ ⟨ρ2, e2, st2, L2, S2, E2, h2⟩
      exact hG ρ2 H2 st2 L2 S2 (gOf h2)
    · rintro i x σ2 H2 H3 hi ⟨ρ2, e2, st2, L2, S2, E2, h2⟩ y
      obtain ⟨d, hd, L3, S3, R3⟩ := hY i ρ2 H2 st2 x H3 hi L2 S2 (gOf h2) y
      have hdr : ds.drop i = d :: ds.drop (i + 1) := by
        obtain ⟨hlt, rfl⟩ := List.getElem?_eq_some_iff.mp hd
        exact List.drop_eq_getElem_cons hlt
      have g2 := gOf h2
      rw [hdr] at h2
      unfold forN at h2
      rw [if_pos g2] at h2
      split at h2
      · rename_i e3 ht
        refine ⟨ρ2, e2, st2, d, e3, S3, E2.mono L3, R3, ht, fun σ3 E3 _ => ?_⟩
        split at h2
        · rename_i e4 st4 hb
          exact ⟨ρ2, e3, st2, _, st4, S3, E3, hb, fun ρ5 H5 σ5 L5 S5 E5 => ⟨ρ5, e4, st4, (L2.trans L3).trans L5, S5, E5, h2⟩⟩
        · rename_i e4 st4 hb
          exact ⟨ρ2, e3, st2, _, st4, S3, E3, hb, fun ρ5 H5 σ5 L5 S5 E5 => ⟨ρ5, e4, st4, (L2.trans L3).trans L5, S5, E5, h2⟩⟩
        · rename_i e4 st4 hb
          cases h2
          exact ⟨ρ2, e3, st2, _, st', S3, E3, hb, fun ρ5 H5 σ5 L5 S5 E5 => p ρ5 H5 σ5 (L1.trans ((L2.trans L3).trans L5)) S5 E5⟩
        · rename_i v st4 hb
          cases h2
          exact ⟨ρ2, e3, st2, _, st', S3, E3, hb, fun ρ5 H5 v5 L5 S5 R5 => p ρ5 H5 v5 (L1.trans ((L2.trans L3).trans L5)) S5 R5⟩
        · cases h2
      · cases h2
    · rintro σ2 H2 ⟨ρ2, e2, st2, L2, S2, E2, h2⟩
      rw [List.drop_length] at h2
      unfold forN at h2
      split at h2
      · cases h2
        exact p ρ2 H2 σ2 (L1.trans L2) S2 E2
      · cases h2
  · cases e
end
end Vm
namespace Vm
open PySem PySem.Spec PyProof.Rows L2

/-! ### carrying over, in general -/
structure Tr (ρ : Wn) (H : Hp) (ρ' : Wn) (H' : Hp) : Prop where
  r : ∀ (n : Nat) (a : Addr), ρ.r[n]? = some a → ρ'.r[n]? = some a
  tup : ∀ a xs, Rd H a (.tup xs) → Rd H' a (.tup xs)
  lst : ∀ a vs, a ∉ ρ.r → a ∉ ρ.h → H a = some (.lst vs) → a ∉ ρ'.r ∧ a ∉ ρ'.h ∧ H' a = some (.lst vs)
  frz : ∀ a ob vs, a ∉ ρ.r → H a = some (.frz ob (.lst vs)) → a ∉ ρ'.r ∧ H' a = some (.frz ob (.lst vs))
section
variable {K : PySem.W.Frag} {ρ ρ' : Wn} {H H' : Hp}
mutual
theorem Rep.tr (L : Tr ρ H ρ' H') : ∀ (d : D) (v : V), Rep K ρ H d v → Rep K ρ' H' d v
  | .non, _, h => h
  | .bl _, _, h => h
  | .int _, _, h => h
  | .str _, _, h => h
  | .tup ds, v, h => by
    obtain ⟨a, vs, e, hs, hr⟩ := h
    refine ⟨a, vs, e, ?_, Reps.tr L ds vs hr⟩
    rcases hs with hs | hs
    · exact .inl (L.tup a vs hs)
    · exact .inr hs
  | .tl ds, v, h => by
    obtain ⟨a, vs, e, ⟨hn, hs⟩, hr⟩ := h
    obtain ⟨h1, h2, h3⟩ := L.lst a vs hn.1 hn.2 hs
    exact ⟨a, vs, e, ⟨⟨h1, h2⟩, h3⟩, Reps.tr L ds vs hr⟩
  | .sl ds, v, h => by
    obtain ⟨a, vs, e, h1, hr⟩ := h
    refine ⟨a, vs, e, ?_, Reps.tr L ds vs hr⟩
    rcases h1 with ⟨hn, ob, hs⟩ | h1
    · obtain ⟨h2, h3⟩ := L.frz a ob vs hn hs
      exact .inl ⟨h2, ob, h3⟩
    · exact .inr h1
  | .ref n, v, h => by
    obtain ⟨a, e, hr⟩ := h
    exact ⟨a, e, L.r n a hr⟩
  | .ty _, _, h => h
theorem Reps.tr (L : Tr ρ H ρ' H') : ∀ (ds : List D) (vs : List V), Reps K ρ H ds vs → Reps K ρ' H' ds vs
  | [], _, h => h
  | d :: ds, vs, h => by
    obtain ⟨v, r, e, h1, h2⟩ := h
    exact ⟨v, r, e, Rep.tr L d v h1, Reps.tr L ds r h2⟩
end
theorem EnR.tr {env : En} {σ : L2.St} (E : EnR K ρ H env σ) (L : Tr ρ H ρ' H') : EnR K ρ' H' env σ :=
  ⟨E.len, fun i d e => let ⟨v, e1, r⟩ := E.get i d e; ⟨v, e1, Rep.tr L d v r⟩⟩
theorem RepO.tr {o : O} {a : Addr} (h : RepO K ρ H o a) (L : Tr ρ H ρ' H') (e : H' a = H a) : RepO K ρ' H' o a := by
  cases o with
  | lst ds =>
    obtain ⟨vs, e1, r⟩ := h
    exact ⟨vs, e.trans e1, Reps.tr L _ _ r⟩
  | dic kvs =>
    obtain ⟨us, e1, ek, r⟩ := h
    exact ⟨us, e.trans e1, ek, Reps.tr L _ _ r⟩
/-- a new object, hidden -/
theorem Le.hide {p : Addr} {o : HO} (h : H p = none) : Le ρ H ⟨ρ.r, p :: ρ.h⟩ (upd H p o) := by
  have L := Le.new (ρ := ρ) (o := o) h
  exact ⟨⟨[], [p], by simp, by simp, fun a q => by rw [List.mem_singleton.mp q]; exact h⟩, L.keep, L.tup, L.live⟩
theorem Sim.hide {st : Store} (S : Sim K ρ st H) {p : Addr} {o : HO} (h : H p = none) : Sim K ⟨ρ.r, p :: ρ.h⟩ st (upd H p o) := by
  refine ⟨S.len, fun a q => ?_, S.inj, fun n x a e1 e2 => (S.obj n x a e1 e2).mono (Le.hide h) (upd_ne (fun q => S.fresh h (q ▸ List.mem_of_getElem? e2)))⟩
  rcases List.mem_cons.mp q with q | q
  · exact ⟨_, by rw [q]; exact upd_same⟩
  · exact (S.hid a q).imp fun o e => by rw [upd_ne (ne_of_none e h)]; exact e
/-- what is hidden changes -/
theorem Tr.upd {p : Addr} {u : List V} {o : HO} (hp : p ∈ ρ.h) (e : H p = some (.lst u)) : Tr ρ H ρ (upd H p o) := by
  refine ⟨fun _ _ q => q, fun a xs q => ?_, fun a vs h1 h2 q => ?_, fun a ob vs h1 q => ?_⟩
  · rcases q with q | ⟨ob, q⟩
    · exact .inl (by rw [upd_ne (fun z => by rw [z, e] at q; cases q)]; exact q)
    · exact .inr ⟨ob, by rw [upd_ne (fun z => by rw [z, e] at q; cases q)]; exact q⟩
  · exact ⟨h1, h2, by rw [upd_ne (fun z => h2 (by rw [z]; exact hp))]; exact q⟩
  · exact ⟨h1, by rw [upd_ne (fun z => by rw [z, e] at q; cases q)]; exact q⟩
theorem Sim.updH {st : Store} (S : Sim K ρ st H) {p : Addr} {u : List V} {o : HO} (hp : p ∈ ρ.h) (hn : p ∉ ρ.r) (e : H p = some (.lst u)) : Sim K ρ st (upd H p o) := by
  refine ⟨S.len, fun a q => ?_, S.inj, fun n x a e1 e2 => (S.obj n x a e1 e2).tr (Tr.upd hp e) (upd_ne (fun z => hn (z ▸ List.mem_of_getElem? e2)))⟩
  by_cases z : a = p
  · exact ⟨_, by rw [z]; exact upd_same⟩
  · exact (S.hid a q).imp fun o e => by rw [upd_ne z]; exact e
theorem Le.updN {p : Addr} {o : HO} (L : Le ρ H ρ' H') (h : H p = none) : Le ρ H ρ' (L2.upd H' p o) := by
  refine ⟨L.pre, fun a o' h1 q => by rw [upd_ne (ne_of_none q h)]; exact L.keep a o' h1 q, fun a xs q => ?_, fun a q => ?_⟩
  · have hne : a ≠ p := by
      rintro rfl
      rcases q with q | ⟨ob, q⟩
      · rw [h] at q; cases q
      · rw [h] at q; cases q
    rcases L.tup a xs q with q | ⟨ob, q⟩
    · exact .inl (by rw [upd_ne hne]; exact q)
    · exact .inr ⟨ob, by rw [upd_ne hne]; exact q⟩
  · by_cases z : a = p
    · rw [z, upd_same] at q; cases q
    · rw [upd_ne z] at q
      exact L.live a q
/-- nothing hidden any more -/
theorem Tr.show {h : List Addr} (hh : ∀ a ∈ h, a ∈ ρ.h) : Tr ρ H ⟨ρ.r, h⟩ H :=
  ⟨fun _ _ q => q, fun _ _ q => q, fun _ _ h1 h2 q => ⟨h1, fun z => h2 (hh _ z), q⟩, fun _ _ _ h1 q => ⟨h1, q⟩⟩
theorem Sim.show {st : Store} (S : Sim K ρ st H) {h : List Addr} (hh : ∀ a ∈ h, a ∈ ρ.h) : Sim K ⟨ρ.r, h⟩ st H :=
  ⟨S.len, fun a q => S.hid a (hh a q), S.inj, fun n x a e1 e2 => (S.obj n x a e1 e2).tr (Tr.show hh) rfl⟩
theorem Le.show {ρ₀ : Wn} {H₀ : Hp} (L : Le ρ₀ H₀ ρ H) : Le ρ₀ H₀ ⟨ρ.r, ρ₀.h⟩ H ∧ ∀ a ∈ ρ₀.h, a ∈ ρ.h := by
  obtain ⟨m, hs, rfl, h1, h2⟩ := L.pre
  exact ⟨⟨⟨m, [], rfl, h1, by simp⟩, L.keep, L.tup, L.live⟩, fun a q => List.mem_append_right _ q⟩
end

/-! ### comprehensions -/
def wipeE (env : En) : List Nat → En
  | [] => env
  | v :: vs => (wipeE env vs).set v none
theorem EnR.wipe {K : PySem.W.Frag} {ρ : Wn} {H : Hp} {env : En} {σ : L2.St} (E : EnR K ρ H env σ) : ∀ vs : List Nat, EnR K ρ H (wipeE env vs) (L2.wipe σ vs)
  | [] => E
  | v :: vs => by
    have E' := EnR.wipe E vs
    refine ⟨by show ((wipeE env vs).set v none).length = ((L2.wipe σ vs).set v none).length; rw [List.length_set, List.length_set]; exact E'.len, fun i d e => ?_⟩
    have e : ((wipeE env vs).set v none)[i]? = some (some d) := e
    by_cases h : v = i
    · subst h
      have hl : v < (wipeE env vs).length := by
        have q := (List.getElem?_eq_some_iff.mp e).1
        simpa using q
      rw [List.getElem?_set_self hl] at e
      cases e
    · rw [List.getElem?_set_ne h] at e
      obtain ⟨w, e1, r1⟩ := E'.get i d e
      exact ⟨w, by show ((L2.wipe σ vs).set v none)[i]? = _; rw [List.getElem?_set_ne h]; exact e1, r1⟩
open Classical in
noncomputable def compN (g : Gd) (T : FG) (C : FT) (F : FE) : List D → En → Store → Option (List D × Store)
  | [], _, st => if g st then some ([], st) else none
  | d :: ds, env, st => if g st then match T d env with
      | some e1 => match C e1 st with
        | some (true, st1) => match F e1 st1 with
          | some (y, st2) => match compN g T C F ds env st2 with
            | some (ys, st3) => some (y :: ys, st3)
            | none => none
          | none => none
        | some (false, st1) => compN g T C F ds env st1
        | none => none
      | none => none
    else none
noncomputable def fComp (vs : List Nat) (I : FI) (T : FG) (C : FT) (F : FE) : FE := fun env st => match I env st with
  | some ((ds, g), st1) => if ds.length ≤ 16777216 then match compN g T C F ds (wipeE env vs) st1 with
      | some (ys, st2) => some (.tl ys, st2)
      | none => none
    else none
  | none => none
noncomputable def fCompS (vs : List Nat) (I : FI) (T : FG) (C : FT) (F : FE) : FE := fun env st => match I env st with
  | some ((ds, g), st1) => if ds.length ≤ 16777216 then match compN g T C F ds (wipeE env vs) st1 with
      | some (ys, st2) => some (.ref st2.length, st2 ++ [.lst ys])
      | none => none
    else none
  | none => none
def tYesF : FT := fun _ st => some (true, st)
section
variable {X : Cx} {pos : Pos}
theorem compN_g {g : Gd} {T : FG} {C : FT} {F : FE} {ds : List D} {env : En} {st : Store} {r : List D × Store} (h : compN g T C F ds env st = some r) : g st := by
  cases ds <;> (unfold compN at h; split at h)
  · assumption
  · cases h
  · assumption
  · cases h
/-- the loop of a comprehension -/
theorem comp_core {K : PySem.W.Frag} {ρ1 : Wn} {H1 : Hp} {J : It} {ds : List D} {g : Gd} {vs : List Nat} {T : FG} {C : FT} {F : FE} {σ : L2.St} {env : En} {st1 stF : Store} {ys : List D} {Dd : Addr} {Qd : Hp → Prop}
    (S1 : Sim K ρ1 st1 H1) (E1 : EnR K ρ1 H1 env σ) (src : Src K ρ1 H1 J ds g) (hl : ds.length ≤ 16777216) (e : compN g T C F ds (wipeE env vs) st1 = some (ys, stF)) (hD : H1 Dd = none)
    (q : ∀ ρ2 H2 ws, Le ρ1 H1 ρ2 H2 → Dd ∈ ρ2.h → Dd ∉ ρ2.r → Sim K ρ2 stF H2 → Reps K ρ2 H2 ys ws → H2 Dd = some (.lst ws) → Qd H2) :
    ∃ W : Nat → Nat → Hp → Prop, (∃ m, W 0 m (upd H1 Dd (.lst []))) ∧ ∀ i m H, W i m H →
      (J.stop i H ∧ Qd H) ∨ (J.go i H ∧ ∃ Nx : Hp → Prop, (∀ H', Nx H' → ∃ m', m' < m ∧ W (i + 1) m' H') ∧ ∀ x H', J.yld i H x H' → tG K vs T x (L2.wipe σ vs) H' fun σ2 H2 => L2.wipe σ2 vs = L2.wipe σ vs ∧ tT K C σ2 H2 fun b H3 =>
        if b = true then tE K F σ2 H3 fun y H4 => ∃ acc, H4 Dd = some (.lst acc) ∧ acc.length < sizeLine ∧ Nx (upd H4 Dd (.lst (acc ++ [y]))) else Nx H3) := by
  obtain ⟨G, Y, w, hG, hY⟩ := src
  have wipe2 : ∀ (τ : L2.St) (us : List Nat), (∀ i ∈ us, i ∈ us) → L2.wipe (L2.wipe τ us) us = L2.wipe τ us := by
    intro τ us _
    have key : ∀ (us ws : List Nat), (∀ i ∈ ws, i ∈ us) → L2.wipe (L2.wipe τ us) ws = L2.wipe τ us := by
      intro us ws
      induction ws with
      | nil => intro _; rfl
      | cons v ws ih =>
        intro hh
        show (L2.wipe (L2.wipe τ us) ws).set v none = L2.wipe τ us
        rw [ih fun i hi => hh i (List.mem_cons_of_mem _ hi)]
        have hv := hh v List.mem_cons_self
        have : ∀ (us : List Nat), v ∈ us → (L2.wipe τ us).set v none = L2.wipe τ us := by
          intro us
          induction us with
          | nil => intro h; cases h
          | cons u us ih2 =>
            intro h
            show ((L2.wipe τ us).set u none).set v none = (L2.wipe τ us).set u none
            by_cases z : u = v
            · subst z; rw [List.set_set]
            · rcases List.mem_cons.mp h with h | h
              · exact absurd h.symm z
              · rw [List.set_comm _ _ z, ih2 h]
        exact this us hv
    exact key us us fun _ h => h
  refine lc_it w (Pv := fun i H => ∃ ρ2 st2 acc accV rest, Le ρ1 H1 ρ2 H ∧ Dd ∈ ρ2.h ∧ Dd ∉ ρ2.r ∧ Sim K ρ2 st2 H ∧ EnR K ρ2 H (wipeE env vs) (L2.wipe σ vs) ∧ H Dd = some (.lst accV) ∧ Reps K ρ2 H acc accV ∧ acc.length ≤ i ∧
      compN g T C F (ds.drop i) (wipeE env vs) st2 = some (rest, stF) ∧ acc ++ rest = ys) ?_ ?_ ?_ ?_
  · exact ⟨⟨ρ1.r, Dd :: ρ1.h⟩, st1, [], [], ys, Le.hide hD, List.mem_cons_self, S1.fresh hD, S1.hide hD, (E1.wipe vs).mono (Le.hide hD), upd_same, rfl, Nat.zero_le _, e, rfl⟩
  · rintro i H _ ⟨ρ2, st2, acc, accV, rest, L2', hDh, hDr, S2, E2, eD, R2, hal, h2, _⟩
    exact hG ρ2 H st2 L2' S2 (compN_g h2)
  · rintro i x H H3 hi ⟨ρ2, st2, acc, accV, rest, L2', hDh, hDr, S2, E2, eD, R2, hal, h2, hys⟩ y
    obtain ⟨d, hd, L3, S3, R3⟩ := hY i ρ2 H st2 x H3 hi L2' S2 (compN_g h2) y
    have hdr : ds.drop i = d :: ds.drop (i + 1) := by
      obtain ⟨hlt, rfl⟩ := List.getElem?_eq_some_iff.mp hd
      exact List.drop_eq_getElem_cons hlt
    have g2 := compN_g h2
    rw [hdr] at h2
    unfold compN at h2
    rw [if_pos g2] at h2
    split at h2
    · rename_i e3 ht
      refine ⟨ρ2, wipeE env vs, st2, d, e3, S3, E2.mono L3, R3, ht, fun σ3 E3 hw => ?_⟩
      have hw' : L2.wipe σ3 vs = L2.wipe σ vs := by rw [hw, wipe2 σ vs fun _ h => h]
      refine ⟨hw', ?_⟩
      have eD3 : H3 Dd = some (.lst accV) := L3.keep _ _ hDr eD
      split at h2
      · rename_i st4 hc
        refine tT_bind S3 E3 hc fun ρ4 H4 L4 S4 E4 => ?_
        rw [if_pos rfl]
        have eD4 : H4 Dd = some (.lst accV) := L4.keep _ _ hDr eD3
        have hDr4 := L4.notin hDr eD3
        split at h2
        · rename_i y st5 hf
          refine tE_bind S4 E4 hf fun ρ5 H5 yv L5 S5 R5 E5 => ?_
          have eD5 : H5 Dd = some (.lst accV) := L5.keep _ _ hDr4 eD4
          have hDr5 := L5.notin hDr4 eD4
          split at h2
          · rename_i ys3 st6 hr
            cases h2
            refine ⟨accV, eD5, by rw [← R2.length, sizeLine_eq]; omega, ?_⟩
            have L25 := (L3.trans L4).trans L5
            have hDh5 : Dd ∈ ρ5.h := by
              obtain ⟨m, hs, rfl, _⟩ := L25.pre
              exact List.mem_append_right _ hDh
            refine ⟨ρ5, st5, acc ++ [y], accV ++ [yv], ys3, (L2'.trans L25).updN hD, hDh5, hDr5, S5.updH hDh5 hDr5 eD5, (E2.mono L25).tr (Tr.upd hDh5 eD5), upd_same, ?_, ?_, hr, ?_⟩
            · exact Reps.tr (Tr.upd hDh5 eD5) _ _ ((Reps.mono L25 _ _ R2).snoc R5)
            · rw [List.length_append]; simp; omega
            · rw [List.append_assoc]; exact hys
          · cases h2
        · cases h2
      · rename_i st4 hc
        refine tT_bind S3 E3 hc fun ρ4 H4 L4 S4 E4 => ?_
        rw [if_neg (by decide)]
        have L24 := L3.trans L4
        refine ⟨ρ4, st4, acc, accV, rest, L2'.trans L24, ?_, L4.notin hDr eD3, S4, E2.mono L24, L4.keep _ _ hDr eD3, Reps.mono L24 _ _ R2, by omega, h2, hys⟩
        obtain ⟨m, hs, rfl, _⟩ := L24.pre
        exact List.mem_append_right _ hDh
      · cases h2
    · cases h2
  · rintro H ⟨ρ2, st2, acc, accV, rest, L2', hDh, hDr, S2, E2, eD, R2, hal, h2, hys⟩
    rw [List.drop_length] at h2
    unfold compN at h2
    split at h2
    · cases h2
      rw [List.append_nil] at hys
      subst hys
      exact q ρ2 H accV L2' hDh hDr S2 R2 eD
    · cases h2
def ptsConv {e : List Expr} {t t' : TT} (h : PTs X e t) (c : ∀ σ H Q, t' σ H Q → t σ H Q) : PTs X e t' := ⟨fun pins s σ H Q I q => h.run pins s σ H Q I (c _ _ _ q)⟩
theorem c_nil : PTs X [] (tT X.K tYesF) := by
  refine ptsConv pts_nil fun σ H Q h => ?_
  obtain ⟨ρ, env, st, b, st', S, E, e, p⟩ := h
  cases e
  exact p ρ H Le.refl S
theorem c_one {c : Expr} {C : FT} (h : PT X c (tT X.K C)) : PTs X [c] (tT X.K C) := pts_one h
theorem comp_conv {K : PySem.W.Frag} {vs : List Nat} {I : FI} {T : FG} {C : FT} {F : FE} (σ : L2.St) (H : Hp) (Q : VK) (h : tE K (fComp vs I T C F) σ H Q) : tLc (tI K I) (tG K vs T) (tT K C) (tE K F) vs σ H Q := by
  obtain ⟨ρ, env, st, d, st', S, E, e, p⟩ := h
  unfold fComp at e
  split at e
  · rename_i ds g st1 e1
    split at e
    · rename_i hl
      split at e
      · rename_i ys st2 e2
        cases e
        refine ⟨ρ, env, st, ds, g, st1, S, E, e1, compN_g e2, fun ρ1 H1 J L1 S1 src => ?_⟩
        intro Dd hD
        refine comp_core S1 (E.mono L1) src hl e2 hD fun ρ2 H2 ws L2' hDh hDr S2 R2 eD => ?_
        obtain ⟨L3, hh⟩ := L2'.show
        exact p _ H2 _ (L1.trans L3) (S2.show hh) ⟨Dd, ws, rfl, ⟨⟨hDr, S1.freshH hD⟩, eD⟩, Reps.tr (Tr.show hh) _ _ R2⟩
      · cases e
    · cases e
  · cases e
theorem comp_convS {K : PySem.W.Frag} {vs : List Nat} {I : FI} {T : FG} {C : FT} {F : FE} (σ : L2.St) (H : Hp) (Q : VK) (h : tE K (fCompS vs I T C F) σ H Q) : tLc (tI K I) (tG K vs T) (tT K C) (tE K F) vs σ H Q := by
  obtain ⟨ρ, env, st, d, st', S, E, e, p⟩ := h
  unfold fCompS at e
  split at e
  · rename_i ds g st1 e1
    split at e
    · rename_i hl
      split at e
      · rename_i ys st2 e2
        cases e
        refine ⟨ρ, env, st, ds, g, st1, S, E, e1, compN_g e2, fun ρ1 H1 J L1 S1 src => ?_⟩
        intro Dd hD
        refine comp_core S1 (E.mono L1) src hl e2 hD fun ρ2 H2 ws L2' hDh hDr S2 R2 eD => ?_
        obtain ⟨m, hs, rfl, hm, hh⟩ := L2'.pre
        have hl2 : (ρ1.r ++ m).length = st2.length := S2.len
        have T2 : Tr ⟨ρ1.r ++ m, hs ++ ρ1.h⟩ H2 ⟨ρ1.r ++ m ++ [Dd], ρ1.h⟩ H2 := by
          refine ⟨fun n a q => ?_, fun _ _ q => q, fun a vs h1 h2 q => ⟨fun z => ?_, fun z => h2 (List.mem_append_right _ z), q⟩, fun a ob vs h1 q => ⟨fun z => ?_, q⟩⟩
          · rw [List.getElem?_append_left (List.getElem?_eq_some_iff.mp q).1]; exact q
          · rcases List.mem_append.mp z with z | z
            · exact h1 z
            · rw [List.mem_singleton.mp z] at h2; exact h2 hDh
          · rcases List.mem_append.mp z with z | z
            · exact h1 z
            · rw [List.mem_singleton.mp z, eD] at q; cases q
        have L3 : Le ρ1 H1 ⟨ρ1.r ++ m ++ [Dd], ρ1.h⟩ H2 := by
          refine ⟨⟨m ++ [Dd], [], by simp, fun a q => ?_, by simp⟩, L2'.keep, L2'.tup, L2'.live⟩
          rcases List.mem_append.mp q with q | q
          · exact hm a q
          · rw [List.mem_singleton.mp q]; exact hD
        refine p _ H2 _ (L1.trans L3) ⟨by simp only [List.length_append, List.length_singleton] at hl2 ⊢; omega, fun a q => S2.hid a (List.mem_append_right _ q), fun i j a q1 q2 => ?_, fun n x a q1 q2 => ?_⟩ ⟨Dd, rfl, ?_⟩
        · have hDr : Dd ∉ ρ1.r ++ m := hDr
          have key : ∀ (i : Nat), (ρ1.r ++ m ++ [Dd])[i]? = some a → ((ρ1.r ++ m)[i]? = some a) ∨ (i = (ρ1.r ++ m).length ∧ a = Dd) := by
            intro i q
            rcases Nat.lt_or_ge i (ρ1.r ++ m).length with hi | hi
            · rw [List.getElem?_append_left hi] at q; exact .inl q
            · rw [List.getElem?_append_right hi] at q
              have h1 := (List.getElem?_eq_some_iff.mp q).1
              have h2 := List.mem_of_getElem? q
              simp only [List.length_singleton] at h1
              exact .inr ⟨by omega, by simpa using h2⟩
          rcases key i q1 with q1 | ⟨q1, z1⟩ <;> rcases key j q2 with q2 | ⟨q2, z2⟩
          · exact S2.inj i j a q1 q2
          · rw [z2] at q1; exact absurd (List.mem_of_getElem? q1) hDr
          · rw [z1] at q2; exact absurd (List.mem_of_getElem? q2) hDr
          · omega
        · rcases Nat.lt_or_ge n (ρ1.r ++ m).length with hi | hi
          · have q2 : (ρ1.r ++ m ++ [Dd])[n]? = some a := q2
            rw [List.getElem?_append_left hi] at q2
            rw [List.getElem?_append_left (by omega)] at q1
            exact (S2.obj n x a q1 q2).tr T2 rfl
          · have q2 : (ρ1.r ++ m ++ [Dd])[n]? = some a := q2
            rw [List.getElem?_append_right hi] at q2
            rw [List.getElem?_append_right (by omega)] at q1
            have z1 := List.mem_of_getElem? q1
            have z2 := List.mem_of_getElem? q2
            simp at z1 z2
            subst z1 z2
            exact ⟨ws, eD, Reps.tr T2 _ _ R2⟩
        · show (ρ1.r ++ m ++ [Dd])[st2.length]? = some Dd
          rw [← hl2, List.getElem?_append_right (Nat.le_refl _)]
          simp
      · cases e
    · cases e
  · cases e
theorem e_comp {elt tg iter : Expr} {ifs : List Expr} {scope : Scope} {own : List (Str × Nat)} {I : FI} {T : FG} {C : FT} {F : FE} (hc : X.calm = true) (hN : X.N.Nodup) (hi : PI X tg iter (tI X.K I)) (ok : BlkOk X.N X.env.scope scope own)
    (hg : ∀ (s : Shared) (H : Hp) (C' : Addr) (cl : List (Str × Addr)) (fp : List Addr), PG (X.blk s H scope (compEnvC scope cl C' X.env) fp) tg (tG X.K (own.map (·.2)) T)) (ht : ∀ (s : Shared) (H : Hp) (C' : Addr) (cl : List (Str × Addr)) (fp : List Addr), PTs (X.blk s H scope (compEnvC scope cl C' X.env) fp) ifs (tT X.K C))
    (he : ∀ (s : Shared) (H : Hp) (C' : Addr) (cl : List (Str × Addr)) (fp : List Addr), PE (X.blk s H scope (compEnvC scope cl C' X.env) fp) elt (tE X.K F)) (hs : ∀ x, foldedSetIterable iter X.env x = pure x := by intro _; rfl) :
    PE X (.ListComp elt [⟨tg, iter, ifs, 0⟩] scope pos) (tE X.K (fComp (own.map (·.2)) I T C F)) := peConv (pe_lc hc hN hi ok hg ht he hs) comp_conv
theorem e_compS {elt tg iter : Expr} {ifs : List Expr} {scope : Scope} {own : List (Str × Nat)} {I : FI} {T : FG} {C : FT} {F : FE} (hc : X.calm = true) (hN : X.N.Nodup) (hi : PI X tg iter (tI X.K I)) (ok : BlkOk X.N X.env.scope scope own)
    (hg : ∀ (s : Shared) (H : Hp) (C' : Addr) (cl : List (Str × Addr)) (fp : List Addr), PG (X.blk s H scope (compEnvC scope cl C' X.env) fp) tg (tG X.K (own.map (·.2)) T)) (ht : ∀ (s : Shared) (H : Hp) (C' : Addr) (cl : List (Str × Addr)) (fp : List Addr), PTs (X.blk s H scope (compEnvC scope cl C' X.env) fp) ifs (tT X.K C))
    (he : ∀ (s : Shared) (H : Hp) (C' : Addr) (cl : List (Str × Addr)) (fp : List Addr), PE (X.blk s H scope (compEnvC scope cl C' X.env) fp) elt (tE X.K F)) (hs : ∀ x, foldedSetIterable iter X.env x = pure x := by intro _; rfl) :
    PE X (.ListComp elt [⟨tg, iter, ifs, 0⟩] scope pos) (tE X.K (fCompS (own.map (·.2)) I T C F)) := peConv (pe_lc hc hN hi ok hg ht he hs) comp_convS
theorem s_setComp {i : Nat} {y : Str} {py : Pos} {elt tg iter : Expr} {ifs : List Expr} {scope : Scope} {own : List (Str × Nat)} {lpos : Pos} {I : FI} {T : FG} {C : FT} {F : FE} (hc : X.calm = true) (hN : X.N.Nodup) (hy : X.N[i]? = some y) (hyl : X.env.scope.names.lookup y = some .local)
    (hsw : swapsWith (.ListComp elt [⟨tg, iter, ifs, 0⟩] scope lpos) (some (.Name y py)) pos.line X.env = pure true) (hi : PI X tg iter (tI X.K I)) (ok : BlkOk X.N X.env.scope scope own)
    (hg : ∀ (s : Shared) (H : Hp) (C' : Addr) (cl : List (Str × Addr)) (fp : List Addr), PG (X.blk s H scope (compEnvC scope cl C' X.env) fp) tg (tG X.K (own.map (·.2)) T)) (ht : ∀ (s : Shared) (H : Hp) (C' : Addr) (cl : List (Str × Addr)) (fp : List Addr), PTs (X.blk s H scope (compEnvC scope cl C' X.env) fp) ifs (tT X.K C))
    (he : ∀ (s : Shared) (H : Hp) (C' : Addr) (cl : List (Str × Addr)) (fp : List Addr), PE (X.blk s H scope (compEnvC scope cl C' X.env) fp) elt (tE X.K F)) (hs : ∀ x, foldedSetIterable iter X.env x = pure x := by intro _; rfl) :
    PS X (.Assign [.Name y py] (.ListComp elt [⟨tg, iter, ifs, 0⟩] scope lpos) pos) (tS X.K (sSet i (fComp (own.map (·.2)) I T C F))) := by
  refine psConv (ps_setLc hc hN hy hyl hsw hi ok hg ht he hs) fun Dn σ H h => ?_
  have h2 := set_conv Dn σ H h
  exact comp_conv σ H _ h2
theorem s_setCompS {i : Nat} {y : Str} {py : Pos} {elt tg iter : Expr} {ifs : List Expr} {scope : Scope} {own : List (Str × Nat)} {lpos : Pos} {I : FI} {T : FG} {C : FT} {F : FE} (hc : X.calm = true) (hN : X.N.Nodup) (hy : X.N[i]? = some y) (hyl : X.env.scope.names.lookup y = some .local)
    (hsw : swapsWith (.ListComp elt [⟨tg, iter, ifs, 0⟩] scope lpos) (some (.Name y py)) pos.line X.env = pure true) (hi : PI X tg iter (tI X.K I)) (ok : BlkOk X.N X.env.scope scope own)
    (hg : ∀ (s : Shared) (H : Hp) (C' : Addr) (cl : List (Str × Addr)) (fp : List Addr), PG (X.blk s H scope (compEnvC scope cl C' X.env) fp) tg (tG X.K (own.map (·.2)) T)) (ht : ∀ (s : Shared) (H : Hp) (C' : Addr) (cl : List (Str × Addr)) (fp : List Addr), PTs (X.blk s H scope (compEnvC scope cl C' X.env) fp) ifs (tT X.K C))
    (he : ∀ (s : Shared) (H : Hp) (C' : Addr) (cl : List (Str × Addr)) (fp : List Addr), PE (X.blk s H scope (compEnvC scope cl C' X.env) fp) elt (tE X.K F)) (hs : ∀ x, foldedSetIterable iter X.env x = pure x := by intro _; rfl) :
    PS X (.Assign [.Name y py] (.ListComp elt [⟨tg, iter, ifs, 0⟩] scope lpos) pos) (tS X.K (sSet i (fCompS (own.map (·.2)) I T C F))) := by
  refine psConv (ps_setLc hc hN hy hyl hsw hi ok hg ht he hs) fun Dn σ H h => ?_
  have h2 := set_conv Dn σ H h
  exact comp_convS σ H _ h2
end
end Vm
namespace Vm
open PySem PySem.Spec PyProof.Rows L2

/-! ### built-in functions by values -/
abbrev BF := List D → Store → Option (D × Store)
def CallD (K : PySem.W.Frag) (f : BF) (r : List V → Hp → VK → Prop) : Prop := ∀ (ρ : Wn) (H : Hp) (st : Store) (ds : List D) (vs : List V) (d : D) (st' : Store) (Q : VK), Sim K ρ st H → Reps K ρ H ds vs → f ds st = some (d, st') → Post K ρ H st' d Q → r vs H Q
structure CallOk (X : Cx) (u : Value) (f : BF) : Prop where
  ok : ∃ r, CallR X u r ∧ CallD X.K f r
def fBlt (f : BF) (A : FA) : FE := fun env st => match A env st with
  | some (ds, st1) => f ds st1
  | none => none
section
variable {X : Cx} {pos : Pos}
theorem blt_conv {K : PySem.W.Frag} {f : BF} {r : List V → Hp → VK → Prop} {A : FA} (hd : CallD K f r) (σ : L2.St) (H : Hp) (Q : VK) (h : tE K (fBlt f A) σ H Q) : tCB r (tA K A) σ H Q := by
  obtain ⟨ρ, env, st, d, st', S, E, e, p⟩ := h
  unfold fBlt at e
  split at e
  · rename_i ds st1 e1
    exact ⟨ρ, env, st, ds, st1, S, E, e1, fun ρ1 H1 vs L1 S1 R1 => hd ρ1 H1 st1 ds vs d st' Q S1 R1 e (p.mono L1)⟩
  · cases e
theorem e_callB {id : String} {x : Str} {p : Pos} {e : Expr} {es : List Expr} {f : BF} {A : FA} (hc : CallOk X (.builtin id) f) (hg : Gl X x) (hm : X.mg x = none) (hv : bootBuiltins x = some (.builtin id)) (ha : PA X (e :: es) (tA X.K A)) (hn : x ≠ "__name__" := by decide) (hdb : (x == ("__debug__" : Str)) = false := by decide)
    (he : starEach (e :: es) X.env = (false, eval e X.env) :: starEach es X.env := by rfl) (hpl : (backTo pos (starEach es X.env)).any (·.1) = false := by rfl) : PE X (.Call (.Name x p) (e :: es) [] pos) (tE X.K (fBlt f A)) := by
  obtain ⟨r, h1, h2⟩ := hc.ok
  exact peConv (pe_callB h1 hg hm hv ha hn hdb he hpl) (blt_conv h2)
theorem e_callTy {T : String} {x : Str} {p : Pos} {e : Expr} {es : List Expr} {f : BF} {A : FA} (hc : CallOk X (.type T) f) (hg : Gl X x) (hm : X.mg x = none) (hv : bootBuiltins x = some (.type T)) (ha : PA X (e :: es) (tA X.K A)) (hn : x ≠ "__name__" := by decide) (hdb : (x == ("__debug__" : Str)) = false := by decide)
    (he : starEach (e :: es) X.env = (false, eval e X.env) :: starEach es X.env := by rfl) (hpl : (backTo pos (starEach es X.env)).any (·.1) = false := by rfl) : PE X (.Call (.Name x p) (e :: es) [] pos) (tE X.K (fBlt f A)) := by
  obtain ⟨r, h1, h2⟩ := hc.ok
  exact peConv (pe_callTy h1 hg hm hv ha hn hdb he hpl) (blt_conv h2)
theorem reps1 {K : PySem.W.Frag} {ρ : Wn} {H : Hp} {d : D} {vs : List V} (r : Reps K ρ H [d] vs) : ∃ v, vs = [v] ∧ Rep K ρ H d v := by
  obtain ⟨v, w, rfl, r1, r2⟩ := r
  exact ⟨v, by rw [show w = [] from r2], r1⟩
theorem reps2 {K : PySem.W.Frag} {ρ : Wn} {H : Hp} {d e : D} {vs : List V} (r : Reps K ρ H [d, e] vs) : ∃ v w, vs = [v, w] ∧ Rep K ρ H d v ∧ Rep K ρ H e w := by
  obtain ⟨v, w, rfl, r1, r2⟩ := r
  obtain ⟨u, rfl, r3⟩ := reps1 r2
  exact ⟨v, u, rfl, r1, r3⟩
/-- len -/
def lenOf (st : Store) : D → Option Nat
  | .str y => if y.length ≤ 16777216 then some y.length else none
  | .tup xs => some xs.length
  | .tl xs => some xs.length
  | .sl xs => some xs.length
  | .ref n => match st[n]? with
    | some (.lst xs) => some xs.length
    | some (.dic kvs) => some kvs.length
    | _ => none
  | _ => none
def bLen : BF
  | [d], st => match lenOf st d with
    | some n => some (.int n, st)
    | none => none
  | _, _ => none
theorem callR_or {u : Value} {r r' : List V → Hp → VK → Prop} (h : CallR X u r) (h' : CallR X u r') : CallR X u (fun vs H Q => r vs H Q ∨ r' vs H Q) := by
  intro pins s σ H xs us Q I rv q
  rcases q with q | q
  · exact h pins s σ H xs us Q I rv q
  · exact h' pins s σ H xs us Q I rv q
theorem b_len : CallOk X (.builtin "len") bLen := ⟨_, callR_or call_len call_lenD, by
  intro ρ H st ds vs d st' Q S R e p
  unfold bLen at e
  split at e
  · rename_i a
    split at e
    · rename_i n e1
      cases e
      obtain ⟨v, rfl, r⟩ := reps1 R
      have q := p ρ H _ Le.refl S rfl
      have seqL : ∀ {b : Addr} {ws : List V} {xs : List D}, SqL X.K H b ws → Reps X.K ρ H xs ws → xs.length = n → LenV X.K (.ref b) H n := fun {b ws xs} hs rr hn => .inl ⟨ws, hs, by rw [← rr.length, hn]⟩
      unfold lenOf at e1
      split at e1
      · split at e1
        · rename_i hy
          cases e1
          exact .inl ⟨v, _, rfl, by rw [show v = .str _ from r]; exact ⟨by rw [sizeLine_eq]; exact hy, rfl⟩, q⟩
        · cases e1
      · obtain ⟨b, ws, rfl, hs, rr⟩ := r
        cases e1
        exact .inl ⟨_, _, rfl, .inr ⟨ws, hs, rr.length⟩, q⟩
      · rename_i xs
        obtain ⟨b, ws, rfl, hs, rr⟩ := lsqOf_rep (ds := xs) S r rfl
        cases e1
        exact .inl ⟨_, _, rfl, seqL hs rr rfl, q⟩
      · rename_i xs
        obtain ⟨b, ws, rfl, hs, rr⟩ := lsqOf_rep (ds := xs) S r rfl
        cases e1
        exact .inl ⟨_, _, rfl, seqL hs rr rfl, q⟩
      · split at e1
        · rename_i n' _ xs e2
          cases e1
          obtain ⟨b, rfl, hb⟩ := r
          obtain ⟨ws, hs, rr⟩ := S.obj n' _ b e2 hb
          exact .inl ⟨_, _, rfl, seqL (SqL.of hs) rr rfl, q⟩
        · rename_i n' _ kvs e2
          cases e1
          obtain ⟨b, rfl, hb⟩ := r
          obtain ⟨us, hs, ek, rr⟩ := S.obj n' _ b e2 hb
          have hl := congrArg List.length ek
          simp only [List.length_map] at hl
          exact .inr ⟨b, us, rfl, hs, by rw [hl]; exact q⟩
        · cases e1
      · cases e1
    · cases e
  · cases e⟩
def bAbs : BF
  | [.int i], st => some (.int (if i < 0 then -i else i), st)
  | _, _ => none
theorem b_abs : CallOk X (.builtin "abs") bAbs := ⟨_, call_abs, by
  intro ρ H st ds vs d st' Q S R e p
  unfold bAbs at e
  split at e
  · cases e
    obtain ⟨v, rfl, r⟩ := reps1 R
    exact ⟨_, by rw [show v = .int _ from r], p ρ H _ Le.refl S rfl⟩
  · cases e⟩
def bMax : BF
  | [.int i, .int j], st => some (.int (if j > i then j else i), st)
  | _, _ => none
def bMin : BF
  | [.int i, .int j], st => some (.int (if j < i then j else i), st)
  | _, _ => none
theorem b_max (hc : X.calm = true) : CallOk X (.builtin "max") bMax := ⟨_, call_max2 hc, by
  intro ρ H st ds vs d st' Q S R e p
  unfold bMax at e
  split at e
  · cases e
    obtain ⟨v, w, rfl, r, r'⟩ := reps2 R
    exact ⟨_, _, by rw [show v = .int _ from r, show w = .int _ from r'], p ρ H _ Le.refl S rfl⟩
  · cases e⟩
theorem b_min (hc : X.calm = true) : CallOk X (.builtin "min") bMin := ⟨_, call_min2 hc, by
  intro ρ H st ds vs d st' Q S R e p
  unfold bMin at e
  split at e
  · cases e
    obtain ⟨v, w, rfl, r, r'⟩ := reps2 R
    exact ⟨_, _, by rw [show v = .int _ from r, show w = .int _ from r'], p ρ H _ Le.refl S rfl⟩
  · cases e⟩
/-- all, any of truths -/
def boolsOf : List D → Option (List Bool)
  | [] => some []
  | .bl b :: r => match boolsOf r with
    | some bs => some (b :: bs)
    | none => none
  | _ :: _ => none
theorem boolsOf_rep {K : PySem.W.Frag} {ρ : Wn} {H : Hp} : ∀ {ds : List D} {vs : List V} {bs : List Bool}, Reps K ρ H ds vs → boolsOf ds = some bs → vs = bs.map V.bl
  | [], vs, bs, r, e => by cases e; exact r
  | d :: ds, vs, bs, r, e => by
    obtain ⟨v, w, rfl, r1, r2⟩ := r
    unfold boolsOf at e
    split at e
    · rename_i h; cases h
    · rename_i b ds' h
      cases h
      split at e
      · rename_i bs' e1
        cases e
        rw [show v = .bl b from r1, boolsOf_rep r2 e1]
        rfl
      · cases e
    · cases e
def bAll : BF
  | [d], st => match lsqOf st d with
    | some ds => match boolsOf ds with
      | some bs => some (.bl (bs.all id), st)
      | none => none
    | none => none
  | _, _ => none
def bAny : BF
  | [d], st => match lsqOf st d with
    | some ds => match boolsOf ds with
      | some bs => some (.bl (bs.any id), st)
      | none => none
    | none => none
  | _, _ => none
theorem b_all (hc : X.calm = true) : CallOk X (.builtin "all") bAll := ⟨_, cr_all hc, by
  intro ρ H st ds vs d st' Q S R e p
  unfold bAll at e
  split at e
  · split at e
    · rename_i xs e1
      split at e
      · rename_i bs e2
        cases e
        obtain ⟨v, rfl, r⟩ := reps1 R
        obtain ⟨a, ws, rfl, hs, rr⟩ := lsqOf_rep S r e1
        exact ⟨a, bs, rfl, by rw [← boolsOf_rep rr e2]; exact hs, p ρ H _ Le.refl S rfl⟩
      · cases e
    · cases e
  · cases e⟩
theorem b_any (hc : X.calm = true) : CallOk X (.builtin "any") bAny := ⟨_, cr_any hc, by
  intro ρ H st ds vs d st' Q S R e p
  unfold bAny at e
  split at e
  · split at e
    · rename_i xs e1
      split at e
      · rename_i bs e2
        cases e
        obtain ⟨v, rfl, r⟩ := reps1 R
        obtain ⟨a, ws, rfl, hs, rr⟩ := lsqOf_rep S r e1
        exact ⟨a, bs, rfl, by rw [← boolsOf_rep rr e2]; exact hs, p ρ H _ Le.refl S rfl⟩
      · cases e
    · cases e
  · cases e⟩
/-- tuple(x), list(x) -/
def seqOf (st : Store) : D → Option (List D)
  | .tup xs => some xs
  | d => lsqOf st d
theorem seqOf_rep {K : PySem.W.Frag} {ρ : Wn} {H : Hp} {st : Store} {d : D} {v : V} {ds : List D} (S : Sim K ρ st H) (r : Rep K ρ H d v) (e : seqOf st d = some ds) : ∃ a vs, v = .ref a ∧ (SqL K H a vs ∨ SqT K H a vs) ∧ Reps K ρ H ds vs := by
  unfold seqOf at e
  split at e
  · cases e
    obtain ⟨a, vs, rfl, hs, rr⟩ := r
    exact ⟨a, vs, rfl, .inr hs, rr⟩
  · obtain ⟨a, vs, rfl, hs, rr⟩ := lsqOf_rep S r e
    exact ⟨a, vs, rfl, .inl hs, rr⟩
def bTuple : BF
  | [d], st => match seqOf st d with
    | some ds => some (.tup ds, st)
    | none => none
  | _, _ => none
def bList : BF
  | [d], st => match seqOf st d with
    | some ds => some (.tl ds, st)
    | none => none
  | _, _ => none
def bListS : BF
  | [d], st => match seqOf st d with
    | some ds => some (.ref st.length, st ++ [.lst ds])
    | none => none
  | _, _ => none
theorem b_tuple : CallOk X (.type "tuple") bTuple := ⟨_, call_tuple_of, by
  intro ρ H st ds vs d st' Q S R e p
  unfold bTuple at e
  split at e
  · split at e
    · rename_i xs e1
      cases e
      obtain ⟨v, rfl, r⟩ := reps1 R
      obtain ⟨a, ws, rfl, hs, rr⟩ := seqOf_rep S r e1
      rcases hs with hs | hs
      · exact ⟨a, ws, rfl, .inl ⟨hs, p.newTup S rr⟩⟩
      · exact ⟨a, ws, rfl, .inr ⟨hs, p ρ H _ Le.refl S ⟨a, ws, rfl, hs, rr⟩⟩⟩
    · cases e
  · cases e⟩
theorem b_list : CallOk X (.type "list") bList := ⟨_, call_list_of, by
  intro ρ H st ds vs d st' Q S R e p
  unfold bList at e
  split at e
  · split at e
    · rename_i xs e1
      cases e
      obtain ⟨v, rfl, r⟩ := reps1 R
      obtain ⟨a, ws, rfl, hs, rr⟩ := seqOf_rep S r e1
      exact ⟨a, ws, rfl, hs, p.newTl S rr⟩
    · cases e
  · cases e⟩
theorem b_listS : CallOk X (.type "list") bListS := ⟨_, call_list_of, by
  intro ρ H st ds vs d st' Q S R e p
  unfold bListS at e
  split at e
  · split at e
    · rename_i xs e1
      cases e
      obtain ⟨v, rfl, r⟩ := reps1 R
      obtain ⟨a, ws, rfl, hs, rr⟩ := seqOf_rep S r e1
      exact ⟨a, ws, rfl, hs, p.newRef S rr⟩
    · cases e
  · cases e⟩

/-! ### isinstance -/
inductive Tag where
  | non | bl | int | str | tup | lst | dic
  deriving DecidableEq
def Tag.nm : Tag → String
  | .non => "NoneType" | .bl => "bool" | .int => "int" | .str => "str" | .tup => "tuple" | .lst => "list" | .dic => "dict"
def tagOf (st : Store) : D → Option Tag
  | .non => some .non
  | .bl _ => some .bl
  | .int _ => some .int
  | .str _ => some .str
  | .tup _ => some .tup
  | .tl _ => some .lst
  | .sl _ => some .lst
  | .ref n => match st[n]? with
    | some (.lst _) => some .lst
    | some (.dic _) => some .dic
    | _ => none
  | .ty _ => none
def isTag : Tag → Tag → Bool
  | .bl, .int => true
  | a, b => decide (a = b)
theorem kit_tag (a b : Tag) : kitB a.nm b.nm = some (isTag a b) := by
  cases a <;> cases b <;> decide +kernel
theorem tagOf_rep {K : PySem.W.Frag} {ρ : Wn} {H : Hp} {st : Store} {d : D} {v : V} {t : Tag} (S : Sim K ρ st H) (r : Rep K ρ H d v) (e : tagOf st d = some t) : TyX K H v (.type t.nm) := by
  unfold tagOf at e
  split at e
  · cases e; rw [show v = .non from r]; exact .base .non
  · cases e; rw [show v = .bl _ from r]; exact .base (.bl _)
  · cases e; rw [show v = .int _ from r]; exact .base (.int _)
  · cases e; rw [show v = .str _ from r]; exact .base (.str _)
  · cases e
    obtain ⟨a, vs, rfl, hs, rr⟩ := r
    rcases hs with (hs | ⟨ob, hs⟩) | ⟨o, its, n, h1, h2, _⟩
    · exact .base (.tup hs)
    · exact .fTuple hs
    · exact .kTuple h1 h2
  · cases e
    obtain ⟨a, vs, rfl, ⟨_, hs⟩, rr⟩ := r
    exact .base (.lst hs)
  · cases e
    obtain ⟨a, vs, rfl, hs, rr⟩ := r
    rcases hs with ⟨_, ob, hs⟩ | ⟨o, its, n, h1, h2, _⟩
    · exact .base (.frz hs)
    · exact .kList h1 h2
  · split at e
    · rename_i n _ xs e1
      cases e
      obtain ⟨a, rfl, h⟩ := r
      obtain ⟨vs, h2, rr⟩ := S.obj n _ a e1 h
      exact .base (.lst h2)
    · rename_i n _ xs e1
      cases e
      obtain ⟨a, rfl, h⟩ := r
      obtain ⟨vs, h2, _, rr⟩ := S.obj n _ a e1 h
      exact .base (.dK h2)
    · cases e
  · cases e
def fIsi (c : Tag) (F : FE) : FE := fun env st => match F env st with
  | some (d, st1) => match tagOf st1 d with
    | some t => some (.bl (isTag t c), st1)
    | none => none
  | none => none
theorem e_isi (c : Tag) {x : Str} {a : Expr} {p p2 : Pos} {F : FE} (hg : Gl X "isinstance") (hm : X.mg "isinstance" = none) (hg2 : Gl X x) (hm2 : X.mg x = none) (hb : bootBuiltins x = some (.type c.nm)) (ha : PE X a (tE X.K F)) (hn : x ≠ "__name__" := by decide) (hd : (x == ("__debug__" : Str)) = false := by decide)
    (he : starEach [a, .Name x p2] X.env = (false, eval a X.env) :: starEach [.Name x p2] X.env := by rfl) :
    PE X (.Call (.Name "isinstance" p) [a, .Name x p2] [] pos) (tE X.K (fIsi c F)) := by
  refine peConv (pe_callB call_isi hg hm boot_isinstance (a_cons ha (a_cons (e_ty hg2 hm2 hb hn hd) a_nil) he) (he := he)) fun σ H Q h => ?_
  obtain ⟨ρ, env, st, d, st', S, E, e, p⟩ := h
  unfold fIsi at e
  split at e
  · rename_i d1 st1 e1
    split at e
    · rename_i t e2
      cases e
      refine ⟨ρ, env, st, [d1, .ty c.nm], st', S, E, by simp [fCons, fNil, fCon, e1], fun ρ1 H1 vs L1 S1 R1 => ?_⟩
      obtain ⟨v, w, rfl, r1, r2⟩ := reps2 R1
      exact ⟨v, w, .type t.nm, .type c.nm, isTag t c, rfl, by rw [show w = .ty c.nm from r2]; exact .ty _, tagOf_rep S1 r1 e2, kit_ty (kit_tag t c), p ρ1 H1 _ L1 S1 rfl⟩
    · cases e
  · cases e

/-! ### methods of lists -/
theorem ty_list {K : PySem.W.Frag} {ρ : Wn} {H : Hp} {st : Store} {n : Nat} {v : V} {xs : List D} (S : Sim K ρ st H) (r : Rep K ρ H (.ref n) v) (e : st[n]? = some (.lst xs)) : tyV K "list" v H := by
  obtain ⟨a, rfl, h⟩ := r
  obtain ⟨vs, h2, _⟩ := S.obj n _ a e h
  exact .inl ⟨rfl, vs, SqL.of h2⟩
/-- o.append(e), a statement -/
def sApp (Fo F : FE) : FS := fun env st => match Fo env st with
  | some (.ref n, st1) => match st1[n]? with
    | some (.lst _) => match F env st1 with
      | some (x, st2) => match st2[n]? with
        | some (.lst xs) => if xs.length < 16777216 then some (.nx env, st2.set n (.lst (xs ++ [x]))) else none
        | _ => none
      | none => none
    | _ => none
  | _ => none
theorem s_app {o e : Expr} {Fo F : FE} {apos cpos : Pos} (ho : PE X o (tE X.K Fo)) (he : PE X e (tE X.K F))
    (hbase : attributeBase o "append" X.env (eval o X.env) = eval o X.env := by rfl)
    (hfew : ((backTo cpos (starEach [e] X.env)).all (fun x => !x.1) && (backToKw cpos (keywordEach [] X.env)).all (fun x => x.1.isSome)
      && decide ([e].length + ([] : List Keyword).length + (if ([] : List Keyword).isEmpty then 0 else 1) < 30)) = true := by rfl)
    (hline : (apos.endLine == cpos.line) = true := by rfl) (hs : starEach [e] X.env = (false, eval e X.env) :: starEach [] X.env := by rfl) (hplain : (backTo cpos (starEach [] X.env)).any (·.1) = false := by rfl)
    (hsw : swapsWith (.Call (.Attribute o "append" apos) [e] [] cpos) none pos.line X.env = pure false := by rfl) :
    PS X (.Expr (.Call (.Attribute o "append" apos) [e] [] cpos) pos) (tS X.K (sApp Fo F)) := by
  refine psConv (ps_expr (pe_bm PySem.F.plainAttrs_list PySem.F.slot_list_append PySem.F.type_list_append mt_append ho (a_cons he a_nil hs) hbase hfew hline hs hplain) hsw) fun Dn σ H h => ?_
  obtain ⟨ρ, env, st, out, st', S, E, e, p⟩ := h
  unfold sApp at e
  split at e
  · rename_i n st1 e1
    split at e
    · rename_i ys e2
      split at e
      · rename_i x st2 e3
        split at e
        · rename_i xs e4
          split at e
          · rename_i hl
            cases e
            refine tE_bind S E e1 fun ρ1 H1 v L1 S1 R1 E1 => ?_
            refine ⟨ty_list S1 R1 e2, ρ1, env, st1, [x], st2, S1, E1, by simp [fCons, fNil, e3], fun ρ2 H2 vs L2 S2 R2 => ?_⟩
            obtain ⟨w, rfl, rw'⟩ := reps1 R2
            obtain ⟨a, rfl, hn⟩ := Rep.mono L2 _ _ R1
            obtain ⟨us, h2, rr⟩ := S2.obj n _ a e4 hn
            refine ⟨a, us, w, rfl, rfl, h2, by rw [← rr.length, sizeLine_eq]; exact hl, ?_⟩
            have LW := Le.write (u' := .lst (us ++ [w])) (List.mem_of_getElem? hn) h2 (fun _ z => by cases z) (fun _ _ z => by cases z)
            exact p ρ2 _ σ ((L1.trans L2).trans LW) (S2.write hn h2 (fun _ z => by cases z) (fun _ _ z => by cases z) ⟨_, upd_same, Reps.mono LW _ _ (rr.snoc rw')⟩) ((E1.mono L2).mono LW)
          · cases e
        · cases e
      · cases e
    · cases e
  · cases e
/-- enumerate(xs), zip(xs, ys): new pairs -/
theorem src_pair {K : PySem.W.Frag} {ρ : Wn} {H : Hp} {J : It} {ds : List D} {g : Gd} {G : Hp → Prop} {xs ys : Nat → Option V} {fs : Nat → D × D} (w : Walk J ds.length G (YPair xs ys)) (hG : ∀ ρ' H' st', Le ρ H ρ' H' → Sim K ρ' st' H' → g st' → G H')
    (hd : ∀ i ρ' H' x y, i < ds.length → Le ρ H ρ' H' → xs i = some x → ys i = some y → ∃ a b, ds[i]? = some (.tup [a, b]) ∧ Rep K ρ' H' a x ∧ Rep K ρ' H' b y) : Src K ρ H J ds g := by
  refine ⟨G, _, w, hG, fun i ρ' H' st' v H'' hi L S q y => ?_⟩
  obtain ⟨T, x, z, rfl, hT, rfl, h1, h2⟩ := y
  obtain ⟨a, b, e, r1, r2⟩ := hd i ρ' H' x z hi L h1 h2
  refine ⟨_, e, Le.new hT, S.new hT, T, [x, z], rfl, .inl (.inl upd_same), x, [z], rfl, Rep.mono (Le.new hT) _ _ r1, z, [], rfl, Rep.mono (Le.new hT) _ _ r2, rfl⟩
end
end Vm
namespace Vm
open PySem PySem.Spec PyProof.Rows L2

/-- a def of the text as it stands behind the top -/
structure Df (K : PySem.W.Frag) (mg : Str → Option Value) (x : Str) (stm : Stmt) (ps : List Str) : Prop where
  ex : ∃ f fd, Fun K x x stm f fd ∧ mg x = some (.ref f) ∧ Binds K fd ps []
/-- a def keeps its promise -/
structure Ok (P : Program) (w : World) (K : PySem.W.Frag) (mg : Str → Option Value) (base : Heap) (k : Nat) (x : Str) (n : Nat) (F : FnF) : Prop where
  ex : ∃ f fd ps, FnOk P w K mg base CX0 k f fd ps (spD K n F) ∧ mg x = some (.ref f) ∧ PySem.W.keepIn K (.ref f) = true ∧ Binds K fd ps []
theorem Df.mk' {K : PySem.W.Frag} {mg : Str → Option Value} {x : Str} {stm : Stmt} {ps : List Str} {f : Addr} {fd : FuncData} (u : Fun K x x stm f fd) (m : mg x = some (.ref f)) (b : Binds K fd ps []) : Df K mg x stm ps := ⟨f, fd, u, m, b⟩
theorem fn_okO {P : Program} {w : World} {K : PySem.W.Frag} {mg : Str → Option Value} {base : Heap} {x : Str} {stm : Stmt} {N ps : List Str} {k : Nat} {body : FS} (Dd : Df K mg x stm ps) (S : FnScope N ps (defScope stm))
    (hbody : ∀ (cdv : Value) (A : Around) (outer : List PySem.Env) (s : Shared) (H : Hp) (E : XK) (f : Addr), Room k (A.deeper (envOfC x (defScope stm) s.heap.objs.size f cdv)) →
      PSs (cxOf CX0 P w K mg base N x (defScope stm) f cdv A outer s H E).nox (defBody stm) (tS K body)) : Ok P w K mg base (k + 1) x ps.length (fnD ps.length N.length body) := by
  obtain ⟨f, fd, u, m, b⟩ := Dd.ex
  exact ⟨f, fd, ps, fn_ok u S fun cdv A outer s H E hr => hbody cdv A outer s H E f hr, m, u.kp, b⟩
theorem ok_fn {P : Program} {w : World} {K : PySem.W.Frag} {mg : Str → Option Value} {base : Heap} {x : Str} {stm : Stmt} {k n : Nat} {f : Addr} {fd : FuncData} {ps : List Str} {F : FnF} (u : Fun K x x stm f fd) (m : mg x = some (.ref f)) (o : FnOk P w K mg base CX0 k f fd ps (spD K n F)) : FnOk P w K mg base CX0 k f fd ps (spD K n F) := o
section
variable {X : Cx} {pos : Pos}
theorem e_callO {j k n : Nat} {x : Str} {p : Pos} {e : Expr} {es : List Expr} {F : FnF} {A : FA} (o : Ok X.prog X.w X.K X.mg X.base j x n F) (hr : Room k X.A) (hj : j ≤ k) (hg : Gl X x)
    (ha : PA X (e :: es) (tA X.K A)) (hdb : (x == ("__debug__" : Str)) = false := by decide) (he : starEach (e :: es) X.env = (false, eval e X.env) :: starEach es X.env := by rfl) (hpl : (backTo pos (starEach es X.env)).any (·.1) = false := by rfl) :
    PE X (.Call (.Name x p) (e :: es) [] pos) (tE X.K (fCall n F A)) := by
  obtain ⟨f, fd, ps, G, m, kp, b⟩ := o.ex
  exact e_call G (hr.mono hj) hg m kp b ha hdb he hpl
theorem e_globI {x : Str} {i : Int} (hg : Gl X x) (h : ∃ t, X.mg x = some (.int i t)) (hd : (x == ("__debug__" : Str)) = false := by decide) : PE X (.Name x pos) (tE X.K (fCon (.int i))) := by
  obtain ⟨t, h⟩ := h
  exact e_glob (v := .int i) hg h ⟨t, rfl⟩ (fun _ _ => rfl) hd
theorem e_globS {x : Str} {i : Str} (hg : Gl X x) (h : ∃ t, X.mg x = some (.str i t)) (hd : (x == ("__debug__" : Str)) = false := by decide) : PE X (.Name x pos) (tE X.K (fCon (.str i))) := by
  obtain ⟨t, h⟩ := h
  exact e_glob (v := .str i) hg h ⟨t, rfl⟩ (fun _ _ => rfl) hd
def tIteF (C F G : FT) : FT := fun env st => match C env st with
  | some (true, st1) => F env st1
  | some (false, st1) => G env st1
  | none => none
theorem t_ite {c a b : Expr} {C F G : FT} (hc : PT X c (tT X.K C)) (ha : PT X a (tT X.K F)) (hb : PT X b (tT X.K G)) : PT X (.IfExp c a b pos) (tT X.K (tIteF C F G)) := by
  refine ⟨fun pins s σ H Q I h => ?_⟩
  obtain ⟨ρ, env, st, k, st', S, E, e, p⟩ := h
  refine PyProof.Rows.isTrue_IfExp ?_
  unfold tIteF at e
  split at e
  · rename_i st1 e1
    refine thn (hc.run pins s σ H (fun d H1 => d = true ∧ tT X.K F σ H1 Q) I (tT_bind S E e1 fun ρ1 H1 L1 S1 E1 => ⟨rfl, ρ1, env, st1, k, st', S1, E1, e, fun ρ2 H2 L2 S2 => p ρ2 H2 (L1.trans L2) S2⟩)) fun d s1 hd => ?_
    obtain ⟨H1, I1, rfl, q1⟩ := hd
    exact ha.run pins s1 σ H1 Q I1 q1
  · rename_i st1 e1
    refine thn (hc.run pins s σ H (fun d H1 => d = false ∧ tT X.K G σ H1 Q) I (tT_bind S E e1 fun ρ1 H1 L1 S1 E1 => ⟨rfl, ρ1, env, st1, k, st', S1, E1, e, fun ρ2 H2 L2 S2 => p ρ2 H2 (L1.trans L2) S2⟩)) fun d s1 hd => ?_
    obtain ⟨H1, I1, rfl, q1⟩ := hd
    exact hb.run pins s1 σ H1 Q I1 q1
  · cases e
end
end Vm
namespace Vm
open PySem PySem.Spec PyProof.Rows L2

/-- it ends, and then -/
def Wp {α : Type} (r : Option (α × Store)) (Q : α → Store → Prop) : Prop := ∃ a st, r = some (a, st) ∧ Q a st
section
variable {α : Type} {Q : α → Store → Prop}
theorem Wp.mono {r : Option (α × Store)} {Q' : α → Store → Prop} (h : Wp r Q) (m : ∀ a st, Q a st → Q' a st) : Wp r Q' := by
  obtain ⟨a, st, e, q⟩ := h
  exact ⟨a, st, e, m a st q⟩
@[simp] theorem wp_some {a : α} {st : Store} : Wp (some (a, st)) Q ↔ Q a st := ⟨fun ⟨_, _, e, q⟩ => by cases e; exact q, fun q => ⟨a, st, rfl, q⟩⟩
@[simp] theorem wp_noneR : Wp (none : Option (α × Store)) Q ↔ False := ⟨fun h => (by obtain ⟨_, _, e, _⟩ := h; cases e), fun h => False.elim h⟩
end
section
variable {env : En} {st : Store} {Q : D → Store → Prop} {F G J : FE} {A : FA} {C : FT}
@[simp] theorem wp_var {i : Nat} : Wp (fVar i env st) Q ↔ ∃ d, env[i]? = some (some d) ∧ Q d st := by
  unfold fVar
  constructor
  · intro h
    split at h
    · rename_i d e; exact ⟨d, e, wp_some.mp h⟩
    · exact (wp_noneR.mp h).elim
  · rintro ⟨d, e, q⟩
    simp [e, q]
@[simp] theorem wp_con {d : D} : Wp (fCon d env st) Q ↔ Q d st := wp_some
@[simp] theorem wp_bin {f : D → D → Store → Option D} : Wp (fBin f F G env st) Q ↔ Wp (F env st) fun a st1 => Wp (G env st1) fun b st2 => ∃ d, f a b st2 = some d ∧ Q d st2 := by
  unfold fBin
  constructor
  · intro h
    split at h
    · rename_i a st1 e1
      split at h
      · rename_i b st2 e2
        split at h
        · rename_i d e3
          exact ⟨a, st1, e1, b, st2, e2, d, e3, wp_some.mp h⟩
        · exact (wp_noneR.mp h).elim
      · exact (wp_noneR.mp h).elim
    · exact (wp_noneR.mp h).elim
  · rintro ⟨a, st1, e1, b, st2, e2, d, e3, q⟩
    simp [e1, e2, e3, q]
@[simp] theorem wp_cmp {c : CmpF} : Wp (fCmp c F G env st) Q ↔ Wp (F env st) fun a st1 => Wp (G env st1) fun b st2 => ∃ k, c a b st2 = some k ∧ Q (.bl k) st2 := by
  unfold fCmp
  constructor
  · intro h
    split at h
    · rename_i a st1 e1
      split at h
      · rename_i b st2 e2
        split at h
        · rename_i d e3
          exact ⟨a, st1, e1, b, st2, e2, d, e3, wp_some.mp h⟩
        · exact (wp_noneR.mp h).elim
      · exact (wp_noneR.mp h).elim
    · exact (wp_noneR.mp h).elim
  · rintro ⟨a, st1, e1, b, st2, e2, d, e3, q⟩
    simp [e1, e2, e3, q]
@[simp] theorem wp_chain {c c' : CmpF} : Wp (fChain c c' F G J env st) Q ↔ Wp (F env st) fun a st1 => Wp (G env st1) fun b st2 => ∃ k, c a b st2 = some k ∧
    if k = true then Wp (J env st2) fun d st3 => ∃ k', c' b d st3 = some k' ∧ Q (.bl k') st3 else Q (.bl false) st2 := by
  unfold fChain
  constructor
  · intro h
    split at h
    · rename_i a st1 e1
      split at h
      · rename_i b st2 e2
        split at h
        · rename_i e3
          refine ⟨a, st1, e1, b, st2, e2, true, e3, ?_⟩
          rw [if_pos rfl]
          split at h
          · rename_i d st3 e4
            split at h
            · rename_i k e5
              exact ⟨d, st3, e4, k, e5, wp_some.mp h⟩
            · exact (wp_noneR.mp h).elim
          · exact (wp_noneR.mp h).elim
        · rename_i e3
          refine ⟨a, st1, e1, b, st2, e2, false, e3, ?_⟩
          rw [if_neg (by decide)]
          exact wp_some.mp h
        · exact (wp_noneR.mp h).elim
      · exact (wp_noneR.mp h).elim
    · exact (wp_noneR.mp h).elim
  · rintro ⟨a, st1, e1, b, st2, e2, k, e3, q⟩
    cases k with
    | true =>
      rw [if_pos rfl] at q
      obtain ⟨d, st3, e4, k', e5, q⟩ := q
      simp [e1, e2, e3, e4, e5, q]
    | false =>
      rw [if_neg (by decide)] at q
      simp [e1, e2, e3, q]
@[simp] theorem wp_nil {Q : List D → Store → Prop} : Wp (fNil env st) Q ↔ Q [] st := wp_some
@[simp] theorem wp_cons {Q : List D → Store → Prop} : Wp (fCons F A env st) Q ↔ Wp (F env st) fun d st1 => Wp (A env st1) fun ds st2 => Q (d :: ds) st2 := by
  unfold fCons
  constructor
  · intro h
    split at h
    · rename_i a st1 e1
      split at h
      · rename_i b st2 e2
        exact ⟨a, st1, e1, b, st2, e2, wp_some.mp h⟩
      · exact (wp_noneR.mp h).elim
    · exact (wp_noneR.mp h).elim
  · rintro ⟨a, st1, e1, b, st2, e2, q⟩
    simp [e1, e2, q]
@[simp] theorem wp_tup : Wp (fTup A env st) Q ↔ Wp (A env st) fun ds st1 => ds.length ≤ 16777216 ∧ Q (.tup ds) st1 := by
  unfold fTup
  constructor
  · intro h
    split at h
    · rename_i a st1 e1
      split at h
      · rename_i hl; exact ⟨a, st1, e1, hl, wp_some.mp h⟩
      · exact (wp_noneR.mp h).elim
    · exact (wp_noneR.mp h).elim
  · rintro ⟨a, st1, e1, hl, q⟩
    simp [e1, hl, q]
@[simp] theorem wp_lst : Wp (fLst A env st) Q ↔ Wp (A env st) fun ds st1 => ds.length ≤ 16777216 ∧ Q (.tl ds) st1 := by
  unfold fLst
  constructor
  · intro h
    split at h
    · rename_i a st1 e1
      split at h
      · rename_i hl; exact ⟨a, st1, e1, hl, wp_some.mp h⟩
      · exact (wp_noneR.mp h).elim
    · exact (wp_noneR.mp h).elim
  · rintro ⟨a, st1, e1, hl, q⟩
    simp [e1, hl, q]
@[simp] theorem wp_lstS : Wp (fLstS A env st) Q ↔ Wp (A env st) fun ds st1 => ds.length ≤ 16777216 ∧ Q (.ref st1.length) (st1 ++ [.lst ds]) := by
  unfold fLstS
  constructor
  · intro h
    split at h
    · rename_i a st1 e1
      split at h
      · rename_i hl; exact ⟨a, st1, e1, hl, wp_some.mp h⟩
      · exact (wp_noneR.mp h).elim
    · exact (wp_noneR.mp h).elim
  · rintro ⟨a, st1, e1, hl, q⟩
    simp [e1, hl, q]
@[simp] theorem wp_neg : Wp (fNeg F env st) Q ↔ Wp (F env st) fun d st1 => ∃ i, d = .int i ∧ Q (.int (-i)) st1 := by
  unfold fNeg
  constructor
  · intro h
    split at h
    · rename_i i st1 e1; exact ⟨_, st1, e1, i, rfl, wp_some.mp h⟩
    · exact (wp_noneR.mp h).elim
  · rintro ⟨a, st1, e1, i, rfl, q⟩
    simp [e1, q]
@[simp] theorem wp_or : Wp (fOr F G env st) Q ↔ Wp (F env st) fun d st1 => ∃ k, tru st1 d = some k ∧ if k = true then Q d st1 else Wp (G env st1) Q := by
  unfold fOr
  constructor
  · intro h
    split at h
    · rename_i a st1 e1
      refine ⟨a, st1, e1, ?_⟩
      split at h
      · rename_i e2; exact ⟨true, e2, by simp only [if_true]; exact wp_some.mp h⟩
      · rename_i e2; exact ⟨false, e2, by simp only [Bool.false_eq_true, if_false]; exact h⟩
      · exact (wp_noneR.mp h).elim
    · exact (wp_noneR.mp h).elim
  · rintro ⟨a, st1, e1, k, e2, q⟩
    cases k <;> simp_all
@[simp] theorem wp_and : Wp (fAnd F G env st) Q ↔ Wp (F env st) fun d st1 => ∃ k, tru st1 d = some k ∧ if k = true then Wp (G env st1) Q else Q d st1 := by
  unfold fAnd
  constructor
  · intro h
    split at h
    · rename_i a st1 e1
      refine ⟨a, st1, e1, ?_⟩
      split at h
      · rename_i e2; exact ⟨true, e2, by simp only [if_true]; exact h⟩
      · rename_i e2; exact ⟨false, e2, by simp only [Bool.false_eq_true, if_false]; exact wp_some.mp h⟩
      · exact (wp_noneR.mp h).elim
    · exact (wp_noneR.mp h).elim
  · rintro ⟨a, st1, e1, k, e2, q⟩
    cases k <;> simp_all
@[simp] theorem wp_not : Wp (fNot F env st) Q ↔ Wp (F env st) fun d st1 => ∃ k, tru st1 d = some k ∧ Q (.bl (!k)) st1 := by
  unfold fNot
  constructor
  · intro h
    split at h
    · rename_i a st1 e1
      refine ⟨a, st1, e1, ?_⟩
      split at h
      · rename_i k e2; exact ⟨k, e2, wp_some.mp h⟩
      · exact (wp_noneR.mp h).elim
    · exact (wp_noneR.mp h).elim
  · rintro ⟨a, st1, e1, k, e2, q⟩
    simp [e1, e2, q]
@[simp] theorem wp_ite : Wp (fIte C F G env st) Q ↔ Wp (C env st) fun k st1 => if k = true then Wp (F env st1) Q else Wp (G env st1) Q := by
  unfold fIte
  constructor
  · intro h
    split at h
    · rename_i st1 e1; exact ⟨true, st1, e1, by simp only [if_true]; exact h⟩
    · rename_i st1 e1; exact ⟨false, st1, e1, by simp only [Bool.false_eq_true, if_false]; exact h⟩
    · exact (wp_noneR.mp h).elim
  · rintro ⟨a, st1, e1, q⟩
    cases a <;> simp_all
@[simp] theorem wp_oNone {Q : Option Int → Store → Prop} : Wp (oNone env st) Q ↔ Q none st := wp_some
@[simp] theorem wp_oSome {Q : Option Int → Store → Prop} : Wp (oSome F env st) Q ↔ Wp (F env st) fun d st1 => ∃ i, d = .int i ∧ Q (some i) st1 := by
  unfold oSome
  constructor
  · intro h
    split at h
    · rename_i i st1 e1; exact ⟨_, st1, e1, i, rfl, wp_some.mp h⟩
    · exact (wp_noneR.mp h).elim
  · rintro ⟨a, st1, e1, i, rfl, q⟩
    simp [e1, q]
@[simp] theorem wp_cut {L U : FO} : Wp (fCut F L U env st) Q ↔ Wp (F env st) fun a st1 => Wp (L env st1) fun l st2 => Wp (U env st2) fun u st3 => ∃ d, dCut a l u st3 = some d ∧ Q d st3 := by
  unfold fCut
  constructor
  · intro h
    split at h
    · rename_i a st1 e1
      split at h
      · rename_i l st2 e2
        split at h
        · rename_i u st3 e3
          split at h
          · rename_i d e4; exact ⟨a, st1, e1, l, st2, e2, u, st3, e3, d, e4, wp_some.mp h⟩
          · exact (wp_noneR.mp h).elim
        · exact (wp_noneR.mp h).elim
      · exact (wp_noneR.mp h).elim
    · exact (wp_noneR.mp h).elim
  · rintro ⟨a, st1, e1, l, st2, e2, u, st3, e3, d, e4, q⟩
    simp [e1, e2, e3, e4, q]
@[simp] theorem wp_call {n : Nat} {f : FnF} : Wp (fCall n f A env st) Q ↔ Wp (A env st) fun ds st1 => ds.length = n ∧ Wp (f ds st1) Q := by
  unfold fCall
  constructor
  · intro h
    split at h
    · rename_i ds st1 e1
      split at h
      · rename_i hn; exact ⟨ds, st1, e1, hn, h⟩
      · exact (wp_noneR.mp h).elim
    · exact (wp_noneR.mp h).elim
  · rintro ⟨ds, st1, e1, hn, q⟩
    simp [e1, hn, q]
@[simp] theorem wp_blt {f : BF} : Wp (fBlt f A env st) Q ↔ Wp (A env st) fun ds st1 => Wp (f ds st1) Q := by
  unfold fBlt
  constructor
  · intro h
    split at h
    · rename_i ds st1 e1; exact ⟨ds, st1, e1, h⟩
    · exact (wp_noneR.mp h).elim
  · rintro ⟨ds, st1, e1, q⟩
    simp [e1, q]
@[simp] theorem wp_isi {c : Tag} : Wp (fIsi c F env st) Q ↔ Wp (F env st) fun d st1 => ∃ t, tagOf st1 d = some t ∧ Q (.bl (isTag t c)) st1 := by
  unfold fIsi
  constructor
  · intro h
    split at h
    · rename_i d st1 e1
      split at h
      · rename_i t e2; exact ⟨d, st1, e1, t, e2, wp_some.mp h⟩
      · exact (wp_noneR.mp h).elim
    · exact (wp_noneR.mp h).elim
  · rintro ⟨d, st1, e1, t, e2, q⟩
    simp [e1, e2, q]
/-- a def's body -/
theorem wp_fn {n N : Nat} {body : FS} {ds : List D} : Wp (fnD n N body ds st) Q ↔ ds.length = n ∧ Wp (body (ds.map some ++ List.replicate (N - n) none) st) fun o st1 => match o with
    | .rt d => Q d st1
    | .nx _ => Q .non st1
    | _ => False := by
  unfold fnD
  constructor
  · intro h
    split at h
    · rename_i hn
      refine ⟨hn, ?_⟩
      split at h
      · rename_i d st1 e1; exact ⟨_, st1, e1, wp_some.mp h⟩
      · rename_i d st1 e1; exact ⟨_, st1, e1, wp_some.mp h⟩
      · exact (wp_noneR.mp h).elim
    · exact (wp_noneR.mp h).elim
  · rintro ⟨hn, o, st1, e1, q⟩
    rw [if_pos hn]
    cases o <;> simp_all
end
section
variable {env : En} {st : Store} {Q : Bool → Store → Prop} {F G J : FE} {C C' C2 : FT}
@[simp] theorem wpt_cmp {c : CmpF} : Wp (tCmpF c F G env st) Q ↔ Wp (F env st) fun a st1 => Wp (G env st1) fun b st2 => ∃ k, c a b st2 = some k ∧ Q k st2 := by
  unfold tCmpF
  constructor
  · intro h
    split at h
    · rename_i a st1 e1
      split at h
      · rename_i b st2 e2
        split at h
        · rename_i d e3
          exact ⟨a, st1, e1, b, st2, e2, d, e3, wp_some.mp h⟩
        · exact (wp_noneR.mp h).elim
      · exact (wp_noneR.mp h).elim
    · exact (wp_noneR.mp h).elim
  · rintro ⟨a, st1, e1, b, st2, e2, d, e3, q⟩
    simp [e1, e2, e3, q]
@[simp] theorem wpt_chain {c c' : CmpF} : Wp (tChainF c c' F G J env st) Q ↔ Wp (fChain c c' F G J env st) fun d st1 => ∃ k, d = .bl k ∧ Q k st1 := by
  unfold tChainF
  constructor
  · intro h
    split at h
    · rename_i k st1 e1; exact ⟨_, st1, e1, k, rfl, wp_some.mp h⟩
    · exact (wp_noneR.mp h).elim
  · rintro ⟨d, st1, e1, k, rfl, q⟩
    simp [e1, q]
@[simp] theorem wpt_tru : Wp (tTru F env st) Q ↔ Wp (F env st) fun d st1 => ∃ k, tru st1 d = some k ∧ Q k st1 := by
  unfold tTru
  constructor
  · intro h
    split at h
    · rename_i a st1 e1
      refine ⟨a, st1, e1, ?_⟩
      split at h
      · rename_i k e2; exact ⟨k, e2, wp_some.mp h⟩
      · exact (wp_noneR.mp h).elim
    · exact (wp_noneR.mp h).elim
  · rintro ⟨a, st1, e1, k, e2, q⟩
    simp [e1, e2, q]
@[simp] theorem wpt_and : Wp (tAndF C C' env st) Q ↔ Wp (C env st) fun k st1 => if k = true then Wp (C' env st1) Q else Q false st1 := by
  unfold tAndF
  constructor
  · intro h
    split at h
    · rename_i st1 e1; exact ⟨true, st1, e1, by simp only [if_true]; exact h⟩
    · rename_i st1 e1; exact ⟨false, st1, e1, by simp only [Bool.false_eq_true, if_false]; exact wp_some.mp h⟩
    · exact (wp_noneR.mp h).elim
  · rintro ⟨a, st1, e1, q⟩
    cases a <;> simp_all
@[simp] theorem wpt_or : Wp (tOrF C C' env st) Q ↔ Wp (C env st) fun k st1 => if k = true then Q true st1 else Wp (C' env st1) Q := by
  unfold tOrF
  constructor
  · intro h
    split at h
    · rename_i st1 e1; exact ⟨true, st1, e1, by simp only [if_true]; exact wp_some.mp h⟩
    · rename_i st1 e1; exact ⟨false, st1, e1, by simp only [Bool.false_eq_true, if_false]; exact h⟩
    · exact (wp_noneR.mp h).elim
  · rintro ⟨a, st1, e1, q⟩
    cases a <;> simp_all
@[simp] theorem wpt_not : Wp (tNotF C env st) Q ↔ Wp (C env st) fun k st1 => Q (!k) st1 := by
  unfold tNotF
  constructor
  · intro h
    split at h
    · rename_i k st1 e1; exact ⟨k, st1, e1, wp_some.mp h⟩
    · exact (wp_noneR.mp h).elim
  · rintro ⟨a, st1, e1, q⟩
    simp [e1, q]
@[simp] theorem wpt_ite : Wp (tIteF C C' C2 env st) Q ↔ Wp (C env st) fun k st1 => if k = true then Wp (C' env st1) Q else Wp (C2 env st1) Q := by
  unfold tIteF
  constructor
  · intro h
    split at h
    · rename_i st1 e1; exact ⟨true, st1, e1, by simp only [if_true]; exact h⟩
    · rename_i st1 e1; exact ⟨false, st1, e1, by simp only [Bool.false_eq_true, if_false]; exact h⟩
    · exact (wp_noneR.mp h).elim
  · rintro ⟨a, st1, e1, q⟩
    cases a <;> simp_all
@[simp] theorem wpt_yes : Wp (tYesF env st) Q ↔ Q true st := wp_some
end
section
variable {env : En} {st : Store} {Q : Out → Store → Prop} {F G : FE} {A : FA} {C : FT} {B B2 : FS} {T : FG} {I : FI}
@[simp] theorem wps_nil : Wp (sNil env st) Q ↔ Q (.nx env) st := wp_some
@[simp] theorem wps_pass : Wp (sPass env st) Q ↔ Q (.nx env) st := wp_some
@[simp] theorem wps_brk : Wp (sBrk env st) Q ↔ Q (.bk env) st := wp_some
@[simp] theorem wps_cnt : Wp (sCnt env st) Q ↔ Q (.ct env) st := wp_some
@[simp] theorem wps_retN : Wp (sRetN env st) Q ↔ Q (.rt .non) st := wp_some
@[simp] theorem wps_seq : Wp (sSeq B B2 env st) Q ↔ Wp (B env st) fun o st1 => match o with
    | .nx e => Wp (B2 e st1) Q
    | o => Q o st1 := by
  unfold sSeq
  constructor
  · intro h
    split at h
    · rename_i e1 st1 e; exact ⟨_, st1, e, h⟩
    · rename_i hne
      obtain ⟨o, st1, e, q⟩ := h
      refine ⟨o, st1, e, ?_⟩
      cases o with
      | nx e0 => exact absurd e (hne e0 st1)
      | rt d => exact q
      | bk d => exact q
      | ct d => exact q
  · rintro ⟨o, st1, e, q⟩
    cases o <;> simp_all
@[simp] theorem wps_ret : Wp (sRet F env st) Q ↔ Wp (F env st) fun d st1 => Q (.rt d) st1 := by
  unfold sRet
  constructor
  · intro h
    split at h
    · rename_i d st1 e; exact ⟨d, st1, e, wp_some.mp h⟩
    · exact (wp_noneR.mp h).elim
  · rintro ⟨a, st1, e1, q⟩
    simp [e1, q]
@[simp] theorem wps_expr : Wp (sExpr F env st) Q ↔ Wp (F env st) fun d st1 => Q (.nx env) st1 := by
  unfold sExpr
  constructor
  · intro h
    split at h
    · rename_i d st1 e; exact ⟨d, st1, e, wp_some.mp h⟩
    · exact (wp_noneR.mp h).elim
  · rintro ⟨a, st1, e1, q⟩
    simp [e1, q]
@[simp] theorem wps_set {i : Nat} : Wp (sSet i F env st) Q ↔ Wp (F env st) fun d st1 => Q (.nx (env.set i (some d))) st1 := by
  unfold sSet
  constructor
  · intro h
    split at h
    · rename_i d st1 e; exact ⟨d, st1, e, wp_some.mp h⟩
    · exact (wp_noneR.mp h).elim
  · rintro ⟨a, st1, e1, q⟩
    simp [e1, q]
@[simp] theorem wps_asg : Wp (sAsg T F env st) Q ↔ Wp (F env st) fun d st1 => ∃ e, T d env = some e ∧ Q (.nx e) st1 := by
  unfold sAsg
  constructor
  · intro h
    split at h
    · rename_i d st1 e
      split at h
      · rename_i e2 h2; exact ⟨d, st1, e, e2, h2, wp_some.mp h⟩
      · exact (wp_noneR.mp h).elim
    · exact (wp_noneR.mp h).elim
  · rintro ⟨a, st1, e1, e2, h2, q⟩
    simp [e1, h2, q]
@[simp] theorem wps_if : Wp (sIf C B B2 env st) Q ↔ Wp (C env st) fun k st1 => if k = true then Wp (B env st1) Q else Wp (B2 env st1) Q := by
  unfold sIf
  constructor
  · intro h
    split at h
    · rename_i st1 e1; exact ⟨true, st1, e1, by simp only [if_true]; exact h⟩
    · rename_i st1 e1; exact ⟨false, st1, e1, by simp only [Bool.false_eq_true, if_false]; exact h⟩
    · exact (wp_noneR.mp h).elim
  · rintro ⟨a, st1, e1, q⟩
    cases a <;> simp_all
@[simp] theorem wps_put {Fo Fi : FE} : Wp (sPut Fo Fi F env st) Q ↔ Wp (F env st) fun x st1 => Wp (Fo env st1) fun o st2 => Wp (Fi env st2) fun i st3 => ∃ j st4, i = .int j ∧ setAt st3 o j x = some st4 ∧ Q (.nx env) st4 := by
  unfold sPut
  constructor
  · intro h
    split at h
    · rename_i x st1 e1
      split at h
      · rename_i o st2 e2
        split at h
        · rename_i j st3 e3
          split at h
          · rename_i st4 e4; exact ⟨x, st1, e1, o, st2, e2, _, st3, e3, j, st4, rfl, e4, wp_some.mp h⟩
          · exact (wp_noneR.mp h).elim
        · exact (wp_noneR.mp h).elim
      · exact (wp_noneR.mp h).elim
    · exact (wp_noneR.mp h).elim
  · rintro ⟨x, st1, e1, o, st2, e2, i, st3, e3, j, st4, rfl, e4, q⟩
    simp [e1, e2, e3, e4, q]
@[simp] theorem wps_aug {i : Nat} {f : D → D → Store → Option D} : Wp (sAug i f F env st) Q ↔ ∃ a, env[i]? = some (some a) ∧ Wp (F env st) fun b st1 => ∃ d, f a b st1 = some d ∧ Q (.nx (env.set i (some d))) st1 := by
  unfold sAug
  constructor
  · intro h
    split at h
    · rename_i a ea
      refine ⟨a, ea, ?_⟩
      split at h
      · rename_i b st1 e1
        split at h
        · rename_i d e2; exact ⟨b, st1, e1, d, e2, wp_some.mp h⟩
        · exact (wp_noneR.mp h).elim
      · exact (wp_noneR.mp h).elim
    · exact (wp_noneR.mp h).elim
  · rintro ⟨a, ea, b, st1, e1, d, e2, q⟩
    simp [ea, e1, e2, q]
@[simp] theorem wps_app {Fo : FE} : Wp (sApp Fo F env st) Q ↔ Wp (Fo env st) fun o st1 => ∃ n ys, o = .ref n ∧ st1[n]? = some (.lst ys) ∧ Wp (F env st1) fun x st2 => ∃ xs, st2[n]? = some (.lst xs) ∧ xs.length < 16777216 ∧ Q (.nx env) (st2.set n (.lst (xs ++ [x]))) := by
  unfold sApp
  constructor
  · intro h
    split at h
    · rename_i n st1 e1
      split at h
      · rename_i ys e2
        split at h
        · rename_i x st2 e3
          split at h
          · rename_i xs e4
            split at h
            · rename_i hl; exact ⟨_, st1, e1, n, ys, rfl, e2, x, st2, e3, xs, e4, hl, wp_some.mp h⟩
            · exact (wp_noneR.mp h).elim
          · exact (wp_noneR.mp h).elim
        · exact (wp_noneR.mp h).elim
      · exact (wp_noneR.mp h).elim
    · exact (wp_noneR.mp h).elim
  · rintro ⟨o, st1, e1, n, ys, rfl, e2, x, st2, e3, xs, e4, hl, q⟩
    simp [e1, e2, e3, e4, hl, q]
@[simp] theorem wps_par {i j : Nat} : Wp (sPar i j A env st) Q ↔ Wp (A env st) fun ds st1 => ∃ a b, ds = [a, b] ∧ Q (.nx ((env.set i (some a)).set j (some b))) st1 := by
  unfold sPar
  constructor
  · intro h
    split at h
    · rename_i a b st1 e1; exact ⟨_, st1, e1, a, b, rfl, wp_some.mp h⟩
    · exact (wp_noneR.mp h).elim
  · rintro ⟨ds, st1, e1, a, b, rfl, q⟩
    simp [e1, q]
@[simp] theorem wps_for : Wp (sFor I T B env st) Q ↔ Wp (I env st) fun r st1 => Wp (forN r.2 T B r.1 env st1) Q := by
  unfold sFor
  constructor
  · intro h
    split at h
    · rename_i ds g st1 e1; exact ⟨(ds, g), st1, e1, h⟩
    · exact (wp_noneR.mp h).elim
  · rintro ⟨⟨ds, g⟩, st1, e1, q⟩
    simp [e1, q]
theorem wpf_nil {g : Gd} : Wp (forN g T B [] env st) Q ↔ g st ∧ Q (.nx env) st := by
  unfold forN
  constructor
  · intro h
    split at h
    · rename_i hg; exact ⟨hg, wp_some.mp h⟩
    · exact (wp_noneR.mp h).elim
  · rintro ⟨hg, q⟩
    simp [hg, q]
theorem wpf_cons {g : Gd} {d : D} {ds : List D} : Wp (forN g T B (d :: ds) env st) Q ↔ g st ∧ ∃ e1, T d env = some e1 ∧ Wp (B e1 st) fun o st1 => match o with
    | .nx e2 => Wp (forN g T B ds e2 st1) Q
    | .ct e2 => Wp (forN g T B ds e2 st1) Q
    | .bk e2 => Q (.nx e2) st1
    | .rt v => Q (.rt v) st1 := by
  constructor
  · intro h
    unfold forN at h
    split at h
    · rename_i hg
      refine ⟨hg, ?_⟩
      split at h
      · rename_i e1 ht
        refine ⟨e1, ht, ?_⟩
        split at h
        · rename_i e2 st1 hb; exact ⟨_, st1, hb, h⟩
        · rename_i e2 st1 hb; exact ⟨_, st1, hb, h⟩
        · rename_i e2 st1 hb; exact ⟨_, st1, hb, wp_some.mp h⟩
        · rename_i e2 st1 hb; exact ⟨_, st1, hb, wp_some.mp h⟩
        · exact (wp_noneR.mp h).elim
      · exact (wp_noneR.mp h).elim
    · exact (wp_noneR.mp h).elim
  · rintro ⟨hg, e1, ht, o, st1, hb, q⟩
    unfold forN
    rw [if_pos hg]
    cases o <;> simp_all
/-- a loop by its invariant -/
theorem wp_forI {g : Gd} (Iv : Nat → En → Store → Prop) : ∀ (ds : List D) (i : Nat) (env : En) (st : Store) (Q : Out → Store → Prop), Iv i env st →
    (∀ j d e s, ds[j]? = some d → Iv (i + j) e s → g s ∧ ∃ e1, T d e = some e1 ∧ Wp (B e1 s) fun o s1 => match o with
      | .nx e2 => Iv (i + j + 1) e2 s1
      | .ct e2 => Iv (i + j + 1) e2 s1
      | .bk e2 => Q (.nx e2) s1
      | .rt v => Q (.rt v) s1) →
    (∀ e s, Iv (i + ds.length) e s → g s ∧ Q (.nx e) s) → Wp (forN g T B ds env st) Q
  | [], i, env, st, Q, h0, _, hd => wpf_nil.mpr (hd env st h0)
  | d :: ds, i, env, st, Q, h0, hs, hd => by
    rw [wpf_cons]
    obtain ⟨hg, e1, ht, hb⟩ := hs 0 d env st rfl h0
    refine ⟨hg, e1, ht, hb.mono fun o s1 ho => ?_⟩
    have again : ∀ e2, Iv (i + 1) e2 s1 → Wp (forN g T B ds e2 s1) Q := fun e2 h2 => by
      refine wp_forI Iv ds (i + 1) e2 s1 Q h2 (fun j d' e s hj hI => ?_) fun e s hI => hd e s (by rw [List.length_cons, show i + (ds.length + 1) = i + 1 + ds.length by omega]; exact hI)
      have := hs (j + 1) d' e s (by simpa using hj) (by rw [show i + (j + 1) = i + 1 + j by omega]; exact hI)
      rw [show i + (j + 1) + 1 = i + 1 + j + 1 by omega] at this
      exact this
    cases o with
    | nx e2 => exact again e2 ho
    | ct e2 => exact again e2 ho
    | bk e2 => exact ho
    | rt v => exact ho
end
section
variable {env : En} {st : Store} {F : FE} {A : FA}
@[simp] theorem wpi_val {Q : (List D × Gd) → Store → Prop} : Wp (iVal F env st) Q ↔ Wp (F env st) fun d st1 => ∃ r, itemsOf st1 d = some r ∧ Q r st1 := by
  unfold iVal
  constructor
  · intro h
    split at h
    · rename_i d st1 e
      split at h
      · rename_i r e2; exact ⟨d, st1, e, r, e2, wp_some.mp h⟩
      · exact (wp_noneR.mp h).elim
    · exact (wp_noneR.mp h).elim
  · rintro ⟨a, st1, e1, r, e2, q⟩
    simp [e1, e2, q]
@[simp] theorem wpi_range1 {Q : (List D × Gd) → Store → Prop} : Wp (iRange1 A env st) Q ↔ Wp (A env st) fun ds st1 => ∃ j, ds = [.int j] ∧ (-4611686018427387904 ≤ j ∧ j < 4611686018427387904) ∧ Q (rangeD 0 j.toNat, fun _ => True) st1 := by
  unfold iRange1
  constructor
  · intro h
    split at h
    · rename_i j st1 e
      split at h
      · rename_i hb; exact ⟨_, st1, e, j, rfl, hb, wp_some.mp h⟩
      · exact (wp_noneR.mp h).elim
    · exact (wp_noneR.mp h).elim
  · rintro ⟨a, st1, e1, j, rfl, hb, q⟩
    simp [e1, hb, q]
end
/-- a comprehension by what each turn gives -/
theorem wp_compI {g : Gd} {T : FG} {C : FT} {F : FE} {env : En} (Iv : Nat → List D → Store → Prop) : ∀ (ds : List D) (i : Nat) (acc : List D) (st : Store) (Q : List D → Store → Prop), Iv i acc st →
    (∀ j d ac s, ds[j]? = some d → Iv (i + j) ac s → g s ∧ ∃ e1, T d env = some e1 ∧ Wp (C e1 s) fun k s1 => if k = true then Wp (F e1 s1) fun y s2 => Iv (i + j + 1) (ac ++ [y]) s2 else Iv (i + j + 1) ac s1) →
    (∀ ac s, Iv (i + ds.length) ac s → g s ∧ ∀ ys, ac = acc ++ ys → Q ys s) → (∀ j ac s, Iv j ac s → ∃ ys, ac = acc ++ ys) → Wp (compN g T C F ds env st) Q
  | [], i, acc, st, Q, h0, _, hd, _ => by
    obtain ⟨hg, hq⟩ := hd acc st h0
    unfold compN
    rw [if_pos hg]
    exact wp_some.mpr (hq [] (by simp))
  | d :: ds, i, acc, st, Q, h0, hs, hd, hx => by
    obtain ⟨hg, e1, ht, k, s1, ec, hk⟩ := hs 0 d acc st rfl h0
    unfold compN
    rw [if_pos hg]
    simp only [ht, ec]
    cases k with
    | true =>
      rw [if_pos rfl] at hk
      obtain ⟨y, s2, ef, h2⟩ := hk
      simp only [ef]
      have := wp_compI (g := g) (T := T) (C := C) (F := F) (env := env) (fun j ac s => Iv j ac s ∧ ∃ ys, ac = (acc ++ [y]) ++ ys) ds (i + 1) (acc ++ [y]) s2 (fun ys s => Q (y :: ys) s) ⟨h2, [], by simp⟩ (fun j d' ac s hj hI => ?_) (fun ac s hI => ?_) fun j ac s hI => hI.2
      · obtain ⟨ys, s3, e3, q⟩ := this
        simp only [e3]
        exact wp_some.mpr q
      · obtain ⟨hI, ys, hy⟩ := hI
        obtain ⟨hg', e1', ht', hw⟩ := hs (j + 1) d' ac s (by simpa using hj) (by rw [show i + (j + 1) = i + 1 + j by omega]; exact hI)
        refine ⟨hg', e1', ht', hw.mono fun k s1 hk => ?_⟩
        rw [show i + (j + 1) + 1 = i + 1 + j + 1 by omega] at hk
        cases k with
        | true =>
          rw [if_pos rfl] at hk ⊢
          exact hk.mono fun z s2 hz => ⟨hz, ys ++ [z], by rw [hy]; simp⟩
        | false =>
          rw [if_neg (by decide)] at hk ⊢
          exact ⟨hk, ys, hy⟩
      · obtain ⟨hI, ys, hy⟩ := hI
        obtain ⟨hg', hq⟩ := hd ac s (by rw [List.length_cons, show i + (ds.length + 1) = i + 1 + ds.length by omega]; exact hI)
        exact ⟨hg', fun zs hz => hq (y :: zs) (by rw [hz]; simp)⟩
    | false =>
      rw [if_neg (by decide)] at hk
      simp only
      refine wp_compI Iv ds (i + 1) acc s1 Q hk (fun j d' ac s hj hI => ?_) (fun ac s hI => ?_) hx
      · have := hs (j + 1) d' ac s (by simpa using hj) (by rw [show i + (j + 1) = i + 1 + j by omega]; exact hI)
        rw [show i + (j + 1) + 1 = i + 1 + j + 1 by omega] at this
        exact this
      · exact hd ac s (by rw [List.length_cons, show i + (ds.length + 1) = i + 1 + ds.length by omega]; exact hI)
/-- a comprehension without ifs whose elements are values of a function and leave the store -/
theorem compN_map {T : FG} {F : FE} {env : En} {st : Store} {f : D → D} : ∀ (ds : List D), (∀ d ∈ ds, ∃ e1, T d env = some e1 ∧ F e1 st = some (f d, st)) → compN (fun _ => True) T tYesF F ds env st = some (ds.map f, st)
  | [], _ => by unfold compN; simp
  | d :: ds, h => by
    obtain ⟨e1, h1, h2⟩ := h d List.mem_cons_self
    unfold compN
    rw [if_pos trivial]
    simp only [h1, h2, tYesF, compN_map ds fun x hx => h x (List.mem_cons_of_mem _ hx), List.map_cons]
theorem compN_filter {T : FG} {C : FT} {F : FE} {env : En} {st : Store} {f : D → D} {p : D → Bool} : ∀ (ds : List D), (∀ d ∈ ds, ∃ e1, T d env = some e1 ∧ C e1 st = some (p d, st) ∧ (p d = true → F e1 st = some (f d, st))) → compN (fun _ => True) T C F ds env st = some ((ds.filter p).map f, st)
  | [], _ => by unfold compN; simp
  | d :: ds, h => by
    obtain ⟨e1, h1, h2, h3⟩ := h d List.mem_cons_self
    have ih := compN_filter ds fun x hx => h x (List.mem_cons_of_mem _ hx)
    unfold compN
    rw [if_pos trivial]
    cases hp : p d with
    | true => simp only [h1, h2, hp, h3 hp, ih, List.filter_cons, if_true, List.map_cons]
    | false => simp only [h1, h2, hp, ih, List.filter_cons]; rfl
theorem wp_comp {vs : List Nat} {I : FI} {T : FG} {C : FT} {F : FE} {env : En} {st : Store} {Q : D → Store → Prop} : Wp (fComp vs I T C F env st) Q ↔ Wp (I env st) fun r st1 => r.1.length ≤ 16777216 ∧ Wp (compN r.2 T C F r.1 (wipeE env vs) st1) fun ys st2 => Q (.tl ys) st2 := by
  unfold fComp
  constructor
  · intro h
    split at h
    · rename_i ds g st1 e1
      refine ⟨(ds, g), st1, e1, ?_⟩
      split at h
      · rename_i hl
        refine ⟨hl, ?_⟩
        split at h
        · rename_i ys st2 e2; exact ⟨ys, st2, e2, wp_some.mp h⟩
        · exact (wp_noneR.mp h).elim
      · exact (wp_noneR.mp h).elim
    · exact (wp_noneR.mp h).elim
  · rintro ⟨⟨ds, g⟩, st1, e1, hl, ys, st2, e2, q⟩
    simp only at hl e2
    simp [e1, hl, e2, q]
end Vm
namespace Vm
open PySem PySem.Spec PyProof.Rows L2

/-! ### the laws' feed -/
def Fd (n : Nat) (st : Store) : Prop := ∃ a b : Int, st[n]? = some (.lst [.int a, .int b]) ∧ 0 ≤ a ∧ 0 ≤ b
structure Fr (n : Nat) (st st' : Store) : Prop where
  fd : Fd n st'
  keep : ∀ (m : Nat) (o : O), m ≠ n → st[m]? = some o → st'[m]? = some o
theorem Fr.trans {n : Nat} {a b c : Store} (h : Fr n a b) (h' : Fr n b c) : Fr n a c := ⟨h'.fd, fun m o hm e => h'.keep m o hm (h.keep m o hm e)⟩
theorem Fr.refl {n : Nat} {a : Store} (h : Fd n a) : Fr n a a := ⟨h, fun _ _ _ e => e⟩
theorem Fr.set {n : Nat} {st : Store} {o : O} {a b : Int} (h : st[n]? = some o) (ha : 0 ≤ a) (hb : 0 ≤ b) : Fr n st (st.set n (.lst [.int a, .int b])) := by
  have hl := (List.getElem?_eq_some_iff.mp h).1
  exact ⟨⟨a, b, by rw [List.getElem?_set_self hl], ha, hb⟩, fun m o hm e => by rw [List.getElem?_set_ne (Ne.symm hm)]; exact e⟩
@[simp] theorem atI0 {α : Type} {x : α} {xs : List α} : L2.atI (x :: xs) 0 = some x := by simp [L2.atI, ixN]
@[simp] theorem atI1 {α : Type} {x y : α} {xs : List α} : L2.atI (x :: y :: xs) 1 = some y := by
  have : (1 : Int) < (xs.length : Int) + 1 + 1 := by omega
  simp [L2.atI, ixN, this]
@[simp] theorem atI2 {α : Type} {x y z : α} {xs : List α} : L2.atI (x :: y :: z :: xs) 2 = some z := by
  have : (2 : Int) < (xs.length : Int) + 1 + 1 + 1 := by omega
  simp [L2.atI, ixN, this]
theorem atI_of {α : Type} {xs : List α} {i : Int} (h0 : 0 ≤ i) (h1 : i < xs.length) : ∃ x, L2.atI xs i = some x ∧ x ∈ xs := by
  have hl : i.toNat < xs.length := by omega
  refine ⟨xs[i.toNat], ?_, List.getElem_mem hl⟩
  unfold L2.atI ixN
  rw [if_pos h0, if_pos (by omega)]
  exact List.getElem?_eq_getElem hl

def L_feed : FnF := fnD 2 5 (sSeq (sSet 2 (fIte (tCmpF cLt (fVar 1) (fBlt bLen (fCons (fVar 0) (fNil)))) (fBin dIdx (fVar 0) (fVar 1)) (fBin dAdd (fBin dMul (fCon (.int 71)) (fVar 1)) (fCon (.int 23)))))
  (sSeq (sSet 3 (fBlt bMax (fCons (fCon (.int 0)) (fCons (fBin dSub (fBlt bAbs (fCons (fVar 2) (fNil))) (fBin dPow (fCon (.int 10)) (fCon (.int 18)))) (fNil)))))
  (sSeq (sSet 4 (fBin dMod (fBin dAdd (fBin dAdd (fBin dMul (fVar 2) (fCon (.int 6364136223846793005))) (fBin dMul (fCon (.int 9973)) (fVar 1))) (fCon (.int 1442695040888963407))) (fCon (.int 2305843009213693951))))
  (sRet (fLstS (fCons (fVar 3) (fCons (fVar 4) (fNil))))))))
def L_take : FnF := fnD 2 3 (sSeq (sIf (tCmpF cGt (fBin dIdx (fVar 0) (fCon (.int 0))) (fCon (.int 0))) (sSeq (sSet 2 (fBin dMod (fBin dIdx (fVar 0) (fCon (.int 0))) (fVar 1)))
  (sSeq (sPut (fVar 0) (fCon (.int 0)) (fBin dFdiv (fBin dIdx (fVar 0) (fCon (.int 0))) (fVar 1)))
  (sRet (fVar 2)))) (sNil))
  (sSeq (sPut (fVar 0) (fCon (.int 1)) (fBin dMod (fBin dAdd (fBin dMul (fBin dIdx (fVar 0) (fCon (.int 1))) (fCon (.int 6364136223846793005))) (fCon (.int 1442695040888963407))) (fCon (.int 2305843009213693951))))
  (sRet (fBin dMod (fBin dFdiv (fBin dIdx (fVar 0) (fCon (.int 1))) (fCon (.int 65536))) (fVar 1)))))
def L_pick : FnF := fnD 2 2 (sRet (fBin dIdx (fVar 1) (fCall 2 L_take (fCons (fVar 0) (fCons (fBlt bLen (fCons (fVar 1) (fNil))) (fNil))))))

theorem cMul_r (i : Int) {j : Int} (h1 : -(2 ^ 64) < j) (h2 : j < 2 ^ 64) : cMul i j = true := by
  unfold cMul
  rw [decide_eq_true h1, decide_eq_true h2]
  simp
@[simp] theorem cMul_lcg (i : Int) : cMul i 6364136223846793005 = true := cMul_r i (by omega) (by omega)
@[simp] theorem dMul_int (i j : Int) (st : Store) : dMul (.int i) (.int j) st = if cMul i j = true then some (.int (i * j)) else none := rfl
@[simp] theorem dAdd_int (i j : Int) (st : Store) : dAdd (.int i) (.int j) st = some (.int (i + j)) := rfl
@[simp] theorem dSub_int (i j : Int) (st : Store) : dSub (.int i) (.int j) st = some (.int (i - j)) := rfl
theorem dPow_int {i j : Int} (h : cPow i j = true) (st : Store) : dPow (.int i) (.int j) st = some (.int (i ^ j.toNat)) := by
  show (if cPow i j = true then some (D.int (i ^ j.toNat)) else none) = _
  rw [if_pos h]
theorem dMod_int {i j : Int} (h : 0 < j) (st : Store) : dMod (.int i) (.int j) st = some (.int (i % j)) := by
  have h0 : decide (j ≠ 0) = true := decide_eq_true (by omega)
  show (if decide (j ≠ 0) = true then some (D.int (i.fmod j)) else none) = _
  rw [if_pos h0, Int.fmod_eq_emod_of_nonneg _ (by omega)]
theorem dFdiv_int {i j : Int} (h : 0 < j) (h2 : j < 1073741824) (st : Store) : dFdiv (.int i) (.int j) st = some (.int (i / j)) := by
  have h0 : cDiv i j = true := by
    unfold cDiv
    rw [decide_eq_true (show j ≠ 0 by omega), decide_eq_true (show j.natAbs < 1073741824 by omega)]
    rfl
  show (if cDiv i j = true then some (D.int (i.fdiv j)) else none) = _
  rw [if_pos h0, Int.fdiv_eq_ediv_of_nonneg _ (by omega)]
theorem take_ok {st : Store} {n : Nat} {m : Int} (h : Fd n st) (hm : 0 < m) (hm2 : m < 1073741824) :
    Wp (L_take [.ref n, .int m] st) (fun d st' => ∃ r, d = .int r ∧ 0 ≤ r ∧ r < m ∧ Fr n st st') := by
  obtain ⟨a, b, h1, h2, h3⟩ := h
  have hl := (List.getElem?_eq_some_iff.mp h1).1
  unfold L_take
  rw [wp_fn]
  refine ⟨rfl, ?_⟩
  simp only [wps_seq, wps_if, wpt_cmp, wp_bin, wp_var, wp_con, wps_set, wps_put, wps_ret, wps_nil]
  have hm0 : m ≠ 0 := by omega
  by_cases ha : 0 < a
  · simp [dIdx, lsqOf, h1, cGt, cI, ha, dMod_int hm, dFdiv_int hm hm2, setAt, ixN]
    exact ⟨Int.emod_nonneg _ hm0, Int.emod_lt_of_pos _ hm, Fr.set h1 (Int.ediv_nonneg h2 (by omega)) h3⟩
  · simp [dIdx, lsqOf, h1, cGt, cI, ha, dMod_int hm, dMod_int (show (0 : Int) < 2305843009213693951 by omega), dFdiv_int (show (0 : Int) < 65536 by omega) (by omega), setAt, ixN, List.getElem?_set_self hl]
    exact ⟨Int.emod_nonneg _ hm0, Int.emod_lt_of_pos _ hm, Fr.set h1 h2 (Int.emod_nonneg _ (by omega))⟩

theorem pick_ok {st : Store} {n : Nat} {L : D} {xs : List D} (h : Fd n st) (hL : lsqOf st L = some xs) (hL2 : ∀ st', Fr n st st' → lsqOf st' L = some xs) (hl : lenOf st L = some xs.length) (hi : ∀ (i : Int) st', dIdx L (.int i) st' = (match lsqOf st' L with | some xs => L2.atI xs i | none => none))
    (h0 : 0 < xs.length) (h1 : xs.length < 1073741824) :
    Wp (L_pick [.ref n, L] st) (fun d st' => d ∈ xs ∧ Fr n st st') := by
  unfold L_pick
  rw [wp_fn]
  refine ⟨rfl, ?_⟩
  simp only [wps_ret, wp_bin, wp_var, wp_call, wp_cons, wp_nil, wp_blt]
  simp [bLen, hl]
  refine (take_ok h (m := (xs.length : Int)) (by omega) (by omega)).mono fun d st1 hd => ?_
  obtain ⟨r, rfl, h2, h3, hf⟩ := hd
  rw [hi, hL2 st1 hf]
  obtain ⟨x, e, hx⟩ := atI_of h2 h3
  exact ⟨x, e, hx, hf⟩
/-- a pick among the items of a list by value -/
theorem pick_tl {st : Store} {n : Nat} {xs : List D} (h : Fd n st) (h0 : 0 < xs.length) (h1 : xs.length < 1073741824) : Wp (L_pick [.ref n, .tl xs] st) (fun d st' => d ∈ xs ∧ Fr n st st') :=
  pick_ok h rfl (fun _ _ => rfl) rfl (fun _ _ => rfl) h0 h1
theorem feed_ok {st : Store} {script : D} {ns : List Int} {k : Nat} (hs : lsqOf st script = some (ns.map D.int)) (hlen : lenOf st script = some ns.length) (hi : ∀ (i : Int) st', dIdx script (.int i) st' = (match lsqOf st' script with | some xs => L2.atI xs i | none => none)) (hk : k < 1000) :
    Wp (L_feed [script, .int k] st) (fun d st' => d = .ref st.length ∧ ∃ a b : Int, st' = st ++ [.lst [.int a, .int b]] ∧ 0 ≤ a ∧ 0 ≤ b) := by
  unfold L_feed
  rw [wp_fn]
  refine ⟨rfl, ?_⟩
  have tail : ∀ (cell : Int), Wp (sSeq (sSet 3 (fBlt bMax (fCons (fCon (.int 0)) (fCons (fBin dSub (fBlt bAbs (fCons (fVar 2) (fNil))) (fBin dPow (fCon (.int 10)) (fCon (.int 18)))) (fNil)))))
      (sSeq (sSet 4 (fBin dMod (fBin dAdd (fBin dAdd (fBin dMul (fVar 2) (fCon (.int 6364136223846793005))) (fBin dMul (fCon (.int 9973)) (fVar 1))) (fCon (.int 1442695040888963407))) (fCon (.int 2305843009213693951))))
      (sRet (fLstS (fCons (fVar 3) (fCons (fVar 4) (fNil)))))) [some script, some (.int k), some (.int cell), none, none] st) (fun o st1 => match o with
        | .rt d => d = .ref st.length ∧ ∃ a b : Int, st1 = st ++ [.lst [.int a, .int b]] ∧ 0 ≤ a ∧ 0 ≤ b
        | .nx _ => D.non = .ref st.length ∧ ∃ a b : Int, st1 = st ++ [.lst [.int a, .int b]] ∧ 0 ≤ a ∧ 0 ≤ b
        | _ => False) := by
    intro cell
    have hp : dPow (.int 10) (.int 18) st = some (.int 1000000000000000000) := dPow_int (by decide) st
    have hm : cMul 9973 (k : Int) = true := by
      unfold cMul
      rw [decide_eq_true (show -(2 ^ 64 : Int) < 9973 by omega), decide_eq_true (show (9973 : Int) < 2 ^ 64 by omega)]
      rfl
    simp only [wps_seq, wps_set, wp_blt, wp_cons, wp_con, wp_bin, wp_var, wp_nil, wps_ret, wp_lstS]
    simp [bAbs, bMax, hp, hm, dMod_int (show (0 : Int) < 2305843009213693951 by omega)]
    refine ⟨_, _, ⟨rfl, rfl⟩, ?_, Int.emod_nonneg _ (by omega)⟩
    repeat' split
    all_goals omega
  have hB : (fnD 2 5 : FS → FnF) = fnD 2 5 := rfl
  simp only [wps_seq (B := sSet 2 _), wps_set, wp_ite, wpt_cmp, wp_var, wp_blt, wp_cons, wp_nil]
  simp [bLen, hlen, cLt, cI, -Bool.exists_bool]
  by_cases hkl : (k : Int) < ns.length
  · have hk2 : k < ns.length := by omega
    simp [hk2, hi, hs]
    have : L2.atI (ns.map D.int) (k : Int) = some (.int ns[k]) := by
      unfold L2.atI ixN
      simp [hk2]
    rw [this]
    simpa using tail _
  · have hk2 : ¬ k < ns.length := by omega
    have hm2 : cMul 71 (k : Int) = true := by
      unfold cMul
      rw [decide_eq_true (show -(2 ^ 64 : Int) < 71 by omega), decide_eq_true (show (71 : Int) < 2 ^ 64 by omega)]
      rfl
    simp [hk2, hm2]
    simpa using tail _
end Vm
namespace Vm
open PySem PySem.Spec PyProof.Rows L2

/-! ### data of a fair size -/
mutual
def small : D → Bool
  | .non => true
  | .bl _ => true
  | .int _ => true
  | .str x => PyData.strOk x && decide (x.length ≤ 1000)
  | .tup ds => smalls ds && decide (ds.length ≤ 1000)
  | .tl ds => smalls ds && decide (ds.length ≤ 1000)
  | .sl ds => smalls ds && decide (ds.length ≤ 1000)
  | .ref _ => false
  | .ty _ => false
def smalls : List D → Bool
  | [] => true
  | d :: ds => small d && smalls ds
end
mutual
theorem okd_small : ∀ d : D, small d = true → okd d = true
  | .non, _ => rfl
  | .bl _, _ => rfl
  | .int _, _ => rfl
  | .str x, h => by simp only [small, Bool.and_eq_true] at h; exact h.1
  | .tup ds, h => by simp only [small, Bool.and_eq_true] at h; simp only [okd]; exact okds_small ds h.1
  | .tl ds, h => by simp only [small, Bool.and_eq_true] at h; simp only [okd]; exact okds_small ds h.1
  | .sl ds, h => by simp only [small, Bool.and_eq_true] at h; simp only [okd]; exact okds_small ds h.1
  | .ref _, h => by simp [small] at h
  | .ty _, h => by simp [small] at h
theorem okds_small : ∀ ds : List D, smalls ds = true → okds ds = true
  | [], _ => rfl
  | d :: ds, h => by
    simp only [smalls, Bool.and_eq_true] at h
    simp only [okds, okd_small d h.1, okds_small ds h.2, Bool.and_self]
end
theorem smalls_mem : ∀ {ds : List D} {d : D}, smalls ds = true → d ∈ ds → small d = true
  | e :: ds, d, h, hm => by
    simp only [smalls, Bool.and_eq_true] at h
    rcases List.mem_cons.mp hm with rfl | hm
    · exact h.1
    · exact smalls_mem h.2 hm
theorem smalls_of : ∀ {ds : List D}, (∀ d ∈ ds, small d = true) → smalls ds = true
  | [], _ => rfl
  | d :: ds, h => by
    simp only [smalls, h d List.mem_cons_self, smalls_of fun x hx => h x (List.mem_cons_of_mem _ hx), Bool.and_self]
theorem deps_mem : ∀ {ds : List D} {d : D}, d ∈ ds → dep d ≤ deps ds
  | e :: ds, d, hm => by
    simp only [deps]
    rcases List.mem_cons.mp hm with rfl | hm
    · omega
    · have := deps_mem hm; omega
theorem deps_of {n : Nat} : ∀ {ds : List D}, (∀ d ∈ ds, dep d ≤ n) → deps ds ≤ n
  | [], _ => Nat.zero_le _
  | d :: ds, h => by
    simp only [deps]
    have h1 := h d List.mem_cons_self
    have h2 := deps_of fun x hx => h x (List.mem_cons_of_mem _ hx)
    omega
theorem wp_eq {α : Type} {r : Option (α × Store)} {x : α} {st : Store} (h : Wp r fun a s => a = x ∧ s = st) : r = some (x, st) := by
  obtain ⟨a, s, e, rfl, rfl⟩ := h
  exact e
@[simp] theorem deref_small {st : Store} {d : D} (h : small d = true) : deref st d = d := by
  cases d <;> simp_all [deref, small]
/-! texts -/
def isS (s : Str) : D → Bool
  | .str x => x == s
  | _ => false
theorem deq_str (d : D) (s : Str) : deq d (.str s) = isS s d := by
  cases d <;> simp [deq, pd, PyData.eqv, isS]
theorem str_deq (d : D) (s : Str) : deq (.str s) d = isS s d := by
  cases d <;> simp [deq, pd, PyData.eqv, isS]
  rename_i x
  exact Bool.beq_comm

/-! ### names -/
def azS (c : Nat) : Bool := decide (97 ≤ c) && decide (c ≤ 122)
def isNm : D → Bool
  | .str x => decide (1 ≤ x.length) && decide (x.length ≤ 8) && x.cps.toList.all azS
  | _ => false
def isWh : D → Bool
  | .int _ => true
  | _ => false
def isTm : D → Bool
  | .int i => decide (-999999999 ≤ i) && decide (i ≤ 999999999)
  | d => isNm d
def L_is_whole : FnF := fnD 1 1 (sRet (fAnd (fIsi .int (fVar 0)) (fNot (fIsi .bl (fVar 0)))))
noncomputable def L_is_name : FnF := fnD 1 2 (sSeq (sIf (tOrF (tNotF (tTru (fIsi .str (fVar 0)))) (tNotF (tChainF cLe cLe (fCon (.int 1)) (fBlt bLen (fCons (fVar 0) (fNil))) (fCon (.int 8))))) (sRet (fCon (.bl false))) (sNil))
  (sRet (fBlt bAll (fCons (fComp [1] (iVal (fVar 0)) (gSet 1) (tYesF) (fChain cLe cLe (fCon (.str "a")) (fVar 1) (fCon (.str "z")))) (fNil)))))
noncomputable def L_is_term : FnF := fnD 1 1 (sRet (fOr (fCall 1 L_is_name (fCons (fVar 0) (fNil))) (fAnd (fCall 1 L_is_whole (fCons (fVar 0) (fNil))) (fChain cLe cLe (fNeg (fCon (.int 999999999))) (fVar 0) (fCon (.int 999999999))))))
theorem is_whole_eq {d : D} {st : Store} (h : small d = true) : L_is_whole [d] st = some (.bl (isWh d), st) := by
  apply wp_eq
  unfold L_is_whole
  rw [wp_fn]
  refine ⟨rfl, ?_⟩
  cases d <;> simp [small] at h <;> simp [tagOf, isTag, tru, isWh, -Bool.exists_bool]
theorem lt1 (a b : Nat) : ([a] < [b]) ↔ a < b := by
  rw [List.cons_lt_cons_iff]
  simp
theorem az_le (c : Nat) : (!decide ([c] < [97])) = decide (97 ≤ c) ∧ (!decide ([122] < [c])) = decide (c ≤ 122) := by
  constructor
  · rw [decide_eq_decide.mpr (lt1 c 97), ← decide_not]
    exact decide_eq_decide.mpr (by omega)
  · rw [decide_eq_decide.mpr (lt1 122 c), ← decide_not]
    exact decide_eq_decide.mpr (by omega)
theorem chain_az (c : Nat) (env : En) (st : Store) (h : env[1]? = some (some (.str ⟨#[c]⟩))) : fChain cLe cLe (fCon (.str "a")) (fVar 1) (fCon (.str "z")) env st = some (.bl (azS c), st) := by
  apply wp_eq
  have e1 : ("a" : Str).cps.toList = [97] := by decide
  have e2 : ("z" : Str).cps.toList = [122] := by decide
  simp only [wp_chain, wp_con, wp_var, h, Option.some.injEq, exists_eq_left', cLe, cI, e1, e2, (az_le c).1, (az_le c).2]
  unfold azS
  by_cases h1 : 97 ≤ c <;> simp [h1]
theorem boolsOf_map {α : Type} (f : α → Bool) : ∀ xs : List α, boolsOf (xs.map fun x => .bl (f x)) = some (xs.map f)
  | [] => rfl
  | x :: xs => by simp [boolsOf, boolsOf_map f xs]
theorem all_id {α : Type} (f : α → Bool) (xs : List α) : (xs.map f).all id = xs.all f := by
  rw [List.all_map]
  rfl
theorem name_loop {z : Str} {st : Store} {env : En} (hz : z.cps.size ≤ 16777216) (he : env[1]? ≠ none) (h0 : env[0]? = some (some (.str z))) :
    fBlt bAll (fCons (fComp [1] (iVal (fVar 0)) (gSet 1) (tYesF) (fChain cLe cLe (fCon (.str "a")) (fVar 1) (fCon (.str "z")))) (fNil)) env st = some (.bl (z.cps.toList.all azS), st) := by
  apply wp_eq
  simp only [wp_blt, wp_cons, wp_nil, wp_comp, wpi_val, wp_var, h0, Option.some.injEq, exists_eq_left', itemsOf]
  refine ⟨by simpa using hz, ?_⟩
  have hl : 1 < env.length := by
    rcases Nat.lt_or_ge 1 env.length with h | h
    · exact h
    · exact absurd (List.getElem?_eq_none h) he
  rw [compN_map (f := fun d => match d with | .str x => .bl (azS (x.cps.getD 0 0)) | _ => .non)]
  · simp only [wp_some, bAll, lsqOf]
    rw [List.map_map]
    have : (z.cps.toList.map ((fun d => match d with | .str x => D.bl (azS (x.cps.getD 0 0)) | _ => .non) ∘ fun c => D.str ⟨#[c]⟩)) = z.cps.toList.map fun c => .bl (azS c) := by
      apply List.map_congr_left
      intro c _
      rfl
    rw [this, boolsOf_map]
    simp only [all_id, wp_some, and_self]
  · intro d hd
    obtain ⟨c, _, rfl⟩ := List.mem_map.mp hd
    refine ⟨(wipeE env [1]).set 1 (some (.str ⟨#[c]⟩)), rfl, ?_⟩
    have : ((wipeE env [1]).set 1 (some (D.str ⟨#[c]⟩)))[1]? = some (some (.str ⟨#[c]⟩)) := by
      simp [wipeE, hl]
    rw [chain_az c _ st this]
    rfl
theorem is_name_eq {d : D} {st : Store} (h : small d = true) : L_is_name [d] st = some (.bl (isNm d), st) := by
  apply wp_eq
  unfold L_is_name
  rw [wp_fn]
  refine ⟨rfl, ?_⟩
  cases d with
  | str z =>
    simp only [small, Bool.and_eq_true, decide_eq_true_eq] at h
    have hz : z.cps.size ≤ 16777216 := by have := h.2; unfold Str.length at this; omega
    have hz2 : z.length ≤ 16777216 := by have := h.2; omega
    have key := name_loop (z := z) (st := st) (env := [some (.str z), none]) hz (by simp) rfl
    generalize fBlt bAll (fCons (fComp [1] (iVal (fVar 0)) (gSet 1) (tYesF) (fChain cLe cLe (fCon (.str "a")) (fVar 1) (fCon (.str "z")))) (fNil)) = Fx at key ⊢
    simp only [wps_seq, wps_if, wpt_or, wpt_not, wpt_tru, wp_isi, wp_var, wpt_chain, wp_chain, wp_con, wp_blt, wp_cons, wp_nil, wps_ret, wps_nil]
    simp [tagOf, isTag, tru, bLen, lenOf, hz2, cLe, cI, key, -Bool.exists_bool]
    by_cases h1 : 1 ≤ z.length
    · by_cases h2 : z.length ≤ 8
      · simp [h1, h2, show (z.length : Int) ≤ 8 by omega, show (1 : Int) ≤ z.length by omega, isNm, key]
      · simp [h1, h2, show ¬ (z.length : Int) ≤ 8 by omega, show (1 : Int) ≤ z.length by omega, isNm]
    · simp [h1, show ¬ (1 : Int) ≤ z.length by omega, isNm]
  | _ => simp [small] at h <;> simp [tagOf, isTag, tru, isNm, -Bool.exists_bool]
end Vm
namespace Vm
open PySem PySem.Spec PyProof.Rows L2
theorem is_term_eq {d : D} {st : Store} (h : small d = true) : L_is_term [d] st = some (.bl (isTm d), st) := by
  apply wp_eq
  unfold L_is_term
  rw [wp_fn]
  refine ⟨rfl, ?_⟩
  have e1 := is_name_eq (st := st) h
  have e2 := is_whole_eq (st := st) h
  cases d with
  | int i =>
    simp [e1, e2, tru, isNm, isWh, cLe, cI, isTm, -Bool.exists_bool]
    by_cases h1 : -999999999 ≤ i <;> simp [h1]
  | str x =>
    simp [e1, e2, tru, isWh, isTm, -Bool.exists_bool]
  | _ => simp [small] at h <;> simp [e1, e2, tru, isNm, isWh, isTm, -Bool.exists_bool]
def isPc : D → Bool
  | .tup [k, t] => if isS "one" k = true then isTm t else (isS "row" k || isS "back" k) && isNm t
  | _ => false
def isWd : D → Bool
  | .tup ps => decide (ps.length ≤ 6) && ps.all isPc
  | _ => false
noncomputable def L_is_piece : FnF := fnD 1 3 (sSeq (sIf (tOrF (tNotF (tTru (fIsi .tup (fVar 0)))) (tCmpF cNe (fBlt bLen (fCons (fVar 0) (fNil))) (fCon (.int 2)))) (sRet (fCon (.bl false))) (sNil))
  (sSeq (sAsg (gTupF 2 (gConsF (gSet 1) (gConsF (gSet 2) (gNilF)))) (fVar 0))
  (sSeq (sIf (tCmpF cEq (fVar 1) (fCon (.str "one"))) (sRet (fCall 1 L_is_term (fCons (fVar 2) (fNil)))) (sNil))
  (sRet (fAnd (fCmp cIn (fVar 1) (fTup (fCons (fCon (.str "row")) (fCons (fCon (.str "back")) (fNil))))) (fCall 1 L_is_name (fCons (fVar 2) (fNil))))))))
theorem okEq_str {d : D} (h : small d = true) (s : Str) (hs : PyData.strOk s = true) : okEq d (.str s) = true := by
  unfold okEq
  simp [okd_small d h, okd, hs, dep]
theorem cEq_str {d : D} {st : Store} (h : small d = true) (s : Str) (hs : PyData.strOk s = true) : cEq d (.str s) st = some (isS s d) := by
  unfold cEq
  rw [deref_small h]
  show (if okEq d (.str s) = true then some (deq d (.str s)) else none) = _
  rw [if_pos (okEq_str h s hs), deq_str]
theorem cIn_strs {d : D} {st : Store} (h : small d = true) (ss : List Str) (hs : ∀ s ∈ ss, PyData.strOk s = true) : cIn d (.tup (ss.map D.str)) st = some (ss.any fun s => isS s d) := by
  have hok : okds (ss.map D.str) = true := by
    induction ss with
    | nil => rfl
    | cons s ss ih => simp [okds, okd, hs s List.mem_cons_self, ih fun x hx => hs x (List.mem_cons_of_mem _ hx)]
  have hdp : deps (ss.map D.str) = 0 := by
    have := deps_of (n := 0) (ds := ss.map D.str) (by intro x hx; obtain ⟨s, _, rfl⟩ := List.mem_map.mp hx; simp [dep])
    omega
  have e := deref_small (st := st) h
  unfold cIn isIn
  rw [show deref st (.tup (ss.map D.str)) = .tup (ss.map D.str) from rfl]
  simp only [e, hok, okd_small d h, hdp]
  simp [str_deq, Function.comp_def]
theorem is_piece_eq {d : D} {st : Store} (h : small d = true) : L_is_piece [d] st = some (.bl (isPc d), st) := by
  apply wp_eq
  unfold L_is_piece
  rw [wp_fn]
  refine ⟨rfl, ?_⟩
  cases d with
  | tup xs =>
    have hi : ∀ a b : Int, cNe (.int a) (.int b) st = some (!decide (a = b)) := by
      intro a b
      unfold cNe
      show (if okEq (.int a) (.int b) = true then some (!deq (.int a) (.int b)) else none) = _
      have : okEq (.int a) (.int b) = true := by simp [okEq, okd, dep]
      rw [if_pos this]
      congr 1
    by_cases hl : xs.length = 2
    · obtain ⟨k, t, rfl⟩ : ∃ k t, xs = [k, t] := by
        match xs, hl with
        | [k, t], _ => exact ⟨k, t, rfl⟩
      simp only [small, smalls, Bool.and_eq_true] at h
      obtain ⟨⟨hk, ht, _⟩, _⟩ := h
      have e1 := cEq_str (st := st) hk "one" (by decide +kernel)
      have e2 := cIn_strs (st := st) hk ["row", "back"] (by decide +kernel)
      simp [tagOf, isTag, tru, bLen, lenOf, hi, gTupF, gConsF, gSet, gNilF, e1, is_term_eq ht, is_name_eq ht, -Bool.exists_bool]
      by_cases h1 : isS "one" k = true
      · simp [h1, isPc]
      · simp only [List.map_cons, List.map_nil] at e2
        simp [h1, isPc, e2, -Bool.exists_bool]
        by_cases h2 : isS "row" k = true
        · simp [h2]
        · by_cases h3 : isS "back" k = true
          · simp [h2, h3]
          · simp [h2, h3]
    · have hl2 : ¬ ((xs.length : Int) = 2) := by omega
      have : isPc (.tup xs) = false := by
        unfold isPc
        split
        · rename_i e; cases e; exact absurd rfl hl
        · rfl
      simp [tagOf, isTag, tru, bLen, lenOf, hi, hl2, this, -Bool.exists_bool]
  | _ => simp [small] at h <;> simp [tagOf, isTag, tru, isPc, -Bool.exists_bool]
noncomputable def L_is_word : FnF := fnD 1 2 (sSeq (sIf (tOrF (tNotF (tTru (fIsi .tup (fVar 0)))) (tCmpF cGt (fBlt bLen (fCons (fVar 0) (fNil))) (fCon (.int 6)))) (sRet (fCon (.bl false))) (sNil))
  (sRet (fBlt bAll (fCons (fComp [1] (iVal (fVar 0)) (gSet 1) (tYesF) (fCall 1 L_is_piece (fCons (fVar 1) (fNil)))) (fNil)))))
/-- all([f(x) for x in t]) with x in slot 1 of two -/
theorem all_loop {f : FnF} {p : D → Bool} {st : Store} {xs : List D} {env : En} {i : Nat} {v : D} (hv : env[i]? = some (some v)) (hit : itemsOf st v = some (xs, fun _ => True)) (hl : 1 < env.length) (hx : xs.length ≤ 16777216) (hf : ∀ d ∈ xs, f [d] st = some (.bl (p d), st)) :
    fBlt bAll (fCons (fComp [1] (iVal (fVar i)) (gSet 1) (tYesF) (fCall 1 f (fCons (fVar 1) (fNil)))) (fNil)) env st = some (.bl (xs.all p), st) := by
  apply wp_eq
  simp only [wp_blt, wp_cons, wp_nil, wp_comp, wpi_val, wp_var, hv, hit, Option.some.injEq, exists_eq_left']
  refine ⟨hx, ?_⟩
  rw [compN_map (f := fun d => .bl (p d))]
  · simp only [wp_some, bAll, lsqOf, boolsOf_map, all_id, and_self]
  · intro d hd
    refine ⟨_, rfl, ?_⟩
    apply wp_eq
    simp [wipeE, hl, hf d hd]
theorem is_word_eq {d : D} {st : Store} (h : small d = true) : L_is_word [d] st = some (.bl (isWd d), st) := by
  apply wp_eq
  unfold L_is_word
  rw [wp_fn]
  refine ⟨rfl, ?_⟩
  cases d with
  | tup xs =>
    simp only [small, Bool.and_eq_true, decide_eq_true_eq] at h
    have key := all_loop (f := L_is_piece) (p := isPc) (st := st) (xs := xs) (env := [some (.tup xs), none]) (i := 0) (v := .tup xs) rfl rfl (by simp) (by omega) fun d hd => is_piece_eq (smalls_mem h.1 hd)
    generalize fBlt bAll (fCons (fComp [1] (iVal (fVar 0)) (gSet 1) (tYesF) (fCall 1 L_is_piece (fCons (fVar 1) (fNil)))) (fNil)) = Fx at key ⊢
    simp [tagOf, isTag, tru, bLen, lenOf, cGt, cI, key, -Bool.exists_bool]
    by_cases hl : xs.length ≤ 6
    · simp [show ¬ (6 : Int) < xs.length by omega, isWd, hl, key]
    · simp [show (6 : Int) < xs.length by omega, isWd, hl]
  | _ => simp [small] at h <;> simp [tagOf, isTag, tru, isWd, -Bool.exists_bool]
end Vm
namespace Vm
open PySem PySem.Spec PyProof.Rows L2
/-! ### the laws' own looks -/
noncomputable def W_is_name : FnF := fnD 1 2 (sSeq (sIf (tOrF (tNotF (tTru (fIsi .str (fVar 0)))) (tOrF (tCmpF cEq (fVar 0) (fCon (.str ""))) (tCmpF cGt (fBlt bLen (fCons (fVar 0) (fNil))) (fCon (.int 8))))) (sRet (fCon (.bl false))) (sNil))
  (sRet (fCmp cEq (fComp [1] (iVal (fVar 0)) (gSet 1) (tCmpF cNotIn (fVar 1) (fCon (.str "abcdefghijklmnopqrstuvwxyz"))) (fVar 1)) (fLst (fNil)))))
theorem az_in (c : Nat) : decide (c ∈ ("abcdefghijklmnopqrstuvwxyz" : Str).cps.toList) = azS c := by
  have e : ("abcdefghijklmnopqrstuvwxyz" : Str).cps.toList = [97, 98, 99, 100, 101, 102, 103, 104, 105, 106, 107, 108, 109, 110, 111, 112, 113, 114, 115, 116, 117, 118, 119, 120, 121, 122] := by decide +kernel
  rw [e]
  unfold azS
  rw [← Bool.decide_and]
  apply decide_eq_decide.mpr
  simp only [List.mem_cons, List.not_mem_nil, or_false]
  omega
theorem cNotIn_az (c : Nat) (st : Store) : cNotIn (.str ⟨#[c]⟩) (.str "abcdefghijklmnopqrstuvwxyz") st = some (!azS c) := by
  have : isIn (.str ⟨#[c]⟩) (.str "abcdefghijklmnopqrstuvwxyz") st = some (azS c) := by
    unfold isIn
    rw [show deref st (.str "abcdefghijklmnopqrstuvwxyz") = .str "abcdefghijklmnopqrstuvwxyz" from rfl]
    simp only [show (#[c] : Array Nat).size = 1 from rfl, if_true]
    rw [← az_in c]
    rfl
  unfold cNotIn
  rw [this]
theorem str_empty (z : Str) : (z == ("" : Str)) = decide (z.length = 0) := by
  by_cases h : z.length = 0
  · have : z = ("" : Str) := by
      apply str_ext
      have h' : z.cps.toList.length = 0 := by simpa [Str.length] using h
      rw [List.length_eq_zero_iff.mp h']
      decide +kernel
    rw [this]
    decide +kernel
  · rw [decide_eq_false h]
    apply beq_eq_false_iff_ne.mpr
    rintro rfl
    exact h (by decide +kernel)
theorem empty_filter {α : Type} (p : α → Bool) : ∀ xs : List α, (xs.filter p).isEmpty = xs.all fun x => !p x
  | [] => rfl
  | x :: xs => by
    rw [List.filter_cons, List.all_cons]
    cases h : p x
    · simp [empty_filter p xs]
    · simp
theorem W_name_loop {z : Str} {st : Store} {env : En} (hz : z.cps.size ≤ 16777216) (hok : PyData.strOk z = true) (hl : 1 < env.length) (h0 : env[0]? = some (some (.str z))) :
    fCmp cEq (fComp [1] (iVal (fVar 0)) (gSet 1) (tCmpF cNotIn (fVar 1) (fCon (.str "abcdefghijklmnopqrstuvwxyz"))) (fVar 1)) (fLst (fNil)) env st = some (.bl (z.cps.toList.all azS), st) := by
  apply wp_eq
  simp only [wp_cmp, wp_comp, wpi_val, wp_var, h0, Option.some.injEq, exists_eq_left', itemsOf]
  refine ⟨by simpa using hz, ?_⟩
  rw [compN_filter (f := id) (p := fun d => match d with | .str x => !azS (x.cps.getD 0 0) | _ => false)]
  · simp only [wp_some, wp_lst, wp_nil, List.map_id]
    refine ⟨Nat.zero_le _, ?_⟩
    have hall : ∀ d ∈ (z.cps.toList.map fun c => D.str ⟨#[c]⟩).filter (fun d => match d with | .str x => !azS (x.cps.getD 0 0) | _ => false), okd d = true := by
      intro d hd
      have hd' := (List.mem_filter.mp hd).1
      obtain ⟨c, hc, rfl⟩ := List.mem_map.mp hd'
      unfold PyData.strOk at hok
      have := Array.all_eq_true'.mp hok c (by simpa using hc)
      simp only [okd, PyData.strOk]
      simpa using this
    generalize hF : (z.cps.toList.map fun c => D.str ⟨#[c]⟩).filter (fun d => match d with | .str x => !azS (x.cps.getD 0 0) | _ => false) = ys at hall
    have hoks : ∀ ys : List D, (∀ d ∈ ys, okd d = true) → okds ys = true := by
      intro ys
      induction ys with
      | nil => intro _; rfl
      | cons d ys ih => intro h; simp [okds, h d List.mem_cons_self, ih fun x hx => h x (List.mem_cons_of_mem _ hx)]
    have e : cEq (.tl ys) (.tl []) st = some (deq (.tl ys) (.tl [])) := by
      unfold cEq
      show (if okEq (.tl ys) (.tl []) = true then some (deq (.tl ys) (.tl [])) else none) = _
      rw [if_pos]
      unfold okEq
      simp [okd, okds, hoks ys hall, dep, deps]
    refine ⟨_, e, ?_⟩
    simp only [D.bl.injEq, and_true]
    have h1 : deq (.tl ys) (.tl []) = ys.isEmpty := by
      cases ys <;> simp [deq, pd, pds, PyData.eqv, PyData.eqvAll]
    rw [h1, ← hF, empty_filter, List.all_map]
    congr 1
    funext c
    simp
  · intro d hd
    obtain ⟨c, _, rfl⟩ := List.mem_map.mp hd
    refine ⟨(wipeE env [1]).set 1 (some (.str ⟨#[c]⟩)), rfl, ?_, fun _ => ?_⟩
    · apply wp_eq
      simp [wipeE, hl, cNotIn_az]
    · apply wp_eq
      simp [wipeE, hl]
theorem W_is_name_eq {d : D} {st : Store} (h : small d = true) : W_is_name [d] st = some (.bl (isNm d), st) := by
  apply wp_eq
  unfold W_is_name
  rw [wp_fn]
  refine ⟨rfl, ?_⟩
  cases d with
  | str z =>
    have e0 := cEq_str (st := st) h "" (by decide +kernel)
    simp only [small, Bool.and_eq_true, decide_eq_true_eq] at h
    have hz : z.cps.size ≤ 16777216 := by have := h.2; unfold Str.length at this; omega
    have hz2 : z.length ≤ 16777216 := by have := h.2; omega
    have key := W_name_loop (z := z) (st := st) (env := [some (.str z), none]) hz h.1 (by simp) rfl
    generalize fCmp cEq (fComp [1] (iVal (fVar 0)) (gSet 1) (tCmpF cNotIn (fVar 1) (fCon (.str "abcdefghijklmnopqrstuvwxyz"))) (fVar 1)) (fLst (fNil)) = Fx at key ⊢
    simp [tagOf, isTag, tru, bLen, lenOf, hz2, cGt, cI, key, e0, isS, str_empty, -Bool.exists_bool]
    by_cases h1 : z.length = 0
    · simp [h1, isNm]
    · by_cases h2 : z.length ≤ 8
      · simp [h1, h2, show ¬ (8 : Int) < z.length by omega, show 1 ≤ z.length by omega, isNm, key]
      · simp [h1, h2, show (8 : Int) < z.length by omega, isNm]
  | _ => simp [small] at h <;> simp [tagOf, isTag, tru, isNm, -Bool.exists_bool]
noncomputable def W_is_term : FnF := fnD 1 1 (sRet (fOr (fCall 1 W_is_name (fCons (fVar 0) (fNil))) (fAnd (fCall 1 L_is_whole (fCons (fVar 0) (fNil))) (fChain cLt cLt (fNeg (fBin dPow (fCon (.int 10)) (fCon (.int 9)))) (fVar 0) (fBin dPow (fCon (.int 10)) (fCon (.int 9)))))))
theorem W_is_term_eq {d : D} {st : Store} (h : small d = true) : W_is_term [d] st = some (.bl (isTm d), st) := by
  apply wp_eq
  unfold W_is_term
  rw [wp_fn]
  refine ⟨rfl, ?_⟩
  have e1 := W_is_name_eq (st := st) h
  have e2 := is_whole_eq (st := st) h
  have hp : ∀ st, dPow (.int 10) (.int 9) st = some (.int 1000000000) := fun st => dPow_int (by decide) st
  cases d with
  | int i =>
    simp [e1, e2, tru, isNm, isWh, cLt, cI, isTm, hp, -Bool.exists_bool]
    by_cases h1 : -1000000000 < i
    · simp [h1, show -999999999 ≤ i by omega]
      omega
    · simp [h1, show ¬ -999999999 ≤ i by omega]
  | str x =>
    simp [e1, e2, tru, isWh, isTm, -Bool.exists_bool]
  | _ => simp [small] at h <;> simp [e1, e2, tru, isNm, isWh, isTm, -Bool.exists_bool]
noncomputable def W_is_word : FnF := fnD 1 2 (sSeq (sIf (tOrF (tNotF (tTru (fIsi .tup (fVar 0)))) (tCmpF cGt (fBlt bLen (fCons (fVar 0) (fNil))) (fCon (.int 6)))) (sRet (fCon (.bl false))) (sNil))
  (sSeq (sFor (iVal (fVar 0)) (gSet 1) (sSeq (sIf (tOrF (tNotF (tTru (fIsi .tup (fVar 1)))) (tCmpF cNe (fBlt bLen (fCons (fVar 1) (fNil))) (fCon (.int 2)))) (sRet (fCon (.bl false))) (sNil))
  (sSeq (sIf (tCmpF cNotIn (fBin dIdx (fVar 1) (fCon (.int 0))) (fLst (fCons (fCon (.str "one")) (fCons (fCon (.str "row")) (fCons (fCon (.str "back")) (fNil)))))) (sRet (fCon (.bl false))) (sNil))
  (sIf (tNotF (tIteF (tCmpF cEq (fBin dIdx (fVar 1) (fCon (.int 0))) (fCon (.str "one"))) (tTru (fCall 1 W_is_term (fCons (fBin dIdx (fVar 1) (fCon (.int 1))) (fNil)))) (tTru (fCall 1 W_is_name (fCons (fBin dIdx (fVar 1) (fCon (.int 1))) (fNil)))))) (sRet (fCon (.bl false))) (sNil)))))
  (sRet (fCon (.bl true)))))
theorem cNe_int (a b : Int) (st : Store) : cNe (.int a) (.int b) st = some (!decide (a = b)) := by
  unfold cNe
  show (if okEq (.int a) (.int b) = true then some (!deq (.int a) (.int b)) else none) = _
  have : okEq (.int a) (.int b) = true := by simp [okEq, okd, dep]
  rw [if_pos this]
  congr 1
theorem cEq_int (a b : Int) (st : Store) : cEq (.int a) (.int b) st = some (decide (a = b)) := by
  unfold cEq
  show (if okEq (.int a) (.int b) = true then some (deq (.int a) (.int b)) else none) = _
  have : okEq (.int a) (.int b) = true := by simp [okEq, okd, dep]
  rw [if_pos this]
  congr 1
theorem cNotIn_strs {d : D} {st : Store} (h : small d = true) (ss : List Str) (hs : ∀ s ∈ ss, PyData.strOk s = true) : cNotIn d (.tl (ss.map D.str)) st = some (!ss.any fun s => isS s d) := by
  have hok : okds (ss.map D.str) = true := by
    induction ss with
    | nil => rfl
    | cons s ss ih => simp [okds, okd, hs s List.mem_cons_self, ih fun x hx => hs x (List.mem_cons_of_mem _ hx)]
  have hdp : deps (ss.map D.str) = 0 := by
    have := deps_of (n := 0) (ds := ss.map D.str) (by intro x hx; obtain ⟨s, _, rfl⟩ := List.mem_map.mp hx; simp [dep])
    omega
  have e := deref_small (st := st) h
  unfold cNotIn isIn
  rw [show deref st (.tl (ss.map D.str)) = .tl (ss.map D.str) from rfl]
  simp only [e, hok, okd_small d h, hdp]
  simp [str_deq, Function.comp_def]

theorem isPc_two (k t : D) : isPc (.tup [k, t]) = if isS "one" k = true then isTm t else (isS "row" k || isS "back" k) && isNm t := rfl
theorem W_is_word_eq {d : D} {st : Store} (h : small d = true) : W_is_word [d] st = some (.bl (isWd d), st) := by
  apply wp_eq
  unfold W_is_word
  rw [wp_fn]
  refine ⟨rfl, ?_⟩
  cases d with
  | tup xs =>
    simp only [small, Bool.and_eq_true, decide_eq_true_eq] at h
    simp only [wps_seq, wps_if, wpt_or, wpt_not, wpt_tru, wp_isi, wp_var, wpt_cmp, wp_blt, wp_cons, wp_nil, wp_con, wps_ret, wps_nil, wps_for, wpi_val]
    simp [tagOf, isTag, tru, bLen, lenOf, cGt, cI, itemsOf, -Bool.exists_bool, -wps_seq, -wps_if]
    by_cases hl : xs.length ≤ 6
    · simp only [show ¬ (6 : Int) < xs.length by omega, if_false, decide_false, Bool.false_eq_true]
      refine ⟨_, _, ⟨rfl, rfl⟩, ?_⟩
      refine wp_forI (fun j e s => s = st ∧ (∃ b, e = [some (.tup xs), b]) ∧ (xs.take j).all isPc = true) xs 0 [some (.tup xs), none] st _ ⟨rfl, ⟨_, rfl⟩, by simp⟩ (fun j x e s hx hI => ?_) (fun e s hI => ?_)
      · obtain ⟨rfl, ⟨b, rfl⟩, h2⟩ := hI
        refine ⟨trivial, _, rfl, ?_⟩
        have hmem : x ∈ xs := List.mem_of_getElem? hx
        have hsx := smalls_mem h.1 hmem
        have bad : isPc x = false → isWd (.tup xs) = false := fun z => by
          have : xs.all isPc = false := List.all_eq_false.mpr ⟨x, hmem, by simp [z]⟩
          simp [isWd, this]
        have good : isPc x = true → (xs.take (j + 1)).all isPc = true := fun z => by
          rw [List.take_add_one, List.all_append, show (xs.take j).all isPc = true by simpa using h2]
          simp [hx, z]
        have fin : ∀ k : Bool, k = isPc x → (if k = true then (∃ b', [some (D.tup xs), some x] = [some (D.tup xs), b']) ∧ (xs.take (0 + j + 1)).all isPc = true else isWd (.tup xs) = false) := by
          rintro k rfl
          cases z : isPc x with
          | true => exact ⟨⟨_, rfl⟩, by rw [Nat.zero_add]; exact good z⟩
          | false => exact bad z
        have notp : isPc x = false → False ∨ isWd (.tup xs) = false := fun z => .inr (bad z)
        have plain : (∀ ps, x ≠ .tup ps) → isPc x = false := fun z => by
          unfold isPc
          split
          · rename_i k t; exact absurd rfl (z [k, t])
          · rfl
        cases x with
        | tup ps =>
          by_cases hp : ps.length = 2
          · obtain ⟨k, t, rfl⟩ : ∃ k t, ps = [k, t] := by
              match ps, hp with
              | [k, t], _ => exact ⟨k, t, rfl⟩
            simp only [small, smalls, Bool.and_eq_true] at hsx
            obtain ⟨⟨hk, ht, _⟩, _⟩ := hsx
            have e1 := cEq_str (st := s) hk "one" (by decide +kernel)
            have e2 := cNotIn_strs (st := s) hk ["one", "row", "back"] (by decide +kernel)
            simp only [List.map_cons, List.map_nil] at e2
            rw [isPc_two] at fin
            simp [tagOf, isTag, tru, bLen, lenOf, cNe_int, dIdx, e1, e2, W_is_term_eq ht, W_is_name_eq ht, -Bool.exists_bool]
            by_cases z1 : isS "one" k = true
            · have f := fin (isTm t) (by simp [z1])
              by_cases z2 : isTm t = true
              · simp [z1, z2] at f ⊢
                exact f
              · simp [z1, z2] at f ⊢
                exact f
            · by_cases z3 : (isS "row" k || isS "back" k) = true
              · have f := fin (isNm t) (by simp [z1, z3])
                simp only [Bool.or_eq_true] at z3
                by_cases z2 : isNm t = true
                · rcases z3 with z3 | z3 <;> (simp [z1, z2, z3] at f ⊢; exact f)
                · rcases z3 with z3 | z3 <;> (simp [z1, z2, z3] at f ⊢; exact f)
              · have f := fin false (by simp [z1, z3])
                simp only [Bool.or_eq_true, not_or] at z3
                simp [z1, z3.1, z3.2] at f ⊢
                exact f
          · have : isPc (.tup ps) = false := by
              unfold isPc
              split
              · rename_i k t e; cases e; exact absurd rfl hp
              · rfl
            simp [tagOf, isTag, tru, bLen, lenOf, cNe_int, show ¬ (ps.length : Int) = 2 by omega, bad this, -Bool.exists_bool]
        | _ => simp [small] at hsx <;> simp [tagOf, isTag, tru, bad (plain (by intro ps z; cases z)), -Bool.exists_bool]
      · obtain ⟨rfl, ⟨b, rfl⟩, h2⟩ := hI
        refine ⟨trivial, ?_⟩
        rw [Nat.zero_add, List.take_length] at h2
        simp [isWd, hl, h2]
    · simp [show (6 : Int) < xs.length by omega, isWd, hl]
  | _ => simp [small] at h <;> simp [tagOf, isTag, tru, isWd, -Bool.exists_bool]
end Vm
namespace Vm
open PySem PySem.Spec PyProof.Rows L2
local macro_rules | `(tactic| walk_at "vm") => `(tactic| simp only [wps_seq, wps_if, wps_set, wps_ret, wps_nil, wps_for, wps_app, wps_asg, wps_expr, wps_aug, wps_put, wp_bin, wp_con, wp_var, wp_cmp, wp_cons, wp_nil, wp_tup, wp_lst, wp_lstS, wp_neg, wp_or, wp_and, wp_not, wp_ite, wp_oNone, wp_oSome, wp_cut, wp_call, wp_blt, wp_isi, wpt_cmp, wpt_tru, wpt_and, wpt_or, wpt_not, wpt_ite, wpi_val, wpi_range1, wp_some, wp_comp,
  List.map_cons, List.map_nil, List.replicate, List.cons_append, List.nil_append, List.append_nil, List.getElem?_cons_zero, List.getElem?_cons_succ, List.set_cons_zero, List.set_cons_succ, List.length_cons, List.length_nil, Option.some.injEq, exists_eq_left', exists_eq_left, true_and, and_true, dAdd_int, dSub_int, dMul_int, Nat.reduceAdd, Nat.reduceSub, Nat.reduceLeDiff, D.int.injEq, D.ref.injEq, D.tl.injEq, D.tup.injEq, List.cons.injEq, and_self, Nat.reduceEqDiff])
def L_number : FnF := fnD 1 2 (sSeq (sSet 1 (fLst (fCons (fBin dSub (fBin dPow (fCon (.int 10)) (fCon (.int 9))) (fCon (.int 1))) (fCons (fBin dSub (fCon (.int 1)) (fBin dPow (fCon (.int 10)) (fCon (.int 9)))) (fCons (fBin dSub (fCall 2 L_take (fCons (fVar 0) (fCons (fBin dPow (fCon (.int 10)) (fCon (.int 9))) (fNil)))) (fBin dMul (fCon (.int 5)) (fBin dPow (fCon (.int 10)) (fCon (.int 8))))) (fNil))))))
  (sRet (fCall 2 L_pick (fCons (fVar 0) (fCons (fLst (fCons (fCon (.int 0)) (fCons (fCon (.int 1)) (fCons (fNeg (fCon (.int 1))) (fCons (fCall 2 L_take (fCons (fVar 0) (fCons (fCon (.int 9)) (fNil)))) (fCons (fCall 2 L_take (fCons (fVar 0) (fCons (fCon (.int 60)) (fNil)))) (fCons (fCall 2 L_pick (fCons (fVar 0) (fCons (fVar 1) (fNil)))) (fNil)))))))) (fNil))))))
theorem number_ok {st : Store} {n : Nat} (h : Fd n st) : Wp (L_number [.ref n] st) (fun d st' => ∃ i, d = .int i ∧ -999999999 ≤ i ∧ i ≤ 999999999 ∧ Fr n st st') := by
  have p9 : ∀ st, dPow (.int 10) (.int 9) st = some (.int 1000000000) := fun st => dPow_int (by decide) st
  have p8 : ∀ st, dPow (.int 10) (.int 8) st = some (.int 100000000) := fun st => dPow_int (by decide) st
  have hc : cMul 5 100000000 = true := by decide
  unfold L_number
  rw [wp_fn]
  refine ⟨rfl, ?_⟩
  walk_at "vm"
  simp only [p9, Option.some.injEq, exists_eq_left', dSub_int]
  refine (take_ok h (m := 1000000000) (by omega) (by omega)).mono fun d st1 hd => ?_
  obtain ⟨r, rfl, r0, r1, f1⟩ := hd
  simp only [p8, hc, Option.some.injEq, exists_eq_left', dMul_int, dSub_int, if_true]
  refine (take_ok f1.fd (m := 9) (by omega) (by omega)).mono fun d st2 hd => ?_
  obtain ⟨r2, rfl, r20, r21, f2⟩ := hd
  refine (take_ok f2.fd (m := 60) (by omega) (by omega)).mono fun d st3 hd => ?_
  obtain ⟨r3, rfl, r30, r31, f3⟩ := hd
  refine (pick_tl f3.fd (by simp) (by simp)).mono fun d st4 hd => ?_
  obtain ⟨hm, f4⟩ := hd
  refine (pick_tl f4.fd (by simp) (by simp)).mono fun e st5 he => ?_
  obtain ⟨hm5, f5⟩ := he
  have fr := (((f1.trans f2).trans f3).trans f4).trans f5
  have hd : ∃ i, d = .int i ∧ -999999999 ≤ i ∧ i ≤ 999999999 := by
    simp only [List.mem_cons, List.not_mem_nil, or_false] at hm
    rcases hm with rfl | rfl | rfl
    · exact ⟨_, rfl, by omega, by omega⟩
    · exact ⟨_, rfl, by omega, by omega⟩
    · exact ⟨_, rfl, by omega, by omega⟩
  obtain ⟨i, rfl, i0, i1⟩ := hd
  simp only [List.mem_cons, List.not_mem_nil, or_false] at hm5
  rcases hm5 with rfl | rfl | rfl | rfl | rfl | rfl
  all_goals exact ⟨_, rfl, by omega, by omega, fr⟩

theorem small_nm {d : D} (h : isNm d = true) : small d = true := by
  cases d with
  | str x =>
    simp only [isNm, Bool.and_eq_true, decide_eq_true_eq, List.all_eq_true] at h
    simp only [small, PyData.strOk, Bool.and_eq_true, decide_eq_true_eq]
    refine ⟨?_, by omega⟩
    apply Array.all_eq_true'.mpr
    intro c hc
    have := h.2 c (by simpa using hc)
    simp only [azS, Bool.and_eq_true, decide_eq_true_eq] at this
    simp
    omega
  | _ => simp [isNm] at h
noncomputable def L_names : FnF := fnD 2 6 (sSeq (sSet 2 (fCon (.str "abcdefghijklmnopqrstuvwxyz")))
  (sSeq (sSet 3 (fCall 2 L_take (fCons (fVar 0) (fCons (fCon (.int 26)) (fNil)))))
  (sSeq (sSet 4 (fBin dMul (fBin dIdx (fVar 2) (fCall 2 L_take (fCons (fVar 0) (fCons (fCon (.int 26)) (fNil))))) (fCall 2 L_take (fCons (fVar 0) (fCons (fCon (.int 8)) (fNil))))))
  (sRet (fComp [5] (iRange1 (fCons (fVar 1) (fNil))) (gSet 5) (tYesF) (fBin dAdd (fBin dIdx (fVar 2) (fBin dMod (fBin dAdd (fVar 3) (fBin dMul (fCon (.int 5)) (fVar 5))) (fCon (.int 26)))) (fVar 4)))))))
def abc : Str := "abcdefghijklmnopqrstuvwxyz"
theorem abc_cps : abc.cps.toList = [97, 98, 99, 100, 101, 102, 103, 104, 105, 106, 107, 108, 109, 110, 111, 112, 113, 114, 115, 116, 117, 118, 119, 120, 121, 122] := by decide +kernel
theorem abc_len : abc.length = 26 := by decide +kernel
theorem abc_at {i : Int} (h0 : 0 ≤ i) (h1 : i < 26) : ∃ c, azS c = true ∧ ∀ st, dIdx (.str abc) (.int i) st = some (.str ⟨#[c]⟩) := by
  obtain ⟨c, e, hm⟩ := atI_of (xs := abc.cps.toList) h0 (by rw [abc_cps]; simpa using h1)
  refine ⟨c, ?_, fun st => ?_⟩
  · rw [← az_in c]
    exact decide_eq_true hm
  · simp only [dIdx]
    rw [if_pos (by rw [abc_len]; omega), e]
    rfl
theorem names_ok {st : Store} {n : Nat} {m : Nat} (h : Fd n st) (hm : m ≤ 1000) :
    Wp (L_names [.ref n, .int m] st) (fun d st' => ∃ ns, d = .tl ns ∧ ns.length = m ∧ (∀ x ∈ ns, isNm x = true) ∧ Fr n st st') := by
  unfold L_names
  rw [wp_fn]
  refine ⟨rfl, ?_⟩
  rw [show ("abcdefghijklmnopqrstuvwxyz" : Str) = abc from rfl]
  walk_at "vm"
  refine (take_ok h (m := 26) (by omega) (by omega)).mono fun d st1 hd => ?_
  obtain ⟨r, rfl, r0, r1, f1⟩ := hd
  refine (take_ok f1.fd (m := 26) (by omega) (by omega)).mono fun d st2 hd => ?_
  obtain ⟨r2, rfl, r20, r21, f2⟩ := hd
  obtain ⟨c, hc, e1⟩ := abc_at r20 r21
  simp only [e1, Option.some.injEq, exists_eq_left']
  refine (take_ok f2.fd (m := 8) (by omega) (by omega)).mono fun d st3 hd => ?_
  obtain ⟨r3, rfl, r30, r31, f3⟩ := hd
  have e2 : ∀ st, dMul (.str ⟨#[c]⟩) (.int r3) st = some (.str ⟨(List.replicate r3.toNat [c]).flatten.toArray⟩) := by
    intro st
    show (if decide ((⟨#[c]⟩ : Str).length ≤ 1000) && decide (-1000 ≤ r3) && decide (r3 ≤ 1000) then some (D.str ⟨(List.replicate r3.toNat [c]).flatten.toArray⟩) else none) = _
    rw [if_pos]
    simp [Str.length]
    omega
  simp only [e2, Option.some.injEq, exists_eq_left']
  refine ⟨⟨by omega, by omega⟩, by simp [rangeD]; omega, ?_⟩
  have hall : ∀ i : Int, 0 ≤ i → ∃ c', azS c' = true ∧ ∀ st, dIdx (.str abc) (.int ((r + 5 * i) % 26)) st = some (.str ⟨#[c']⟩) := fun i hi => abc_at (Int.emod_nonneg _ (by omega)) (Int.emod_lt_of_pos _ (by omega))
  have hf : ∀ d : D, ∃ v : D, (∃ i : Int, 0 ≤ i ∧ i < 1000 ∧ d = .int i) → (∃ c', azS c' = true ∧ v = .str (⟨#[c']⟩ ++ ⟨(List.replicate r3.toNat [c]).flatten.toArray⟩) ∧ ∀ i, d = .int i → ∀ st, dIdx (.str abc) (.int ((r + 5 * i) % 26)) st = some (.str ⟨#[c']⟩)) := by
    intro d
    by_cases z : ∃ i : Int, 0 ≤ i ∧ i < 1000 ∧ d = .int i
    · obtain ⟨i, hi, hi2, rfl⟩ := z
      obtain ⟨c', h1, h2⟩ := hall i hi
      exact ⟨_, fun _ => ⟨c', h1, rfl, fun j e => by cases e; exact h2⟩⟩
    · exact ⟨.non, fun q => absurd q z⟩
  obtain ⟨f, hf⟩ := Classical.axiomOfChoice hf
  rw [compN_map (f := f)]
  · refine wp_some.mpr ⟨by simp [rangeD], ?_, (f1.trans f2).trans f3⟩
    intro x hx
    obtain ⟨d, hd, rfl⟩ := List.mem_map.mp hx
    obtain ⟨i, hi, rfl⟩ := List.mem_map.mp hd
    have hi' := List.mem_range.mp hi
    obtain ⟨c', h1, h2, _⟩ := hf (.int (0 + (i : Nat))) ⟨_, by omega, by omega, rfl⟩
    rw [h2]
    have ecp : ((⟨#[c']⟩ : Str) ++ ⟨(List.replicate r3.toNat [c]).flatten.toArray⟩).cps.toList = c' :: (List.replicate r3.toNat [c]).flatten := by
      show (#[c'] ++ (List.replicate r3.toNat [c]).flatten.toArray).toList = _
      simp
    have el : ((⟨#[c']⟩ : Str) ++ ⟨(List.replicate r3.toNat [c]).flatten.toArray⟩).length = 1 + r3.toNat := by
      unfold Str.length
      rw [← Array.length_toList, ecp]
      simp
      omega
    simp only [isNm, el, ecp, List.all_cons, h1, Bool.true_and, Bool.and_eq_true, decide_eq_true_eq]
    refine ⟨⟨by omega, by omega⟩, ?_⟩
    apply List.all_eq_true.mpr
    intro y hy
    simp at hy
    rw [hy.2]
    exact hc
  · intro d hd
    obtain ⟨i, hi, rfl⟩ := List.mem_map.mp hd
    have hi' := List.mem_range.mp hi
    obtain ⟨c', h1, h2, h3⟩ := hf (.int (0 + (i : Nat))) ⟨_, by omega, by omega, rfl⟩
    refine ⟨_, rfl, ?_⟩
    apply wp_eq
    have hc5 : cMul 5 (0 + (i : Int)) = true := by
      unfold cMul
      rw [decide_eq_true (show -(2 ^ 64 : Int) < 5 by omega), decide_eq_true (show (5 : Int) < 2 ^ 64 by omega)]
      rfl
    have h3' := h3 _ rfl
    simp only [wipeE, List.set_cons_succ, List.set_cons_zero]
    walk_at "vm"
    simp only [hc5, if_true, Option.some.injEq, exists_eq_left', dAdd_int, dMod_int (show (0 : Int) < 26 by omega), h3', h2]
    refine ⟨_, ?_, rfl⟩
    show (if (⟨#[c']⟩ : Str).length + (⟨(List.replicate r3.toNat [c]).flatten.toArray⟩ : Str).length ≤ 16777216 then some (D.str (⟨#[c']⟩ ++ ⟨(List.replicate r3.toNat [c]).flatten.toArray⟩)) else none) = _
    rw [if_pos]
    simp [Str.length]
    omega
end Vm
namespace Vm
open PySem PySem.Spec PyProof.Rows L2

/-! ### xs[::-1] of tuples and lists -/
theorem rev_adjust (n : Nat) : Builtin.Slice.sliceAdjust none none (-1) (n : Int) = ((n : Int) - 1, -1) := by
  have hneg : ((-1 : Int) < 0) := by omega
  simp [Builtin.Slice.sliceAdjust, hneg]
theorem rev_places (n : Nat) : Builtin.Slice.slicePlaces ((n : Int) - 1) (-1) (-1) = n := by
  have hneg : ¬ ((-1 : Int) > 0) := by omega
  simp only [Builtin.Slice.slicePlaces, hneg, if_false, Int.neg_neg, Int.ediv_one]
  split <;> omega
theorem fm_congr {α β : Type} {f g : α → Option β} : ∀ {l : List α}, (∀ x ∈ l, f x = g x) → l.filterMap f = l.filterMap g
  | [], _ => rfl
  | x :: l, h => by rw [List.filterMap_cons, List.filterMap_cons, h x (List.mem_cons_self ..), fm_congr fun y hy => h y (List.mem_cons_of_mem _ hy)]
theorem rev_pick (xs : Array Value) : ((List.range xs.size).filterMap fun (k : Nat) => xs[(((xs.size : Int) - 1) + (k : Int) * (-1)).toNat]?).toArray = xs.toList.reverse.toArray := by
  have hz := PySem.W.krv_pick xs
  rw [← hz]
  unfold slicePick
  rw [PySem.W.krv_bounds]
  show _ = ((sliceRange ((xs.size : Int) - 1) (-1) (-1)).filterMap (xs[·]?)).toArray
  rw [PySem.W.krv_sliceRange, List.filterMap_map]
  congr 1
  refine fm_congr fun k hk => ?_
  have hk' := List.mem_range.mp hk
  show _ = xs[xs.size - 1 - k]?
  congr 1
  omega
section
variable {prog : Program} {w : World} {A : Around} {E : Value → Shared → Prop} {s : Shared}
theorem rev_applied {sl : Addr} {vl vu vs : Value} {n : Nat} {Q : Int × Int × Nat → Shared → Prop} (hs : s.heap.IsSliceOf sl vl vu vs) (pl : IsPart vl none) (pu : IsPart vu none) (ps : IsPart vs (some (-1)))
    (h : Q ((n : Int) - 1, -1, n) s) : wpAny (model prog w) A (Builtin.Slice.sliceApplied (.ref sl) (pure (n : Int))) Q E s := by
  obtain ⟨ob, gob, cob, dob⟩ := hs
  unfold Builtin.Slice.sliceApplied Builtin.Slice.sliceFields
  refine wpAny_bind (wpAny_bind (wpAny_field gob dob (x := vl) rfl (wpAny_bind (wpAny_field gob dob (x := vu) rfl (wpAny_bind (wpAny_field gob dob (x := vs) rfl (wpAny_pure ?_)))))))
  refine wpAny_bind (HT.slicePart_ ps ?_)
  show wpAny _ _ (if ((-1 : Int) == 0) = true then _ else _) _ _ s
  rw [if_neg (by decide)]
  refine wpAny_bind (HT.slicePart_ pl (wpAny_bind (HT.slicePart_ pu (wpAny_bind (wpAny_pure ?_)))))
  show wpAny _ _ (match Builtin.Slice.sliceAdjust none none (-1) (n : Int) with | (lo, hi) => pure (lo, (-1 : Int), Builtin.Slice.slicePlaces lo hi (-1))) _ _ s
  rw [rev_adjust n]
  show wpAny _ _ (pure ((n : Int) - 1, (-1 : Int), Builtin.Slice.slicePlaces ((n : Int) - 1) (-1) (-1))) _ _ s
  rw [rev_places]
  exact wpAny_pure h
theorem rev_getItem {t sl : Addr} {xs : Array Value} {vl vu vs : Value} {Q : Value → Shared → Prop} (ht : IsTup s.heap t xs) (hs : s.heap.IsSliceOf sl vl vu vs) (pl : IsPart vl none) (pu : IsPart vu none) (ps : IsPart vs (some (-1)))
    (h : Q (.ref s.heap.objs.size) { s with heap := s.heap.push { cls := .type "tuple", data := .seq xs.toList.reverse.toArray } }) (hz : xs.size ≤ sizeLine) :
    wpAny (model prog w) A (getItem (.ref t) (.ref sl)) Q E s := by
  have room : sizeOk (.seq xs.toList.reverse.toArray) := by
    show xs.toList.reverse.toArray.size ≤ sizeLine
    simpa using hz
  have hTy : s.TypeIs (.ref sl) "slice" := by
    obtain ⟨ob, gob, cob, _⟩ := hs
    exact ⟨ob, gob, cob⟩
  unfold getItem
  try with_reducible refine wpAny_holding ?_
  first | refine wpAny_bind (wpAny_pure ?_) | skip
  refine wpAny_bind (wpAny_sequenceKey ht.typeIs (by decide) ?_)
  refine wpAny_bind (wpAny_callSpecial?_slot (name := Str.ofString "__getitem__") ht.typeIs PyProof.Rows.slot_tuple_getitem (wpAny_call_entry PyProof.Rows.slot_tuple_getitem ht.typeIs entry_tuple_getitem ?_ (args_tuple_getitem _ _)))
  show wpAny _ _ (Builtin.Tuple.tupleItemsOf (.ref t) >>= _) _ _ s
  refine wpAny_bind (tupleItemsOf_ ht (wpAny_bind (wpAny_typeOf hTy ?_)))
  rw [if_pos (by decide)]
  refine wpAny_bind (rev_applied hs pl pu ps ?_)
  have hno : ¬ ((((xs.size : Int) - 1) == 0 && (-1 : Int) == 1 && xs.size == xs.size) = true) := by
    simp
  show wpAny _ _ (if (((xs.size : Int) - 1) == 0 && (-1 : Int) == 1 && xs.size == xs.size) = true then _ else _) _ _ s
  rw [if_neg hno, rev_pick]
  first
    | exact wpAny_bind (m := Builtin.Tuple.tupleExact _) (wpAny_newObj_type (wpAny_pure ⟨_, rfl, wpAny_pure h⟩) room)
    | exact wpAny_bind (m := Builtin.Tuple.tupleExact _) (wpAny_newObj_type (wpAny_bind (wpAny_pure (wpAny_pure ⟨_, rfl, wpAny_pure h⟩))) room)
    | exact wpAny_bind (wpAny_bind (m := Builtin.Tuple.tupleExact _) (wpAny_newObj_type (wpAny_pure (wpAny_pure ⟨_, rfl, wpAny_pure h⟩)) room))
    | exact wpAny_bind (wpAny_bind (m := Builtin.Tuple.tupleExact _) (wpAny_newObj_type (wpAny_pure ⟨_, rfl, wpAny_pure h⟩) room))
end
section
variable {X : Cx}
/-- a tuple or a list, its items the other way about, anew -/
def tRevA (K : PySem.W.Frag) (te : TE) : TE := fun σ H Q => te σ H fun x H1 => ∃ a xs, x = .ref a ∧ ((SqL K H1 a xs ∧ ∀ p, H1 p = none → Q (.ref p) (upd H1 p (.lst xs.reverse))) ∨ (SqT K H1 a xs ∧ ∀ p, H1 p = none → Q (.ref p) (upd H1 p (.tup xs.reverse))))
theorem pe_revA {e : Expr} {te : TE} {k : Nat} {p1 p2 p3 pos : Pos} (he : PE X e te) : PE X (.Subscript e (.Slice none none (some (.UnaryOp .USub (.Constant (.int 1) k p1) p2)) p3) pos) (tRevA X.K te) := by
  refine ⟨fun pins s σ H Q I h => ?_⟩
  refine Subscript_ (thn (he.run pins s σ H _ I h) fun v s1 ⟨x, H1, I1, r1, a, xs, ex, q1⟩ => ?_)
  subst ex
  cases r1
  have hm : PO X (some (.UnaryOp .USub (.Constant (.int 1) k p1) p2)) (tPart (tUn (rU fun i => .int (-i)) (tC (.int 1)))) := po_some (pe_un un_neg pe_int)
  refine wpAny_Slice (thn (po_none.run pins s1 σ H1 (fun o G => o = none ∧ G = H1) I1 ⟨rfl, rfl⟩) fun vl s2 ⟨l, H2, I2, pl, el, e2⟩ => ?_)
  subst el e2
  refine thn (po_none.run pins s2 σ H2 (fun o G => o = none ∧ G = H2) I2 ⟨rfl, rfl⟩) fun vu s3 ⟨u, H3, I3, pu, eu, e3⟩ => ?_
  subst eu e3
  refine thn (hm.run pins s3 σ H3 (fun o G => o = some (-1) ∧ G = H3) I3 ⟨1, rfl, -1, rfl, rfl, rfl⟩) fun vs s4 ⟨o, H4, I4, ps, eo, e4⟩ => ?_
  subst eo e4
  have I5 : Inv X pins σ H4 { s4 with heap := s4.heap.push { cls := .type "slice", data := .fields #[vl, vu, vs] } } := I4.kept (t' := s4.toks) fun b ob q => Heap.get?_push_of_some _ q
  show wpAny (model X.prog X.w) X.A (subscriptTail e (.Slice none none (some (.UnaryOp .USub (.Constant (.int 1) k p1) p2)) p3) (.ref a) (.ref s4.heap.objs.size)) (EP X pins σ Q) X.xe { s4 with heap := s4.heap.push { cls := .type "slice", data := .fields #[vl, vu, vs] } }
  rcases q1 with ⟨hx, q⟩ | ⟨hx, q⟩
  · obtain ⟨its, r, ht, hz⟩ := I5.list hx
    have hlen := r.length
    refine tail_any (ops := [.ref a, .ref s4.heap.objs.size]) ht.isList.typeIs (PySem.slot_list_getitem.lookup) ?_ (by with_unfolding_all rfl)
    refine wpAny_getItem_list_slice ht.isList (Heap.IsSliceOf.new _ vl vu vs) pl pu ps (by decide) ?_ (by rw [List.size_toArray]; omega)
    rw [PySem.W.krv_pick]
    exact ⟨.ref _, _, I5.laid (t' := s4.toks) (o := .lst xs.reverse) (fun b ob q => Heap.get?_push_of_some _ q) (Nat.le_refl _) ⟨by rw [List.length_reverse]; exact hz, _, 0, r.reverse, Heap.get?_push_size _ rfl⟩, rfl, q _ (I5.hok.fresh (Nat.le_refl _))⟩
  · obtain ⟨its, r, ht, hz⟩ := I5.tuple hx
    have hlen := r.length
    refine tail_any (ops := [.ref a, .ref s4.heap.objs.size]) ht.typeIs PyProof.Rows.slot_tuple_getitem.lookup ?_ (by with_unfolding_all rfl)
    refine rev_getItem ht (Heap.IsSliceOf.new _ vl vu vs) pl pu ps ?_ (by rw [List.size_toArray]; omega)
    refine ⟨.ref _, _, I5.laid (t' := s4.toks) (o := .tup xs.reverse) (fun b ob q => Heap.get?_push_of_some _ q) (Nat.le_refl _) ?_, rfl, q _ (I5.hok.fresh (Nat.le_refl _))⟩
    exact ⟨by rw [List.length_reverse]; exact hz, _, r.reverse, ⟨_, Heap.get?_push_size _ rfl, rfl, _, rfl⟩⟩
end
end Vm
namespace Vm
open PySem PySem.Spec PyProof.Rows L2
section
variable {X : Cx} {pos : Pos}
/-! ### the same over data -/
theorem Reps.rev {K : PySem.W.Frag} {ρ : Wn} {H : Hp} : ∀ {ds : List D} {vs : List V}, Reps K ρ H ds vs → Reps K ρ H ds.reverse vs.reverse
  | [], vs, r => by rw [show vs = [] from r]; exact rfl
  | d :: ds, vs, r => by
    obtain ⟨v, w, rfl, r1, r2⟩ := r
    rw [List.reverse_cons, List.reverse_cons]
    exact (Reps.rev r2).append ⟨v, [], rfl, r1, rfl⟩
def dRev : D → Store → Option D := fun a st => match a with
  | .tup xs => some (.tup xs.reverse)
  | a => match lsqOf st a with
    | some xs => some (.tl xs.reverse)
    | none => none
def fRev (F : FE) : FE := fun env st => match F env st with
  | some (a, st1) => match dRev a st1 with
    | some d => some (d, st1)
    | none => none
  | none => none
theorem e_rev {a : Expr} {k : Nat} {p1 p2 p3 : Pos} {F : FE} (ha : PE X a (tE X.K F)) : PE X (.Subscript a (.Slice none none (some (.UnaryOp .USub (.Constant (.int 1) k p1) p2)) p3) pos) (tE X.K (fRev F)) := by
  refine peConv (pe_revA ha) fun σ H Q h => ?_
  obtain ⟨ρ, env, st, d, st', S, E, e, p⟩ := h
  unfold fRev at e
  split at e
  · rename_i a st1 e1
    split at e
    · rename_i d' e2
      cases e
      refine tE_bind S E e1 fun ρ1 H1 v L1 S1 R1 E1 => ?_
      have p1 := p.mono L1
      unfold dRev at e2
      split at e2
      · cases e2
        obtain ⟨b, vs, rfl, hs, r⟩ := R1
        exact ⟨b, vs, rfl, .inr ⟨hs, p1.newTup S1 r.rev⟩⟩
      · split at e2
        · rename_i xs e3
          cases e2
          obtain ⟨b, vs, rfl, hs, r⟩ := lsqOf_rep S1 R1 e3
          exact ⟨b, vs, rfl, .inl ⟨hs, p1.newTl S1 r.rev⟩⟩
        · cases e2
    · cases e
  · cases e
/-- a + b of lists, the sum an object of the store -/
def fAddS (F G : FE) : FE := fun env st => match F env st with
  | some (a, st1) => match G env st1 with
    | some (b, st2) => match lstOf st2 a with
      | some xs => match lstOf st2 b with
        | some ys => if xs.length + ys.length ≤ 16777216 then some (.ref st2.length, st2 ++ [.lst (xs ++ ys)]) else none
        | none => none
      | none => none
    | none => none
  | none => none
theorem e_addS {a b : Expr} {F G : FE} (ha : PE X a (tE X.K F)) (hb : PE X b (tE X.K G)) : PE X (.BinOp a .Add b pos) (tE X.K (fAddS F G)) := by
  refine peConv (pe_op op_cat ha hb) fun σ H Q h => ?_
  obtain ⟨ρ, env, st, d, st', S, E, e, p⟩ := h
  unfold fAddS at e
  split at e
  · rename_i a st1 e1
    split at e
    · rename_i b st2 e2
      split at e
      · rename_i xs e3
        split at e
        · rename_i ys e4
          split at e
          · rename_i hl
            cases e
            refine tE_bind S E e1 fun ρ1 H1 v L1 S1 R1 E1 => ?_
            refine tE_bind S1 E1 e2 fun ρ2 H2 w L2 S2 R2 E2 => ?_
            obtain ⟨x, vs, rfl, h1, r1⟩ := lstOf_rep S2 (Rep.mono L2 _ _ R1) e3
            obtain ⟨y, ws, rfl, h2, r2⟩ := lstOf_rep S2 R2 e4
            exact ⟨x, y, vs, ws, rfl, rfl, h1, h2, by rw [sizeLine_eq, ← r1.length, ← r2.length]; exact hl, ((p.mono L1).mono L2).newRef S2 (r1.append r2)⟩
          · cases e
        · cases e
      · cases e
    · cases e
  · cases e
/-! ### zip and enumerate -/
theorem walk_zipT {K : PySem.W.Frag} {a b : Addr} {xs ys : List V} {n : Nat} (hn : n = min xs.length ys.length) : Walk (RZ.ItzT K a b) n (fun H => SqT K H a xs ∧ SqT K H b ys) (YPair (xs[·]?) (ys[·]?)) := by
  subst hn
  refine ⟨fun i _ hi q => ⟨xs, ys, xs[i]'(by omega), ys[i]'(by omega), q.1, q.2, List.getElem?_eq_getElem _, List.getElem?_eq_getElem _⟩, fun _ q => ⟨xs, ys, q.1, q.2, by omega⟩, fun i H v H' _ q y => ?_⟩
  obtain ⟨T, x, z, e1, e2, e3, e4, e5⟩ := y
  exact ⟨T, x, z, e1, e2, e3, e4 _ q.1, e5 _ q.2⟩
def zipD : List D → List D → List D
  | x :: xs, y :: ys => .tup [x, y] :: zipD xs ys
  | _, _ => []
theorem zipD_length : ∀ xs ys : List D, (zipD xs ys).length = min xs.length ys.length
  | [], _ => by simp [zipD]
  | _ :: _, [] => by simp [zipD]
  | x :: xs, y :: ys => by simp [zipD, zipD_length xs ys]
theorem zipD_get : ∀ {xs ys : List D} {i : Nat} {a b : D}, xs[i]? = some a → ys[i]? = some b → (zipD xs ys)[i]? = some (.tup [a, b])
  | [], _, _, _, _, h, _ => by simp at h
  | _ :: _, [], _, _, _, _, h => by simp at h
  | x :: xs, y :: ys, 0, a, b, h1, h2 => by simp at h1 h2; subst h1; subst h2; rfl
  | x :: xs, y :: ys, i + 1, a, b, h1, h2 => zipD_get (xs := xs) (ys := ys) (by simpa using h1) (by simpa using h2)
/-- by value: nobody changes it -/
def fixOf : D → Option (List D)
  | .tl xs => some xs
  | .sl xs => some xs
  | _ => none
theorem fixOf_rep {K : PySem.W.Frag} {ρ : Wn} {H : Hp} {d : D} {v : V} {ds : List D} (r : Rep K ρ H d v) (e : fixOf d = some ds) : ∃ a vs, v = .ref a ∧ Reps K ρ H ds vs ∧ ∀ ρ' H', Le ρ H ρ' H' → SqL K H' a vs := by
  unfold fixOf at e
  split at e
  · cases e
    obtain ⟨a, vs, rfl, ⟨hn, hs⟩, rr⟩ := r
    exact ⟨a, vs, rfl, rr, fun ρ' H' L => SqL.of (L.keep _ _ hn.1 hs)⟩
  · cases e
    obtain ⟨a, vs, rfl, hs, rr⟩ := r
    refine ⟨a, vs, rfl, rr, fun ρ' H' L => ?_⟩
    rcases hs with ⟨hn, ob, hs⟩ | hs
    · exact .inl (.inr ⟨ob, L.keep _ _ hn hs⟩)
    · exact .inr hs
  · cases e
def zipOf : D → D → Option (List D)
  | .tup xs, .tup ys => some (zipD xs ys)
  | a, b => match fixOf a with
    | some xs => match fixOf b with
      | some ys => some (zipD xs ys)
      | none => none
    | none => none
def iZip (A : FA) : FI := fun env st => match A env st with
  | some ([a, b], st1) => match zipOf a b with
    | some ds => some ((ds, fun _ => True), st1)
    | none => none
  | _ => none
theorem zip_pairs {K : PySem.W.Frag} {ρ : Wn} {H : Hp} {xs ys : List D} {vs ws : List V} (r : Reps K ρ H xs vs) (r' : Reps K ρ H ys ws) (i : Nat) (ρ' : Wn) (H' : Hp) (x y : V) (L : Le ρ H ρ' H') (hx : vs[i]? = some x) (hy : ws[i]? = some y) :
    ∃ a b, (zipD xs ys)[i]? = some (.tup [a, b]) ∧ Rep K ρ' H' a x ∧ Rep K ρ' H' b y := by
  obtain ⟨a, ea, ra⟩ := (Reps.mono L _ _ r).getV hx
  obtain ⟨b, eb, rb⟩ := (Reps.mono L _ _ r').getV hy
  exact ⟨a, b, zipD_get ea eb, ra, rb⟩
theorem i_zip {e e2 : Expr} {A : FA} {p tpos : Pos} {elts : List Expr} {kk : Nat} (hg : Gl X "zip") (hm : X.mg "zip" = none) (ha : PA X [e, e2] (tA X.K A))
    (hs : starEach [e, e2] X.env = (false, eval e X.env) :: starEach [e2] X.env := by rfl) (hpl : (backTo pos (starEach [e2] X.env)).any (·.1) = false := by rfl) :
    PI X (.Tuple elts kk tpos) (.Call (.Name "zip" p) [e, e2] [] pos) (tI X.K (iZip A)) := by
  refine piConv (RZ.pi_zipA hg hm ha hs hpl) fun σ H R h => ?_
  obtain ⟨ρ, env, st, ds, g, st', S, E, e, hgd, q⟩ := h
  unfold iZip at e
  split at e
  · rename_i a b st1 e1
    split at e
    · rename_i ds' e2
      cases e
      refine ⟨ρ, env, st, _, st', S, E, e1, fun ρ1 H1 us L1 S1 R1 => ?_⟩
      obtain ⟨v, w, rfl, r1, r2⟩ := reps2 R1
      unfold zipOf at e2
      split at e2
      · rename_i xs ys
        cases e2
        obtain ⟨a, vs, rfl, hs1, rr1⟩ := r1
        obtain ⟨b, ws, rfl, hs2, rr2⟩ := r2
        refine ⟨a, b, vs, ws, rfl, .inr ⟨hs1, hs2, q ρ1 H1 _ L1 S1 ?_⟩⟩
        exact src_pair (fs := fun _ => (.non, .non)) (walk_zipT (by rw [zipD_length, rr1.length, rr2.length])) (fun ρ' H' _ L _ _ => ⟨L.sqt hs1, L.sqt hs2⟩) fun i ρ' H' x y _ L => zip_pairs rr1 rr2 i ρ' H' x y L
      · split at e2
        · rename_i xs e3
          split at e2
          · rename_i ys e4
            cases e2
            obtain ⟨a, vs, rfl, rr1, k1⟩ := fixOf_rep r1 e3
            obtain ⟨b, ws, rfl, rr2, k2⟩ := fixOf_rep r2 e4
            refine ⟨a, b, vs, ws, rfl, .inl ⟨k1 _ _ Le.refl, k2 _ _ Le.refl, q ρ1 H1 _ L1 S1 ?_⟩⟩
            exact src_pair (fs := fun _ => (.non, .non)) (walk_zip (by rw [zipD_length, rr1.length, rr2.length])) (fun ρ' H' _ L _ _ => ⟨k1 _ _ L, k2 _ _ L⟩) fun i ρ' H' x y _ L => zip_pairs rr1 rr2 i ρ' H' x y L
          · cases e2
        · cases e2
    · cases e
  · cases e
def enumFrom : Nat → List D → List D
  | _, [] => []
  | n, x :: xs => .tup [.int n, x] :: enumFrom (n + 1) xs
theorem enumFrom_length : ∀ (n : Nat) (xs : List D), (enumFrom n xs).length = xs.length
  | _, [] => rfl
  | n, x :: xs => by simp [enumFrom, enumFrom_length (n + 1) xs]
theorem enumFrom_get : ∀ {n : Nat} {xs : List D} {i : Nat} {a : D}, xs[i]? = some a → (enumFrom n xs)[i]? = some (.tup [.int ((n + i : Nat) : Int), a])
  | _, [], _, _, h => by simp at h
  | n, x :: xs, 0, a, h => by simp at h; subst h; rfl
  | n, x :: xs, i + 1, a, h => by
    have := enumFrom_get (n := n + 1) (xs := xs) (i := i) (a := a) (by simpa using h)
    rw [show n + (i + 1) = n + 1 + i by omega]
    simpa [enumFrom] using this
def iEnumerate (A : FA) : FI := fun env st => match A env st with
  | some ([a], st1) => match fixOf a with
    | some xs => some ((enumFrom 0 xs, fun _ => True), st1)
    | none => none
  | _ => none
theorem i_enumerate {e : Expr} {A : FA} {p tpos : Pos} {elts : List Expr} {kk : Nat} (hg : Gl X "enumerate") (hm : X.mg "enumerate" = none) (ha : PA X [e] (tA X.K A)) (hs : starEach [e] X.env = [(false, eval e X.env)] := by rfl) :
    PI X (.Tuple elts kk tpos) (.Call (.Name "enumerate" p) [e] [] pos) (tI X.K (iEnumerate A)) := by
  refine piConv (pi_enum hg hm ha hs) fun σ H R h => ?_
  obtain ⟨ρ, env, st, ds, g, st', S, E, e, hgd, q⟩ := h
  unfold iEnumerate at e
  split at e
  · rename_i a st1 e1
    split at e
    · rename_i xs e2
      cases e
      refine ⟨ρ, env, st, _, st', S, E, e1, fun ρ1 H1 us L1 S1 R1 => ?_⟩
      obtain ⟨v, rfl, r1⟩ := reps1 R1
      obtain ⟨b, vs, rfl, rr, k⟩ := fixOf_rep r1 e2
      refine ⟨b, vs, rfl, k _ _ Le.refl, q ρ1 H1 _ L1 S1 ?_⟩
      refine src_pair (fs := fun _ => (.non, .non)) (by rw [enumFrom_length, rr.length]; exact walk_enum) (fun ρ' H' _ L _ _ => k _ _ L) fun i ρ' H' x y hi L hx hy => ?_
      cases hx
      obtain ⟨a, ea, ra⟩ := (Reps.mono L _ _ rr).getV hy
      exact ⟨_, a, enumFrom_get ea, by rw [Nat.zero_add]; exact rfl, ra⟩
    · cases e
  · cases e
end
end Vm
namespace Vm
open PySem PySem.Spec PyProof.Rows L2
@[simp] theorem dAdd_tup (xs ys : List D) (st : Store) : dAdd (.tup xs) (.tup ys) st = if xs.length + ys.length ≤ 16777216 then some (.tup (xs ++ ys)) else none := rfl
@[simp] theorem dAdd_tl (xs ys : List D) (st : Store) : dAdd (.tl xs) (.tl ys) st = if xs.length + ys.length ≤ 16777216 then some (.tl (xs ++ ys)) else none := rfl
theorem smalls_append : ∀ xs ys : List D, smalls (xs ++ ys) = (smalls xs && smalls ys)
  | [], ys => by simp [smalls]
  | x :: xs, ys => by simp [smalls, smalls_append xs ys, Bool.and_assoc]
theorem smalls_cut {xs : List D} (h : smalls xs = true) (lo hi : Option Int) : smalls (cutD xs lo hi) = true :=
  smalls_of fun d hd => smalls_mem h (List.mem_of_mem_drop (List.mem_of_mem_take hd))
theorem cutD_length (xs : List D) (lo hi : Option Int) : (cutD xs lo hi).length ≤ xs.length := by
  unfold cutD
  rw [List.length_take, List.length_drop]
  omega
theorem Fr.push {n : Nat} {a b : Store} {o : O} (h : Fr n a b) : Fr n a (b ++ [o]) := by
  have kp : ∀ (m : Nat) (x : O), b[m]? = some x → (b ++ [o])[m]? = some x := fun m x e => by
    rw [List.getElem?_append_left (List.getElem?_eq_some_iff.mp e).1]; exact e
  obtain ⟨x, y, e, h1, h2⟩ := h.fd
  exact ⟨⟨x, y, kp _ _ e, h1, h2⟩, fun m o hm e => kp _ _ (h.keep m o hm e)⟩
theorem Fr.setN {n m : Nat} {a b : Store} {o : O} (h : Fr n a b) (hm : a.length ≤ m) (hn : n < a.length) : Fr n a (b.set m o) := by
  obtain ⟨x, y, e, h1, h2⟩ := h.fd
  refine ⟨⟨x, y, by rw [List.getElem?_set_ne (by omega)]; exact e, h1, h2⟩, fun k o' hk e' => ?_⟩
  have := (List.getElem?_eq_some_iff.mp e').1
  rw [List.getElem?_set_ne (by omega)]
  exact h.keep k o' hk e'
theorem Fd.lt {n : Nat} {st : Store} (h : Fd n st) : n < st.length := by
  obtain ⟨_, _, e, _⟩ := h
  exact (List.getElem?_eq_some_iff.mp e).1
/-- of a fair size, and how many items at most -/
def Pd (L : Nat) (d : D) : Prop := small d = true ∧ ∀ ps, d = .tup ps → ps.length ≤ L
theorem Pd.tup {L : Nat} {ps : List D} (h : smalls ps = true) (h1 : ps.length ≤ L) (h2 : ps.length ≤ 1000) : Pd L (.tup ps) := by
  refine ⟨?_, fun qs e => by cases e; exact h1⟩
  simp [small, h, h2]
theorem Pd.mono {L M : Nat} {d : D} (h : Pd L d) (hl : L ≤ M) : Pd M d := ⟨h.1, fun ps e => Nat.le_trans (h.2 ps e) hl⟩
theorem dCut_tup (xs : List D) (lo hi : Option Int) (st : Store) : dCut (.tup xs) lo hi st = some (.tup (cutD xs lo hi)) := rfl
theorem dCut_tl (xs : List D) (lo hi : Option Int) (st : Store) : dCut (.tl xs) lo hi st = some (.tl (cutD xs lo hi)) := rfl
theorem bLen_tup (xs : List D) (st : Store) : bLen [.tup xs] st = some (.int xs.length, st) := rfl
theorem bLen_tl (xs : List D) (st : Store) : bLen [.tl xs] st = some (.int xs.length, st) := rfl
theorem bList_tup (xs : List D) (st : Store) : bList [.tup xs] st = some (.tl xs, st) := rfl
theorem dIdx_tup (xs : List D) (i : Int) (st : Store) : dIdx (.tup xs) (.int i) st = L2.atI xs i := rfl
theorem items_tl (xs : List D) (st : Store) : itemsOf st (.tl xs) = some (xs, fun _ => True) := rfl
theorem cNe_bl (a b : Bool) (st : Store) : cNe (.bl a) (.bl b) st = some (!(a == b)) := by
  unfold cNe
  show (if okEq (.bl a) (.bl b) = true then some (!deq (.bl a) (.bl b)) else none) = _
  have : okEq (.bl a) (.bl b) = true := by simp [okEq, okd, dep]
  rw [if_pos this]
  simp [deq, pd, PyData.eqv]
theorem tm_nm {t : D} (h : isNm t = true) : isTm t = true := by
  cases t with
  | int i => simp [isNm] at h
  | _ => simpa [isTm] using h
theorem small_tm {t : D} (h : isTm t = true) : small t = true := by
  cases t with
  | int i => rfl
  | _ => exact small_nm (by simpa [isTm] using h)
theorem reps_ints {K : PySem.W.Frag} {ρ : Wn} {H : Hp} : ∀ ns : List Int, Reps K ρ H (ns.map D.int) (ns.map V.int)
  | [] => rfl
  | n :: ns => ⟨_, _, rfl, rfl, reps_ints ns⟩
/-- the end: a law's def that gives True at every script -/
theorem sp_of {F : FnF} (hF : ∀ (script : D) (ns : List Int), ns.length ≤ 63 → (∀ st, lsqOf st script = some (ns.map D.int)) → (∀ st, lenOf st script = some ns.length) → (∀ (i : Int) st', dIdx script (.int i) st' = (match lsqOf st' script with | some xs => L2.atI xs i | none => none)) → Wp (F [script] []) fun d _ => d = .bl true)
    {K : PySem.W.Frag} {H : Hp} {a : Addr} {ns : List Int} (hl : ns.length ≤ 63) (hS : SqL K H a (ns.map V.int)) : spD K 1 F [.ref a] H (fun v _ => v = .bl true) fun _ _ _ => False := by
  have S0 : Sim K ⟨[], []⟩ [] H := ⟨rfl, fun a h => (by cases h), fun i j a h => by simp at h, fun n o a h => by simp at h⟩
  have fin : ∀ script : D, (∀ st, lsqOf st script = some (ns.map D.int)) → (∀ st, lenOf st script = some ns.length) → (∀ (i : Int) st', dIdx script (.int i) st' = (match lsqOf st' script with | some xs => L2.atI xs i | none => none)) → Rep K ⟨[], []⟩ H script (.ref a) → spD K 1 F [.ref a] H (fun v _ => v = .bl true) fun _ _ _ => False := by
    intro script h1 h2 h3 r
    obtain ⟨d, st, e, rfl⟩ := hF script ns hl h1 h2 h3
    exact ⟨rfl, ⟨[], []⟩, [], [script], .bl true, st, S0, ⟨_, _, rfl, r, rfl⟩, e, fun ρ' H' v _ _ R => R⟩
  have len : (ns.map D.int).length = ns.length := by simp
  rcases hS with (h | ⟨ob, h⟩) | h
  · exact fin (.tl (ns.map D.int)) (fun _ => rfl) (fun _ => by simp [lenOf]) (fun _ _ => rfl) ⟨a, _, rfl, ⟨⟨by simp, by simp⟩, h⟩, reps_ints ns⟩
  · exact fin (.sl (ns.map D.int)) (fun _ => rfl) (fun _ => by simp [lenOf]) (fun _ _ => rfl) ⟨a, _, rfl, .inl ⟨by simp, ob, h⟩, reps_ints ns⟩
  · exact fin (.sl (ns.map D.int)) (fun _ => rfl) (fun _ => by simp [lenOf]) (fun _ _ => rfl) ⟨a, _, rfl, .inr h, reps_ints ns⟩
section
variable {F G : FE} {env : En} {st : Store} {Q : D → Store → Prop}
theorem wp_rev : Wp (fRev F env st) Q ↔ Wp (F env st) fun a st1 => ∃ d, dRev a st1 = some d ∧ Q d st1 := by
  unfold fRev
  constructor
  · intro h
    split at h
    · rename_i a st1 e1
      split at h
      · rename_i d e2
        exact ⟨a, st1, e1, d, e2, wp_some.mp h⟩
      · exact (wp_noneR.mp h).elim
    · exact (wp_noneR.mp h).elim
  · rintro ⟨a, st1, e1, d, e2, q⟩
    simp [e1, e2, q]
theorem wp_addS : Wp (fAddS F G env st) Q ↔ Wp (F env st) fun a st1 => Wp (G env st1) fun b st2 => ∃ xs ys, lstOf st2 a = some xs ∧ lstOf st2 b = some ys ∧ xs.length + ys.length ≤ 16777216 ∧ Q (.ref st2.length) (st2 ++ [.lst (xs ++ ys)]) := by
  unfold fAddS
  constructor
  · intro h
    split at h
    · rename_i a st1 e1
      split at h
      · rename_i b st2 e2
        split at h
        · rename_i xs e3
          split at h
          · rename_i ys e4
            split at h
            · rename_i hl
              exact ⟨a, st1, e1, b, st2, e2, xs, ys, e3, e4, hl, wp_some.mp h⟩
            · exact (wp_noneR.mp h).elim
          · exact (wp_noneR.mp h).elim
        · exact (wp_noneR.mp h).elim
      · exact (wp_noneR.mp h).elim
    · exact (wp_noneR.mp h).elim
  · rintro ⟨a, st1, e1, b, st2, e2, xs, ys, e3, e4, hl, q⟩
    simp [e1, e2, e3, e4, hl, q]
end
theorem dRev_tup (xs : List D) (st : Store) : dRev (.tup xs) st = some (.tup xs.reverse) := rfl
/-- a pick among the items of a list of the store -/
theorem pick_ref {st : Store} {n m : Nat} {xs : List D} (h : Fd n st) (hm : m ≠ n) (hL : st[m]? = some (.lst xs)) (h0 : 0 < xs.length) (h1 : xs.length < 1073741824) : Wp (L_pick [.ref n, .ref m] st) (fun d st' => d ∈ xs ∧ Fr n st st') :=
  pick_ok h (by simp [lsqOf, hL]) (fun st' f => by simp [lsqOf, f.keep m _ hm hL]) (by simp [lenOf, hL]) (fun _ _ => rfl) h0 h1
/-- how many items, if it is a tuple -/
def Nl (M : Nat) (v : D) : Prop := ∀ qs, v = .tup qs → qs.length ≤ M
/-- of a fair size, its tuples and their tuples no longer than M -/
def Pe (M : Nat) (d : D) : Prop := small d = true ∧ Nl M d ∧ ∀ ps, d = .tup ps → ∀ p ∈ ps, Nl M p
theorem Nl.mono {L M : Nat} {d : D} (h : Nl L d) (hl : L ≤ M) : Nl M d := fun qs e => Nat.le_trans (h qs e) hl
theorem Pe.mono {L M : Nat} {d : D} (h : Pe L d) (hl : L ≤ M) : Pe M d := ⟨h.1, h.2.1.mono hl, fun ps e p hp => (h.2.2 ps e p hp).mono hl⟩
theorem Pe.tup {M : Nat} {ps : List D} (h : smalls ps = true) (h1 : ps.length ≤ M) (h2 : ps.length ≤ 1000) (h3 : ∀ p ∈ ps, Nl M p) : Pe M (.tup ps) :=
  ⟨by simp [small, h, h2], fun qs e => by cases e; exact h1, fun qs e => by cases e; exact h3⟩
theorem cutD_mem {xs : List D} {lo hi : Option Int} {d : D} (h : d ∈ Vm.cutD xs lo hi) : d ∈ xs := List.mem_of_mem_drop (List.mem_of_mem_take h)
def peB (M : Nat) : D → Bool
  | .tup ps => decide (ps.length ≤ M) && ps.all fun p => match p with | .tup qs => decide (qs.length ≤ M) | _ => true
  | _ => true
theorem peB_ok {M : Nat} {d : D} (h1 : small d = true) (h : peB M d = true) : Pe M d := by
  refine ⟨h1, fun qs e => ?_, fun ps e p hp qs e2 => ?_⟩
  · subst e
    simp only [peB, Bool.and_eq_true, decide_eq_true_eq] at h
    exact h.1
  · subst e
    simp only [peB, Bool.and_eq_true, decide_eq_true_eq] at h
    have := List.all_eq_true.mp h.2 p hp
    subst e2
    simpa using this
end Vm
/-! a def that is called from one surrounding alone: there more is known of it (no repr is under way) -/
namespace Vm
open PySem PySem.Spec PyProof.Rows L2
def FnAt (P : Program) (w : World) (K : PySem.W.Frag) (mg : Str → Option Value) (base : Heap) (A : Around) (outer : List PySem.Env) (f : Addr) (fd : FuncData) (ps : List Str) (sp : Sp) : Prop :=
  ∀ (s : Shared) (H : Hp) (as : Args) (us : List Value) (vs : List V) (Q : VK), Env0 P w K mg base A outer s H → BindsTo s fd as (ps.zip us) → Vals vs us → sp vs H Q E0 →
    codeAny (model P w) A (.call (.ref f) as) (CR CX0 outer P w H s Q E0) s
theorem fn_at {P : Program} {w : World} {K : PySem.W.Frag} {mg : Str → Option Value} {base : Heap} {A : Around} {outer : List PySem.Env} {k : Nat} {x qual : Str} {stm : Stmt} {f : Addr} {fd : FuncData} {N ps : List Str} {body : FS} (F : Fun K x qual stm f fd) (S : FnScope N ps (defScope stm)) (hr : Room (k + 1) A)
    (hbody : ∀ (cdv : Value) (s : Shared) (H : Hp), Room k (A.deeper (envOfC qual (defScope stm) s.heap.objs.size f cdv)) → PSs (cxOf CX0 P w K mg base N qual (defScope stm) f cdv A outer s H E0).nox (defBody stm) (tS K body)) :
    FnAt P w K mg base A outer f fd ps (spD K ps.length (fnD ps.length N.length body)) := by
  obtain ⟨oc, od, kV, doc, pm, an, cdv, ct, osl, rfl, lk, cd⟩ := F.ex
  intro s H as us vs Q e0 bd rv h
  have hlen : vs.length = ps.length := h.1
  have inK : K.In s.heap := e0.mod.kin.keeps fun b o e => (e0.bs b o e).1
  have free : s.heap.NoLimit := e0.mod.nolimit.keeps fun b o e => (e0.bs b o e).1
  refine codeAny_call_function hr.depth (inK _ _ lk) rfl S.co S.gen rfl (PySem.W.codeRec_of inK cd) (bd _ _ _ _ ?_)
  refine wpAny_newFunctionEnv_cells S.kind (fun y hy => (S.par y.1 (List.of_mem_zip (a := y.1) (b := y.2) hy).1).imp id fun q => ⟨q, PySem.W.cellsFrom_some _ _ _ (.inl q)⟩) fun env he s1 xx => ?_
  subst he
  refine ⟨free.keeps xx.toInCall.keep, codeAny_func ?_⟩
  have rd : tS K body { nx := fun _ H' => Q .non H', rt := Q } (L2.start N vs) H := by
    obtain ⟨_, ρ, st, ds, d, st', Sm, R, e, p⟩ := h
    have en := en_start (n := N.length - ps.length) R
    unfold L2.start
    rw [hlen]
    unfold fnD at e
    split at e
    · split at e
      · rename_i e1
        cases e
        exact ⟨ρ, _, st, _, _, Sm, en, e1, fun ρ' H' v L S' R' => p ρ' H' v L S' R'⟩
      · rename_i e1
        cases e
        exact ⟨ρ, _, st, _, _, Sm, en, e1, fun ρ' H' σ' L S' _ => p ρ' H' _ L S' rfl⟩
      · cases e
    · cases e
  have I0 : Inv (cxOf CX0 P w K mg base N qual (defScope stm) f cdv A outer s H E0) [] (L2.start N vs) H s1 := inv_start S hr.hd e0 hlen rv xx
  refine wpAny_mono ((hbody cdv s H (hr.deeper _)).nox.run [] s1 (L2.start N vs) H _ I0 rd) (fun fl s' hs => ?_) fun e s' hs => hs
  cases fl with
  | ret u => exact let ⟨v, _, H', J, r', q⟩ := hs; ⟨v, H', J.os, J.bare, J.base, J.hok, r', q⟩
  | next => exact let ⟨_, H', J, q⟩ := hs; ⟨.non, H', J.os, J.bare, J.base, J.hok, rfl, q⟩
  | brk => exact let ⟨_, _, _, q⟩ := hs; False.elim q
  | cont => exact let ⟨_, _, _, q⟩ := hs; False.elim q
/-- the law's call, from a def promised at the caller's surrounding alone -/
theorem law_at {P : Program} {w : World} {K : PySem.W.Frag} {mg mb : Str → Option Value} {fa a : Addr} {fd : FuncData} {x : Str} {sp : Sp} {s : Shared} {vs : List Value} {ns : List Int}
    (inK : K.In s.heap) (gl : s.heap.Ns mainGlobals mg) (bt : s.heap.Ns builtinsNs mb) (bb : ∀ y : Str, y ≠ "__name__" → mb y = bootBuiltins y) (free : s.heap.NoLimit) (ge : s.gens = #[])
    (ga : s.heap.get? a = some { cls := .type "list", data := .seq vs.toArray }) (iv : IntsAre vs ns) (hz : ns.length ≤ sizeLine)
    (F : ∀ base : Heap, K.In base → base.Ns mainGlobals mg → FnAt P w K mg base callerA [] fa fd [x] sp) (bind : ∀ (s : Shared) (u : Value), BindsTo s fd ⟨[u], []⟩ [(x, u)])
    (hp : ∀ H : Hp, SqL K H a (ns.map V.int) → sp [.ref a] H (fun v _ => v = .bl true) E0) :
    codeAny (model P w) callerA (.call (.ref fa) ⟨[.ref a], []⟩) (fun r s' => r = .ok (.ret (.bool true)) ∧ OldK s.heap s'.heap ∧ s'.os = s.os ∧ AllBare s'.gens) s := by
  have rv := vals_ints iv
  have hn := iv.length
  have go : ∀ H : Hp, (∀ b u, H b = some u → b = a ∧ ∃ o, u = .frz o (.lst (ns.map V.int))) → SqL K H a (ns.map V.int) → HOk P w H s.heap → (H a ≠ none → K.lookup a = none) →
      codeAny (model P w) callerA (.call (.ref fa) ⟨[.ref a], []⟩) (fun r s' => r = .ok (.ret (.bool true)) ∧ OldK s.heap s'.heap ∧ s'.os = s.os ∧ AllBare s'.gens) s := by
    intro H only hS ok hK
    have tr : ∀ b, H b ≠ none → b = a := fun b z => by
      cases q : H b with
      | none => exact absurd q z
      | some u => exact (only b u q).1
    have nsK : ∀ {b : Addr} {m : Str → Option Value}, s.heap.Ns b m → (hidT s.heap H).Ns b m := by
      rintro b m ⟨o, es, ep, e, d, r⟩
      refine ⟨o, es, ep, hidT_get e ?_, d, r⟩
      cases q : H b with
      | none => rfl
      | some u =>
        obtain rfl := tr b (by simp [q])
        rw [ga] at e
        cases e
        cases (show Data.seq vs.toArray _ = Data.dict es ep from d)
    have inB : K.In (hidT s.heap H) := fun b o e => hidT_get (inK b o e) (by
      cases q : H b with
      | none => rfl
      | some u =>
        obtain rfl := tr b (by simp [q])
        have := hK (by simp [q])
        rw [this] at e
        cases e)
    have lim : (hidT s.heap H).NoLimit := let ⟨mc, e1, e2⟩ := free; ⟨mc, nsK e1, e2⟩
    have en : Env0 P w K mg (hidT s.heap H) callerA [] s H := ⟨rfl, ⟨inB, nsK gl, ⟨mb, nsK bt, bb⟩, lim⟩, fun b o e => of_hidT e, Nat.le_of_eq (hidT_size _ _), trivial, fun b z => absurd (show b ∈ ([] : List Addr) from z) (by simp), ok, .of_eq ge⟩
    refine codeAny_mono (F _ inB (nsK gl) s H ⟨[.ref a], []⟩ [.ref a] [.ref a] _ en (bind s (.ref a)) (.cons rfl .nil) (hp H hS)) fun r s' z => ?_
    cases r with
    | error e => exact False.elim z
    | ok fl =>
      cases fl with
      | next => exact False.elim z
      | brk => exact False.elim z
      | cont => exact False.elim z
      | ret u =>
        obtain ⟨v, H', os, bare, un, ok', rv', q⟩ := z
        obtain rfl : v = .bl true := q
        obtain rfl : u = Value.bool true := rv'
        refine ⟨rfl, OldK.of_keep fun b o e => ?_, os, bare⟩
        cases q : H b with
        | none => exact un.keep b o e q (fun y => absurd (show b ∈ ([] : List Addr) from y) (by simp)) (by simp)
        | some u =>
          obtain ⟨_, ob, rfl⟩ := only b u q
          obtain ⟨g1, _⟩ := ok b _ q
          obtain ⟨g2, _⟩ := ok' b _ (un.frzs b ob _ q)
          rw [e] at g1
          cases g1
          exact g2
  cases hk : K.lookup a with
  | some o =>
    have e := inK a o hk
    rw [ga] at e
    cases e
    exact go (fun _ => none) (fun b u z => by cases z) (.inr ⟨_, vs.toArray, _, hk, rfl, rfl, rfl, by rw [List.size_toArray, hn]; exact hz, by simpa using rv⟩) (fun b u z => by cases z) fun z => absurd rfl z
  | none =>
    refine go (fun b => if b = a then some (.frz { cls := .type "list", data := .seq vs.toArray } (.lst (ns.map V.int))) else none) (fun b u z => ?_) (.inl (.inr ⟨_, if_pos rfl⟩)) (fun b u z => ?_) fun _ => hk
    · split at z
      · rename_i hb
        cases z
        exact ⟨hb, _, rfl⟩
      · cases z
    · dsimp only at z
      split at z
      · rename_i hb
        cases z
        subst hb
        exact ⟨ga, by rw [List.length_map]; exact hz, vs, _, rv, ga⟩
      · cases z
/-- the goal of the head -/
theorem walk_at {l : PySem.W.OpenLaw} {n : Nat} {q : Program} {loose : List Str} {XP : (Str → Option Value) → Heap → Prop} {YP : World → Heap → Prop} {d : DefRec} {K : Params → PySem.W.Frag} {sp : World → Sp} {x : Str}
    (hn : l.most = some n) (hm : n ≤ sizeLine) (nd : d.params.defaults = []) (hY : ∀ (w : World) (h : Heap), YP w h → (K w.params).In h)
    (F : ∀ (w : World) (mg : Str → Option Value) (fa : Addr) (h : Heap), (K w.params).In h → h.Ns mainGlobals mg → mg d.name = some (.ref fa) →
      ∃ fd : FuncData, (∀ (s : Shared) (u : Value), BindsTo s fd ⟨[u], []⟩ [(x, u)]) ∧ ∀ base : Heap, (K w.params).In base → base.Ns mainGlobals mg → FnAt l.prog w (K w.params) mg base callerA [] fa fd [x] (sp w))
    (hp : ∀ (w : World) (H : Hp) (a : Addr) (ns : List Int), ns.length ≤ n → SqL (K w.params) H a (ns.map V.int) → sp w [.ref a] H (fun v _ => v = .bl true) E0) : PySem.W.WalkO q loose XP YP l.row.toRowW d [] (fun f vs => PySem.call f vs) := by
  refine Att.attach_call hn nd fun w s0 s mg mb fa o pm cd doc a vs ns G Y go gd gc gm ga iv hl ge => ?_
  obtain ⟨fd, bd, H⟩ := F w mg fa _ (hY w _ Y) G.T.g gm
  exact law_at (hY w _ Y) G.T.g G.T.b G.T.builtins G.T.nolimit ge ga iv (Nat.le_trans hl hm) H bd fun H hS => hp w H a ns hl hS
end Vm
/-! repr of data -/
namespace Vm
open PySem PySem.Spec PyProof.Rows L2
def shw (d : PyData) : Bool := PyData.layable0 d && d.intsShort 13 && d.showable && decide (d.depth ≤ 60)
def bRepr : BF
  | [d], st => if okd (deref st d) && shw (pd (deref st d)) then some (.str (pd (deref st d)).shown, st) else none
  | _, _ => none
section
variable {X : Cx} {pos : Pos}
def rRepr (K : PySem.W.Frag) : List V → Hp → VK → Prop := fun vs H Q => ∃ v d, vs = [v] ∧ Dp K H v d ∧ shw d = true ∧ Q (.str d.shown) H
theorem call_reprD {k : Nat} (hr : Room k X.A) (hg : X.A.guards = some []) : CallR X (.builtin "repr") (rRepr X.K) := by
  intro pins s σ H xs us Q I rv h
  obtain ⟨v, d, rfl, hd, hw, q⟩ := h
  obtain ⟨u, rfl, ru⟩ := vals1 rv
  obtain ⟨as, rd⟩ := Dp.reads I d v u hd ru
  unfold shw at hw
  simp only [Bool.and_eq_true, decide_eq_true_eq] at hw
  obtain ⟨⟨⟨h1, h2⟩, h3⟩, h4⟩ := hw
  have hz : d.shown.length ≤ sizeLine := PyData.shown_fits_of_layable0 (B := 13) (by decide) (by decide) h1 h2
  have fin : ∀ (tk : Tok) (k' : Tok), EP X pins σ Q (.str d.shown tk) { s with toks := k' } := fun tk k' => ⟨.str d.shown, H, I.tok _, ⟨_, rfl⟩, q⟩
  have refs : ∀ a, u = .ref a → wpAny (model X.prog X.w) X.A (call (.builtin "repr") [u]) (EP X pins σ Q) X.xe s := by
    rintro a rfl
    refine repr_of_reads' rd h3 (PyData.noDict_hsm (PyData.hasDict_of_layable h1)) hg (by have := hr.un; omega) (fun _ _ e => e) (fun h' t tk hk => ?_) hz
    exact ⟨.str d.shown, H, I.kept (t' := tk) hk, ⟨_, rfl⟩, q⟩
  cases hd with
  | non =>
    cases ru
    exact PySem.P.repr_of_none (by have := fin s.toks (s.toks + 1); simpa only [PyData.shown] using this)
  | bl b =>
    cases ru
    exact PySem.P.repr_of_bool (by have := fin s.toks (s.toks + 1); simpa only [PyData.shown] using this)
  | int i =>
    obtain ⟨t, rfl⟩ := ru
    exact PySem.P.repr_of_int (by simpa [PyData.showable] using h3) (by have := fin s.toks (s.toks + 1); simpa only [PyData.shown] using this)
  | str x =>
    obtain ⟨t, rfl⟩ := ru
    exact PySem.P.repr_of_str (hsz := by simpa only [PyData.shown] using hz) (by have := fin s.toks (s.toks + 1); simpa only [PyData.shown] using this)
  | lst _ _ => cases ru; exact refs _ rfl
  | tup _ _ => cases ru; exact refs _ rfl
theorem b_repr {k : Nat} (hr : Room k X.A) (hg : X.A.guards = some []) : CallOk X (.builtin "repr") bRepr := ⟨_, call_reprD hr hg, by
  intro ρ H st ds vs d st' Q S R e p
  unfold bRepr at e
  split at e
  · split at e
    · rename_i h
      cases e
      simp only [Bool.and_eq_true] at h
      obtain ⟨v, rfl, r⟩ := reps1 R
      exact ⟨v, _, rfl, dp_deref S r h.1, h.2, p ρ H _ Le.refl S rfl⟩
    · cases e
  · cases e⟩
/-! == of texts of any signs -/
def cNeS : CmpF := fun a b st => match a, b with
  | .str x, .str y => some (!decide (x = y))
  | _, _ => cNe a b st
def cEqS : CmpF := fun a b st => match a, b with
  | .str x, .str y => some (decide (x = y))
  | _, _ => cEq a b st
theorem c_neS {k : Nat} (hr : Room k X.A) : CmpOk X .NotEq cNeS := by
  obtain ⟨r, h1, h2⟩ := (c_ne (X := X) hr).ok
  refine ⟨_, op_ne.or h1, fun ρ H st a b x y k Q S ra rb e q => ?_⟩
  unfold cNeS at e
  split at e
  · rename_i z w
    cases e
    refine .inl ⟨?_, ?_⟩
    · rw [show x = .str z from ra, show y = .str w from rb]
      rfl
    · rw [show x = .str z from ra, show y = .str w from rb]
      simpa using q
  · exact .inr (h2 ρ H st a b x y k Q S ra rb e q)
theorem c_eqS {k : Nat} (hr : Room k X.A) : CmpOk X .Eq cEqS := by
  obtain ⟨r, h1, h2⟩ := (c_eq (X := X) hr).ok
  refine ⟨_, op_eq.or h1, fun ρ H st a b x y k Q S ra rb e q => ?_⟩
  unfold cEqS at e
  split at e
  · rename_i z w
    cases e
    refine .inl ⟨?_, ?_⟩
    · rw [show x = .str z from ra, show y = .str w from rb]
      rfl
    · rw [show x = .str z from ra, show y = .str w from rb]
      simpa using q
  · exact .inr (h2 ρ H st a b x y k Q S ra rb e q)
end
/-! what a text of data may take -/
def near : D → Bool
  | .int i => decide (-999999999 ≤ i) && decide (i ≤ 999999999)
  | _ => true
mutual
/-- all ints near -/
def nrd : D → Bool
  | .tup ds => nrds ds
  | .tl ds => nrds ds
  | .sl ds => nrds ds
  | d => near d
def nrds : List D → Bool
  | [] => true
  | d :: ds => nrd d && nrds ds
end
mutual
/-- how heavy -/
def wt : D → Nat
  | .str x => x.cps.size
  | .tup ds => wts ds
  | .tl ds => wts ds
  | .sl ds => wts ds
  | .int _ => 30
  | _ => 0
def wts : List D → Nat
  | [] => 0
  | d :: ds => wt d + 1 + wts ds
end
theorem log_near {i : Int} (h : near (.int i) = true) : i.natAbs.log2 < 30 := by
  simp only [near, Bool.and_eq_true, decide_eq_true_eq] at h
  by_cases h0 : i.natAbs = 0
  · rw [h0]; decide
  · exact (Nat.log2_lt h0).mpr (by omega)
theorem short_near {i : Int} (h : near (.int i) = true) : PyData.intsShort 13 (.int i) = true := by
  simp only [near, Bool.and_eq_true, decide_eq_true_eq] at h
  refine intsShort_of_noneOrIn (lo := -1000000000) (hi := 1000000000) (by omega) (by omega) (.int i) ?_
  simp [noneOrIn]
  omega
mutual
theorem nrd_pd : ∀ d : D, nrd d = true → (pd d).intsShort 13 = true ∧ (pd d).showable = true ∧ (pd d).weight ≤ wt d
  | .non, _ => by simp [pd, PyData.intsShort, PyData.showable, PyData.weight]
  | .bl _, _ => by simp [pd, PyData.intsShort, PyData.showable, PyData.weight]
  | .int i, h => by
    have h' : near (.int i) = true := h
    have h2 := log_near h'
    refine ⟨short_near h', ?_, ?_⟩
    · simp only [pd, PyData.showable, decide_eq_true_eq]; omega
    · simp only [pd, PyData.weight, wt]
      split <;> omega
  | .str _, _ => by simp [pd, PyData.intsShort, PyData.showable, PyData.weight, wt]
  | .tup ds, h => by simpa only [pd, PyData.intsShort, PyData.showable, PyData.weight, wt] using nrds_pd ds h
  | .tl ds, h => by simpa only [pd, PyData.intsShort, PyData.showable, PyData.weight, wt] using nrds_pd ds h
  | .sl ds, h => by simpa only [pd, PyData.intsShort, PyData.showable, PyData.weight, wt] using nrds_pd ds h
  | .ref _, _ => by simp [pd, PyData.intsShort, PyData.showable, PyData.weight]
  | .ty _, _ => by simp [pd, PyData.intsShort, PyData.showable, PyData.weight]
theorem nrds_pd : ∀ ds : List D, nrds ds = true → PyData.intsShortAll 13 (pds ds) = true ∧ PyData.showableAll (pds ds) = true ∧ PyData.weightAll (pds ds) ≤ wts ds
  | [], _ => by simp [pds, PyData.intsShortAll, PyData.showableAll, PyData.weightAll]
  | d :: ds, h => by
    simp only [nrds, Bool.and_eq_true] at h
    obtain ⟨a1, a2, a3⟩ := nrd_pd d h.1
    obtain ⟨b1, b2, b3⟩ := nrds_pd ds h.2
    simp only [pds, PyData.intsShortAll, PyData.showableAll, PyData.weightAll, wts, a1, a2, b1, b2, Bool.and_self, true_and]
    omega
end
/-- repr of data that is near, light and not deep -/
theorem repr_eq {d : D} {st : Store} (h1 : okd d = true) (h2 : nrd d = true) (h3 : wt d ≤ 1048576) (h4 : dep d ≤ 60) (hd : deref st d = d) : bRepr [d] st = some (.str (pd d).shown, st) := by
  obtain ⟨a1, a2, a3⟩ := nrd_pd d h2
  have hl : PyData.layable0 (pd d) = true := by
    show (PyData.canLay0 (pd d) && decide (PyData.depth (pd d) ≤ 64) && decide (PyData.weight (pd d) ≤ 2 ^ 20)) = true
    rw [lay_pd d h1, dep_pd, decide_eq_true (show dep d ≤ 64 by omega), decide_eq_true (show (pd d).weight ≤ 2 ^ 20 by omega)]
    rfl
  unfold bRepr
  show (if (okd (deref st d) && shw (pd (deref st d))) = true then some (D.str (pd (deref st d)).shown, st) else none) = _
  rw [hd]
  have : shw (pd d) = true := by
    unfold shw
    rw [hl, a1, a2, dep_pd, decide_eq_true h4]
    rfl
  rw [h1, this]
  simp
end Vm
/-! more methods of lists -/
namespace Vm
open PySem PySem.Spec PyProof.Rows L2
set_option maxRecDepth 8000 in
theorem ext_tup (x y : Addr) (xs ys : Array Value) (m k : Nat) (dd : Option Addr) (sl : Array (Option Value)) (h0 : ¬(!xs.isEmpty && Builtin.List.listTooLong (xs.size + ys.size)) = true) (h1 : xs.size ≤ sizeLine) (h2 : xs.size + ys.size ≤ sizeLine + 1) :
    Meets (Builtin.«list.extend» ⟨[.ref x, .ref y], []⟩) (fun _ R s => s.heap.get? x = some ⟨.type "list", none, .seq xs m, #[]⟩ ∧ s.heap.get? y = some ⟨.type "tuple", dd, .seq ys k, sl⟩ ∧ R (.ok (.ret Value.none)) { s with heap := s.heap.update x (Obj.mapSeq fun z => z ++ ys), toks := s.toks }) :=
  .of_wp fun prog w A R s hh => by
    obtain ⟨hp, g, d, tk, os⟩ := s
    obtain ⟨gx, gy, fin⟩ := hh
    have i1 := PySem.AutoSeq1.idx_int
    have i2 := PySem.AutoSeq1.sub_tuple_tuple
    have i3 := PySem.AutoSeq1.sub_list_list
    have i4 := PySem.AutoSeq1.sub_tuple_list
    have i5 := PySem.AutoSeq1.sub_list_tuple
    have big : (xs ++ ys).size ≤ sizeLine + 1 := Array.size_append ▸ h2
    wp_walk using (wpAny_updateSeq gx rfl (hz := h1) (_hz' := big)), wpAny_loadPart' gx, wpAny_loadPart' gy
    exact ⟨_, rfl, fin⟩
section
variable {X : Cx} {pos : Pos}
def rExtT (K : PySem.W.Frag) : V → List V → Hp → VK → Prop := fun x vs H Q => ∃ a b us ws, x = .ref a ∧ vs = [.ref b] ∧ H a = some (.lst us) ∧ SqT K H b ws ∧ us.length + ws.length ≤ sizeLine ∧ Q .non (upd H a (.lst (us ++ ws)))
theorem mt_extT : MtM X "list.extend" (rExtT X.K) := by
  intro pins s σ H x vs v us Q I rx rv h
  obtain ⟨a, b, as, ws, rfl, rfl, ha, hb, hz, q⟩ := h
  cases rx
  obtain ⟨u, rfl, ru⟩ := rv.one
  cases ru
  obtain ⟨_, its, n, r1, l1, g1⟩ := I.lstM ha
  obtain ⟨jts, r2, ⟨⟨cls, dd, data, sl⟩, g2, hc, k, hd⟩, _⟩ := I.tuple hb
  simp only at hc hd
  subst hc hd
  have n1 := r1.length
  have n2 := r2.length
  have big : its.toArray.size + jts.toArray.size ≤ sizeLine := by rw [List.size_toArray, List.size_toArray]; omega
  have door : ¬ (!its.toArray.isEmpty && Builtin.List.listTooLong (its.toArray.size + jts.toArray.size)) = true := by
    rw [notLongL big, Bool.and_false]
    decide
  refine call_meets PySem.F.slot_list_extend ⟨_, g1, rfl⟩ PySem.F.entry_list_extend (PySem.F.args_list_extend_2 _ _) (ext_tup a b its.toArray jts.toArray n k dd sl door (by rw [List.size_toArray]; omega) (by omega)) ⟨g1, g2, ?_⟩
  exact ⟨.non, _, I.lset (its' := its ++ jts) ha g1 (by simp) (r1.append r2) (by rw [List.length_append]; omega), rfl, q⟩
theorem mt_extA : MtM X "list.extend" (fun x vs H Q => rExtend x vs H Q ∨ rExtT X.K x vs H Q) := by
  intro pins s σ H x vs v us Q I rx rv h
  rcases h with h | h
  · exact mt_extend pins s σ H x vs v us Q I rx rv h
  · exact mt_extT pins s σ H x vs v us Q I rx rv h
/-- a list's items as a list's or a tuple's -/
def extOf (st : Store) : D → Option (List D)
  | .tup xs => some xs
  | d => lstOf st d
/-- o.extend(e), a statement -/
def sExt (Fo F : FE) : FS := fun env st => match Fo env st with
  | some (.ref n, st1) => match st1[n]? with
    | some (.lst _) => match F env st1 with
      | some (x, st2) => match st2[n]? with
        | some (.lst xs) => match extOf st2 x with
          | some ys => if xs.length + ys.length ≤ 16777216 then some (.nx env, st2.set n (.lst (xs ++ ys))) else none
          | none => none
        | _ => none
      | none => none
    | _ => none
  | _ => none
theorem s_ext {o e : Expr} {Fo F : FE} {apos cpos : Pos} (ho : PE X o (tE X.K Fo)) (he : PE X e (tE X.K F)) (hbase : attributeBase o "extend" X.env (eval o X.env) = eval o X.env := by rfl)
    (hfew : ((backTo cpos (starEach [e] X.env)).all (fun x => !x.1) && (backToKw cpos (keywordEach [] X.env)).all (fun x => x.1.isSome)
      && decide ([e].length + ([] : List Keyword).length + (if ([] : List Keyword).isEmpty then 0 else 1) < 30)) = true := by rfl)
    (hline : (apos.endLine == cpos.line) = true := by rfl) (hs : starEach [e] X.env = (false, eval e X.env) :: starEach [] X.env := by rfl) (hplain : (backTo cpos (starEach [] X.env)).any (·.1) = false := by rfl)
    (hsw : swapsWith (.Call (.Attribute o "extend" apos) [e] [] cpos) none pos.line X.env = pure false := by rfl) :
    PS X (.Expr (.Call (.Attribute o "extend" apos) [e] [] cpos) pos) (tS X.K (sExt Fo F)) := by
  refine psConv (ps_expr (pe_bm PySem.F.plainAttrs_list PySem.F.slot_list_extend PySem.F.type_list_extend mt_extA ho (a_cons he a_nil hs) hbase hfew hline hs hplain) hsw) fun Dn σ H h => ?_
  obtain ⟨ρ, env, st, out, st', S, E, e, p⟩ := h
  unfold sExt at e
  split at e
  · rename_i n st1 e1
    split at e
    · rename_i ys e2
      split at e
      · rename_i x st2 e3
        split at e
        · rename_i xs e4
          split at e
          · rename_i zs e5
            split at e
            · rename_i hl
              cases e
              refine tE_bind S E e1 fun ρ1 H1 v L1 S1 R1 E1 => ?_
              refine ⟨ty_list S1 R1 e2, ρ1, env, st1, [x], st2, S1, E1, by simp [fCons, fNil, e3], fun ρ2 H2 vs L2 S2 R2 => ?_⟩
              obtain ⟨w, rfl, rw'⟩ := reps1 R2
              obtain ⟨a, rfl, hn⟩ := Rep.mono L2 _ _ R1
              obtain ⟨us, h2, rr⟩ := S2.obj n _ a e4 hn
              have fin : ∀ ws : List V, Reps X.K ρ2 H2 zs ws → Dn.nx σ (upd H2 a (.lst (us ++ ws))) := fun ws rz => by
                have LW := Le.write (u' := .lst (us ++ ws)) (List.mem_of_getElem? hn) h2 (fun _ z => by cases z) (fun _ _ z => by cases z)
                exact p ρ2 _ σ ((L1.trans L2).trans LW) (S2.write hn h2 (fun _ z => by cases z) (fun _ _ z => by cases z) ⟨_, upd_same, Reps.mono LW _ _ (rr.append rz)⟩) ((E1.mono L2).mono LW)
              unfold extOf at e5
              split at e5
              · cases e5
                obtain ⟨b, ws, rfl, hs2, rz⟩ := rw'
                exact .inr ⟨a, b, us, ws, rfl, rfl, h2, hs2, by rw [← rr.length, ← rz.length, sizeLine_eq]; exact hl, fin ws rz⟩
              · obtain ⟨b, ws, rfl, hs2, rz⟩ := lstOf_rep S2 rw' e5
                exact .inl ⟨a, b, us, ws, rfl, rfl, h2, hs2, by rw [← rr.length, ← rz.length, sizeLine_eq]; exact hl, fin ws rz⟩
            · cases e
          · cases e
        · cases e
      · cases e
    · cases e
  · cases e
/-- o.reverse(), a statement -/
def sRev (Fo : FE) : FS := fun env st => match Fo env st with
  | some (.ref n, st1) => match st1[n]? with
    | some (.lst xs) => some (.nx env, st1.set n (.lst xs.reverse))
    | _ => none
  | _ => none
theorem s_rev {o : Expr} {Fo : FE} {apos cpos : Pos} (ho : PE X o (tE X.K Fo)) (hbase : attributeBase o "reverse" X.env (eval o X.env) = eval o X.env := by rfl) (hline : (apos.endLine == cpos.line) = true := by rfl)
    (hsw : swapsWith (.Call (.Attribute o "reverse" apos) [] [] cpos) none pos.line X.env = pure false := by rfl) : PS X (.Expr (.Call (.Attribute o "reverse" apos) [] [] cpos) pos) (tS X.K (sRev Fo)) := by
  refine psConv (ps_expr (pe_bm0 PySem.F.plainAttrs_list PySem.F.slot_list_reverse PySem.F.type_list_reverse mt_reverse ho hbase hline) hsw) fun Dn σ H h => ?_
  obtain ⟨ρ, env, st, out, st', S, E, e, p⟩ := h
  unfold sRev at e
  split at e
  · rename_i n st1 e1
    split at e
    · rename_i xs e2
      cases e
      refine tE_bind S E e1 fun ρ1 H1 v L1 S1 R1 E1 => ?_
      refine ⟨ty_list S1 R1 e2, ?_⟩
      obtain ⟨a, rfl, hn⟩ := R1
      obtain ⟨us, h2, rr⟩ := S1.obj n _ a e2 hn
      have LW := Le.write (u' := .lst us.reverse) (List.mem_of_getElem? hn) h2 (fun _ z => by cases z) (fun _ _ z => by cases z)
      exact ⟨a, us, rfl, rfl, h2, p ρ1 _ σ (L1.trans LW) (S1.write hn h2 (fun _ z => by cases z) (fun _ _ z => by cases z) ⟨_, upd_same, Reps.mono LW _ _ rr.rev⟩) (E1.mono LW)⟩
    · cases e
  · cases e
end
end Vm
/-! dicts of the store, with ints and texts as keys -/
namespace Vm
open PySem PySem.Spec PyProof.Rows L2
def keyD : D → Option Key
  | .int i => some (.inl i)
  | .str x => some (.inr x)
  | _ => none
def getD (kvs : List (Key × D)) (k : Key) : Option D := (kvs.find? fun kv => decide (kv.1 = k)).map (·.2)
def putD (kvs : List (Key × D)) (k : Key) (d : D) : List (Key × D) := if (kvs.any fun kv => decide (kv.1 = k)) = true then kvs.map (fun kv => if kv.1 = k then (kv.1, d) else kv) else kvs ++ [(k, d)]
section
variable {K : PySem.W.Frag} {ρ : Wn} {H : Hp}
theorem keyD_rep {d : D} {v : V} {k : Key} (r : Rep K ρ H d v) (e : keyD d = some k) : v = kV k := by
  unfold keyD at e
  split at e
  · cases e; exact r
  · cases e; exact r
  · cases e
theorem getD_rep : ∀ {kvs : List (Key × D)} {us : List (Key × V)} (k : Key), us.map (·.1) = kvs.map (·.1) → Reps K ρ H (kvs.map (·.2)) (us.map (·.2)) → (getD kvs k = none ∧ valV us k = none) ∨ ∃ d v, getD kvs k = some d ∧ valV us k = some v ∧ Rep K ρ H d v
  | [], us, k, e, r => by
    have : us = [] := by simpa using e
    subst this
    exact .inl ⟨rfl, rfl⟩
  | (j, d) :: kvs, us, k, e, r => by
    cases us with
    | nil => simp at e
    | cons u us =>
      obtain ⟨j', v⟩ := u
      simp only [List.map_cons, List.cons.injEq] at e
      obtain ⟨rfl, e⟩ := e
      simp only [List.map_cons] at r
      obtain ⟨v', w, e2, r1, r2⟩ := r
      simp only [List.cons.injEq] at e2
      obtain ⟨rfl, rfl⟩ := e2
      by_cases h : j' = k
      · exact .inr ⟨d, v, by simp [getD, h], valV_pos h, r1⟩
      · rcases getD_rep k e r2 with ⟨h1, h2⟩ | ⟨d', v', h1, h2, h3⟩
        · refine .inl ⟨?_, (valV_neg h).trans h2⟩
          rw [← h1]
          simp [getD, List.find?_cons, h]
        · refine .inr ⟨d', v', ?_, (valV_neg h).trans h2, h3⟩
          rw [← h1]
          simp [getD, List.find?_cons, h]
theorem putD_rep {kvs : List (Key × D)} {us : List (Key × V)} {k : Key} {d : D} {v : V} (e : us.map (·.1) = kvs.map (·.1)) (r : Reps K ρ H (kvs.map (·.2)) (us.map (·.2))) (rd : Rep K ρ H d v) :
    (putK us k v).map (·.1) = (putD kvs k d).map (·.1) ∧ Reps K ρ H ((putD kvs k d).map (·.2)) ((putK us k v).map (·.2)) := by
  have ea : (us.any fun kv => decide (kv.1 = k)) = (kvs.any fun kv => decide (kv.1 = k)) := by
    have h1 : (us.any fun kv => decide (kv.1 = k)) = (us.map (·.1)).any fun j => decide (j = k) := by simp [List.any_map, Function.comp_def]
    have h2 : (kvs.any fun kv => decide (kv.1 = k)) = (kvs.map (·.1)).any fun j => decide (j = k) := by simp [List.any_map, Function.comp_def]
    rw [h1, h2, e]
  unfold putK putD
  rw [ea]
  by_cases h : (kvs.any fun kv => decide (kv.1 = k)) = true
  · rw [if_pos h, if_pos h]
    clear h ea
    induction kvs generalizing us with
    | nil =>
      have : us = [] := by simpa using e
      subst this
      exact ⟨rfl, rfl⟩
    | cons p kvs ih =>
      cases us with
      | nil => simp at e
      | cons u us =>
        simp only [List.map_cons, List.cons.injEq] at e
        simp only [List.map_cons] at r
        obtain ⟨v', w, e2, r1, r2⟩ := r
        simp only [List.cons.injEq] at e2
        obtain ⟨rfl, rfl⟩ := e2
        obtain ⟨i1, i2⟩ := ih e.2 r2
        simp only [List.map_cons]
        by_cases hk : p.1 = k
        · have hu : u.1 = k := e.1.trans hk
          rw [if_pos hk, if_pos hu]
          exact ⟨by rw [i1, e.1], _, _, rfl, rd, i2⟩
        · have hu : ¬ u.1 = k := fun z => hk (e.1.symm.trans z)
          rw [if_neg hk, if_neg hu]
          exact ⟨by rw [i1, e.1], _, _, rfl, r1, i2⟩
  · rw [if_neg h, if_neg h]
    refine ⟨by simp [e], ?_⟩
    simp only [List.map_append, List.map_cons, List.map_nil]
    exact r.snoc rd
end
theorem peOr {X : Cx} {e : Expr} {t t' : TE} (h : PE X e t) (h' : PE X e t') : PE X e (fun σ H Q => t σ H Q ∨ t' σ H Q) := ⟨fun pins s σ H Q I q => by
  rcases q with q | q
  · exact h.run pins s σ H Q I q
  · exact h'.run pins s σ H Q I q⟩
section
variable {X : Cx} {pos : Pos}
/-- {} -/
def fDicN : FE := fun _ st => some (.ref st.length, st ++ [.dic []])
theorem e_dicN : PE X (.Dict [] [] pos) (tE X.K fDicN) := by
  refine peConv pe_dnewK fun σ H Q h => ?_
  obtain ⟨ρ, env, st, d, st', S, E, e, p⟩ := h
  cases e
  intro a ha
  have L := Le.push (ρ := ρ) (H := H) (o := .dK []) ha
  refine p _ _ _ L (S.push ha ⟨[], upd_same, rfl, rfl⟩) ⟨a, rfl, ?_⟩
  rw [← S.len, List.getElem?_append_right (Nat.le_refl _)]
  simp
/-- a[b]: of a dict of the store, or as ever -/
def dIdxA : D → D → Store → Option D := fun a b st => match a with
  | .ref n => match st[n]? with
    | some (.dic kvs) => match keyD b with
      | some k => getD kvs k
      | none => none
    | _ => dIdx a b st
  | _ => dIdx a b st
theorem e_idxA {a b : Expr} {F G : FE} (hu : X.A.units + 1 < cLine) (ha : PE X a (tE X.K F)) (hb : PE X b (tE X.K G)) (hs : PlainIx b := by exact fun _ _ => rfl) (hn : NoSl b := by exact fun _ _ => rfl) : PE X (.Subscript a b pos) (tE X.K (fBin dIdxA F G)) := by
  refine peConv (peOr (e_idx ha hb hs) (pe_dget hu ha hb hn)) fun σ H Q h => ?_
  obtain ⟨ρ, env, st, d, st', S, E, e, p⟩ := h
  unfold fBin at e
  split at e
  · rename_i x st1 e1
    split at e
    · rename_i y st2 e2
      split at e
      · rename_i d' e3
        cases e
        have old : dIdx x y st' = some d → tE X.K (fBin dIdx F G) σ H Q := fun q => ⟨ρ, env, st, d, st', S, E, by simp [fBin, e1, e2, q], p⟩
        unfold dIdxA at e3
        split at e3
        · rename_i n
          split at e3
          · rename_i kvs e4
            split at e3
            · rename_i k e5
              refine .inr (tE_bind S E e1 fun ρ1 H1 v L1 S1 R1 E1 => ?_)
              refine tE_bind S1 E1 e2 fun ρ2 H2 w L2 S2 R2 E2 => ?_
              obtain ⟨q, rfl, hn⟩ := Rep.mono L2 _ _ R1
              obtain ⟨us, h2, h3, h4⟩ := S2.obj n _ q e4 hn
              rcases getD_rep k h3 h4 with ⟨z, _⟩ | ⟨d2, v2, z, hv, rv⟩
              · rw [z] at e3; cases e3
              · rw [z] at e3
                cases e3
                exact ⟨q, v2, rfl, .inl ⟨us, k, .inl h2, keyD_rep R2 e5, hv.symm⟩, p ρ2 H2 _ (L1.trans L2) S2 rv⟩
            · cases e3
          · exact .inl (old e3)
        · exact .inl (old e3)
      · cases e
    · cases e
  · cases e
/-- b in a: a dict of the store, or as ever -/
def isInA : CmpF := fun b a st => match a with
  | .ref n => match st[n]? with
    | some (.dic kvs) => match keyD b with
      | some k => some (getD kvs k).isSome
      | none => none
    | _ => isIn b a st
  | _ => isIn b a st
def cInA : CmpF := isInA
def cNotInA : CmpF := fun b a st => match a with
  | .ref n => match st[n]? with
    | some (.dic kvs) => match keyD b with
      | some k => some (!(getD kvs k).isSome)
      | none => none
    | _ => cNotIn b a st
  | _ => cNotIn b a st
theorem op_dIn (hu : X.A.units + 1 < cLine) : OpR X (compareOp .In) (fun y x H Q => ∃ a o, x = .ref a ∧ DGet H a y o ∧ Q (.bl o.isSome) H) := by
  intro pins s σ H y x v u Q I ry rx h
  obtain ⟨a, o, rfl, g, q⟩ := h
  cases rx
  exact d_in hu I g ry fun s3 I3 => ⟨.bl o.isSome, H, I3, rfl, q⟩
theorem op_dNotIn (hu : X.A.units + 1 < cLine) : OpR X (compareOp .NotIn) (fun y x H Q => ∃ a o, x = .ref a ∧ DGet H a y o ∧ Q (.bl (!o.isSome)) H) := by
  intro pins s σ H y x v u Q I ry rx h
  obtain ⟨a, o, rfl, g, q⟩ := h
  cases rx
  exact d_notIn hu I g ry fun s3 I3 => ⟨.bl (!o.isSome), H, I3, rfl, q⟩
theorem dic_at {K : PySem.W.Frag} {ρ : Wn} {H : Hp} {st : Store} {n : Nat} {kvs : List (Key × D)} {b : D} {k : Key} {x y : V} (S : Sim K ρ st H) (ra : Rep K ρ H (.ref n) x) (rb : Rep K ρ H b y) (e4 : st[n]? = some (.dic kvs)) (e5 : keyD b = some k) : ∃ a o, x = .ref a ∧ DGet H a y o ∧ o.isSome = (getD kvs k).isSome := by
  obtain ⟨q, rfl, hn⟩ := ra
  obtain ⟨us, h2, h3, h4⟩ := S.obj n _ q e4 hn
  refine ⟨q, valV us k, rfl, .inl ⟨us, k, .inl h2, keyD_rep rb e5, rfl⟩, ?_⟩
  rcases getD_rep k h3 h4 with ⟨z, z2⟩ | ⟨d2, v2, z, z2, _⟩
  · rw [z, z2]; rfl
  · rw [z, z2]; rfl
theorem c_inA {k : Nat} (hr : Room k X.A) (hu : X.A.units + 1 < cLine) : CmpOk X .In cInA := by
  obtain ⟨r, h1, h2⟩ := (c_in (X := X) hr).ok
  refine ⟨_, (op_dIn hu).or h1, fun ρ H st b a y x j Q S rb ra e q => ?_⟩
  unfold cInA isInA at e
  split at e
  · split at e
    · rename_i kvs e4
      split at e
      · rename_i k e5
        cases e
        obtain ⟨a, o, rfl, g, ho⟩ := dic_at S ra rb e4 e5
        exact .inl ⟨a, o, rfl, g, by rw [ho]; exact q⟩
      · cases e
    · exact .inr (h2 ρ H st b _ y x j Q S rb ra e q)
  · exact .inr (h2 ρ H st b _ y x j Q S rb ra e q)
theorem c_notInA {k : Nat} (hr : Room k X.A) (hu : X.A.units + 1 < cLine) : CmpOk X .NotIn cNotInA := by
  obtain ⟨r, h1, h2⟩ := (c_notIn (X := X) hr).ok
  refine ⟨_, (op_dNotIn hu).or h1, fun ρ H st b a y x j Q S rb ra e q => ?_⟩
  unfold cNotInA at e
  split at e
  · split at e
    · rename_i kvs e4
      split at e
      · rename_i k e5
        cases e
        obtain ⟨a, o, rfl, g, ho⟩ := dic_at S ra rb e4 e5
        exact .inl ⟨a, o, rfl, g, by rw [ho]; exact q⟩
      · cases e
    · exact .inr (h2 ρ H st b _ y x j Q S rb ra e q)
  · exact .inr (h2 ρ H st b _ y x j Q S rb ra e q)
/-- o[i] = e, o a dict of the store -/
def sPutD (Fo Fi F : FE) : FS := fun env st => match F env st with
  | some (x, st1) => match Fo env st1 with
    | some (.ref n, st2) => match Fi env st2 with
      | some (i, st3) => match st3[n]? with
        | some (.dic kvs) => match keyD i with
          | some k => if kvs.length < 16777216 then some (.nx env, st3.set n (.dic (putD kvs k x))) else none
          | none => none
        | _ => none
      | none => none
    | _ => none
  | none => none
theorem s_putD {o i e : Expr} {Fo Fi F : FE} {spos : Pos} (hu : X.A.units + 1 < cLine) (he : PE X e (tE X.K F)) (ho : PE X o (tE X.K Fo)) (hi : PE X i (tE X.K Fi)) (hs : swapsWith e (some (.Subscript o i spos)) pos.line X.env = pure false := by rfl) :
    PS X (.Assign [.Subscript o i spos] e pos) (tS X.K (sPutD Fo Fi F)) := by
  refine psConv (ps_dput hu ho hi he hs) fun Dn σ H h => ?_
  obtain ⟨ρ, env, st, out, st', S, E, e, p⟩ := h
  unfold sPutD at e
  split at e
  · rename_i x st1 e1
    split at e
    · rename_i n st2 e2
      split at e
      · rename_i i' st3 e3
        split at e
        · rename_i kvs e4
          split at e
          · rename_i k e5
            split at e
            · rename_i hl
              cases e
              refine tE_bind S E e1 fun ρ1 H1 v L1 S1 R1 E1 => ?_
              refine tE_bind S1 E1 e2 fun ρ2 H2 ov L2 S2 R2 E2 => ?_
              refine tE_bind S2 E2 e3 fun ρ3 H3 iv L3 S3 R3 E3 => ?_
              obtain ⟨a, rfl, hn⟩ := Rep.mono L3 _ _ R2
              obtain ⟨us, h2, h3, h4⟩ := S3.obj n _ a e4 hn
              have hlen : us.length = kvs.length := by have := congrArg List.length h3; simpa using this
              have LW := Le.write (u' := .dK (putK us k v)) (List.mem_of_getElem? hn) h2 (fun _ z => by cases z) (fun _ _ z => by cases z)
              refine ⟨a, _, rfl, .inl ⟨us, k, h2, keyD_rep R3 e5, by rw [hlen, sizeLine_eq]; exact hl, rfl⟩, ?_⟩
              obtain ⟨g1, g2⟩ := putD_rep (k := k) h3 h4 (Rep.mono (L2.trans L3) _ _ R1)
              exact p ρ3 _ σ (((L1.trans L2).trans L3).trans LW) (S3.write hn h2 (fun _ z => by cases z) (fun _ _ z => by cases z) ⟨_, upd_same, g1, Reps.mono LW _ _ g2⟩) (E3.mono LW)
            · cases e
          · cases e
        · cases e
      · cases e
    · cases e
  · cases e
end
end Vm
/-! written dicts of numbers and texts -/
namespace Vm
open PySem PySem.Spec PyProof.Rows L2
def mergeD (kvs more : List (Key × D)) : List (Key × D) := more.foldl (fun acc kv => putD acc kv.1 kv.2) kvs
def cV : D → V
  | .int i => .int i
  | .str x => .str x
  | .bl b => .bl b
  | _ => .non
def isC : D → Bool
  | .int _ => true
  | .str _ => true
  | .bl _ => true
  | .non => true
  | _ => false
theorem isC_rep {K : PySem.W.Frag} {ρ : Wn} {H : Hp} {d : D} (h : isC d = true) : Rep K ρ H d (cV d) := by
  cases d <;> simp [isC] at h <;> rfl
theorem merge_rep {K : PySem.W.Frag} {ρ : Wn} {H : Hp} : ∀ (more : List (Key × D)) {kvs : List (Key × D)} {us : List (Key × V)}, (∀ kv ∈ more, isC kv.2 = true) → us.map (·.1) = kvs.map (·.1) → Reps K ρ H (kvs.map (·.2)) (us.map (·.2)) →
    (mergeK us (more.map fun kv => (kv.1, cV kv.2))).map (·.1) = (mergeD kvs more).map (·.1) ∧ Reps K ρ H ((mergeD kvs more).map (·.2)) ((mergeK us (more.map fun kv => (kv.1, cV kv.2))).map (·.2))
  | [], _, _, _, e, r => ⟨e, r⟩
  | (k, d) :: more, kvs, us, hc, e, r => by
    obtain ⟨g1, g2⟩ := putD_rep (k := k) e r (isC_rep (hc (k, d) List.mem_cons_self))
    exact merge_rep more (fun kv h => hc kv (List.mem_cons_of_mem _ h)) g1 g2
theorem pairs_c {σ : L2.St} : ∀ (kvs : List (Key × D)) (H : Hp) (Q : List (V × V) → Hp → Prop), Q (kvs.map fun kv => (kV kv.1, cV kv.2)) H → tPairs (kvs.map fun kv => (tC (kV kv.1), tC (cV kv.2))) σ H Q
  | [], _, _, q => q
  | (k, d) :: kvs, H, Q, q => pairs_c kvs H (fun ps H3 => Q ((kV k, cV d) :: ps) H3) q
section
variable {X : Cx} {pos : Pos}
def fDisp (kvs : List (Key × D)) : FE := fun _ st => some (.ref st.length, st ++ [.dic (mergeD [] kvs)])
theorem e_disp (kvs : List (Key × D)) {keys : List (Option Expr)} {values : List Expr} (h : PPs X pos keys values (kvs.map fun kv => (tC (kV kv.1), tC (cV kv.2)))) (hc : ∀ kv ∈ kvs, isC kv.2 = true) (hall : keys.all (·.isSome) = true) (hl : keys.length = values.length) (h0 : keys ≠ []) (h15 : keys.length ≤ 15) (h2 : kvs.length ≤ 15) :
    PE X (.Dict keys values pos) (tE X.K (fDisp kvs)) := by
  refine peConv (pe_disp h hall hl h0 h15) fun σ H Q h => ?_
  obtain ⟨ρ, env, st, d, st', S, E, e, p⟩ := h
  cases e
  intro a ha
  refine pairs_c kvs _ _ ⟨upd_same, kvs.map fun kv => (kv.1, cV kv.2), by simp [List.map_map, Function.comp_def], by simpa using h2, ?_⟩
  obtain ⟨g1, g2⟩ := merge_rep (K := X.K) (ρ := ρ) (H := H) kvs (kvs := []) (us := []) hc rfl rfl
  rw [show upd (upd H a (.dK [])) a (.dK (mergeK [] (kvs.map fun kv => (kv.1, cV kv.2)))) = upd H a (.dK (mergeK [] (kvs.map fun kv => (kv.1, cV kv.2)))) from funext fun b => by
    by_cases z : b = a
    · rw [z, upd_same, upd_same]
    · rw [upd_ne z, upd_ne z, upd_ne z]]
  have L := Le.push (ρ := ρ) (H := H) (o := .dK (mergeK [] (kvs.map fun kv => (kv.1, cV kv.2)))) ha
  refine p _ _ _ L (S.push ha ⟨_, upd_same, g1, Reps.mono L _ _ g2⟩) ⟨a, rfl, ?_⟩
  rw [← S.len, List.getElem?_append_right (Nat.le_refl _)]
  simp
end
end Vm
/-! a dict of the module; repr of a dict of the store -/
namespace Vm
open PySem PySem.Spec PyProof.Rows L2
/-- a dict of texts that the module holds -/
structure GD (K : PySem.W.Frag) (w : World) (mg : Str → Option Value) (x : Str) (kvs : List (Str × D)) : Prop where
  ex : ∃ a, mg x = some (.ref a) ∧ ∀ kv ∈ kvs, isC kv.2 = true ∧ KDct K w a kv.1 (cV kv.2)
def getS (kvs : List (Str × D)) (x : Str) : Option D := (kvs.find? fun kv => decide (kv.1 = x)).map (·.2)
def fGD (kvs : List (Str × D)) (F : FE) : FE := fun env st => match F env st with
  | some (.str x, st1) => match getS kvs x with
    | some d => some (d, st1)
    | none => none
  | _ => none
section
variable {X : Cx} {pos : Pos}
theorem e_gd {x : Str} {i : Expr} {p : Pos} {kvs : List (Str × D)} {F : FE} (hg : Gl X x) (G : GD X.K X.w X.mg x kvs) (hi : PE X i (tE X.K F)) (hs : PlainIx i := by exact fun _ _ => rfl) (hdb : (x == ("__debug__" : Str)) = false := by decide) :
    PE X (.Subscript (.Name x p) i pos) (tE X.K (fGD kvs F)) := by
  obtain ⟨a, gm, gv⟩ := G.ex
  refine peConv (pe_ix ix_kdict (pe_glob (v := .ref a) hg gm rfl hdb) hi hs) fun σ H Q h => ?_
  obtain ⟨ρ, env, st, d, st', S, E, e, p⟩ := h
  unfold fGD at e
  split at e
  · rename_i z st1 e1
    split at e
    · rename_i d' e2
      cases e
      refine tE_bind S E e1 fun ρ1 H1 v L1 S1 R1 E1 => ?_
      unfold getS at e2
      obtain ⟨kv, e3, rfl⟩ := Option.map_eq_some_iff.mp e2
      have hz : kv.1 = z := by simpa using List.find?_some e3
      obtain ⟨c1, c2⟩ := gv kv (List.mem_of_find?_eq_some e3)
      exact ⟨a, z, cV kv.2, rfl, R1, hz ▸ c2, p ρ1 H1 _ L1 S1 (isC_rep c1)⟩
    · cases e
  · cases e
end
/-! repr of a dict -/
mutual
/-- no list within -/
def nl : D → Bool
  | .non => true
  | .bl _ => true
  | .int _ => true
  | .str _ => true
  | .tup ds => nls ds
  | _ => false
def nls : List D → Bool
  | [] => true
  | d :: ds => nl d && nls ds
end
def kD : Key → PyData
  | .inl i => .int i
  | .inr x => .str x
def pdk (kvs : List (Key × D)) : List (PyData × PyData) := kvs.map fun kv => (kD kv.1, pd kv.2)
section
variable {X : Cx} {pins : List (Addr × Obj)} {σ : L2.St} {H : Hp} {s : Shared} {ρ : Wn}
mutual
theorem reads_nl (I : Inv X pins σ H s) : ∀ (d : D) (v : V) (u : Value), nl d = true → Rep X.K ρ H d v → RelV v u → Reads s.heap u (pd d) []
  | .non, v, u, _, r, rv => by
    obtain rfl : v = .non := r
    cases rv
    simp only [pd]
    exact .none
  | .bl b, v, u, _, r, rv => by
    obtain rfl : v = .bl b := r
    cases rv
    simp only [pd]
    exact .bool b
  | .int i, v, u, _, r, rv => by
    obtain rfl : v = .int i := r
    obtain ⟨t, rfl⟩ := rv
    simp only [pd]
    exact .int i t
  | .str x, v, u, _, r, rv => by
    obtain rfl : v = .str x := r
    obtain ⟨t, rfl⟩ := rv
    simp only [pd]
    exact .str x t
  | .tup ds, v, u, h, r, rv => by
    obtain ⟨a, vs, rfl, hs, rr⟩ := r
    cases rv
    obtain ⟨its, r1, ⟨o, go, hc, n, hd⟩, _⟩ := I.tuple hs
    simp only [pd]
    exact .tuple go hc hd (reads_nls I ds vs its (by simpa [nl] using h) rr r1)
  | .tl _, _, _, h, _, _ => by simp [nl] at h
  | .sl _, _, _, h, _, _ => by simp [nl] at h
  | .ref _, _, _, h, _, _ => by simp [nl] at h
  | .ty _, _, _, h, _, _ => by simp [nl] at h
theorem reads_nls (I : Inv X pins σ H s) : ∀ (ds : List D) (vs : List V) (us : List Value), nls ds = true → Reps X.K ρ H ds vs → Vals vs us → ReadsAll s.heap us (pds ds) []
  | [], vs, us, _, r, rv => by
    obtain rfl : vs = [] := r
    cases rv
    simp only [pds]
    exact .nil
  | d :: ds, vs, us, h, r, rv => by
    obtain ⟨v, w, rfl, r1, r2⟩ := r
    simp only [nls, Bool.and_eq_true] at h
    cases rv with
    | cons q1 q2 =>
      simp only [pds]
      exact .cons (reads_nl I d v _ h.1 r1 q1) (reads_nls I ds w _ h.2 r2 q2)
end
theorem reads_kvs (I : Inv X pins σ H s) : ∀ (kvs : List (Key × D)) (us : List (Key × V)) (vs : List (Key × Value)) (es : List DictEntry), (∀ kv ∈ kvs, nl kv.2 = true) → us.map (·.1) = kvs.map (·.1) → Reps X.K ρ H (kvs.map (·.2)) (us.map (·.2)) → KV us vs → PySem.Pairs (mixKind X.prog X.w) es vs →
    ReadsAll s.heap (es.map (·.key)) ((pdk kvs).map (·.1)) [] ∧ ReadsAll s.heap (es.map (·.val)) ((pdk kvs).map (·.2)) []
  | [], us, vs, es, _, e, _, kv, ps => by
    have : us = [] := by simpa using e
    subst this
    cases kv
    cases ps
    exact ⟨.nil, .nil⟩
  | (k, d) :: kvs, us, vs, es, hn, e, r, kv, ps => by
    cases us with
    | nil => simp at e
    | cons u us =>
      simp only [List.map_cons, List.cons.injEq] at e
      simp only [List.map_cons] at r
      obtain ⟨v, w, e2, r1, r2⟩ := r
      simp only [List.cons.injEq] at e2
      obtain ⟨rfl, rfl⟩ := e2
      cases kv with
      | cons q1 q2 =>
        cases ps with
        | @cons en _ _ _ p1 p2 p3 =>
          obtain ⟨g1, g2⟩ := reads_kvs I kvs us _ _ (fun x hx => hn x (List.mem_cons_of_mem _ hx)) e.2 r2 q2 p3
          refine ⟨?_, ?_⟩
          · refine ReadsAll.cons (as := []) (bs := []) ?_ g1
            have hk : keyIs k en.key = true := by rw [← e.1, q1.1]; exact p1
            show Reads s.heap en.key (kD k) []
            rcases keyIs_shape hk with ⟨i, t, rfl, ek⟩ | ⟨x, t, rfl, ek⟩
            · rw [ek]; exact .int i t
            · rw [ek]; exact .str x t
          · refine ReadsAll.cons (as := []) (bs := []) ?_ g2
            show Reads s.heap en.val (pd d) []
            rw [p2]
            exact reads_nl I d u.2 _ (hn (k, d) List.mem_cons_self) r1 q1.2
end
def shwK (kvs : List (Key × D)) : Bool := (PyData.dict (pdk kvs)).showable && decide ((PyData.dict (pdk kvs)).depth ≤ 60) && decide ((PyData.dict (pdk kvs)).shown.length ≤ 16777216) && kvs.all fun kv => nl kv.2
def bReprA : BF
  | [.ref n], st => match st[n]? with
    | some (.dic kvs) => if shwK kvs then some (.str (PyData.dict (pdk kvs)).shown, st) else none
    | _ => bRepr [.ref n] st
  | ds, st => bRepr ds st
section
variable {X : Cx}
def rReprK (K : PySem.W.Frag) : List V → Hp → VK → Prop := fun vs H Q => ∃ ρ a us kvs, vs = [.ref a] ∧ H a = some (.dK us) ∧ us.map (·.1) = kvs.map (·.1) ∧ Reps K ρ H (kvs.map (·.2)) (us.map (·.2)) ∧ shwK kvs = true ∧ Q (.str (PyData.dict (pdk kvs)).shown) H
theorem call_reprK {k : Nat} (hr : Room k X.A) (hg : X.A.guards = some []) : CallR X (.builtin "repr") (rReprK X.K) := by
  intro pins s σ H xs us Q I rv h
  obtain ⟨ρ, a, ws, kvs, rfl, ha, e, r, hw, q⟩ := h
  obtain ⟨u, rfl, ru⟩ := vals1 rv
  cases ru
  unfold shwK at hw
  simp only [Bool.and_eq_true, decide_eq_true_eq] at hw
  obtain ⟨⟨⟨h1, h2⟩, h3⟩, h4⟩ := hw
  obtain ⟨_, hd, vs, kv, o, es, ep, go, gx, gd, _, ps, _⟩ := dk_of I.hok ha
  obtain ⟨g1, g2⟩ := reads_kvs I kvs ws vs es.toList (fun x hx => List.all_eq_true.mp h4 x hx) e r kv ps
  have rd : Reads s.heap (.ref a) (.dict (pdk kvs)) (a :: [] ++ []) := .dict go gx.1 gd g1 g2
  refine repr_of_reads' rd h1 (fun _ z => ?_) hg (by have := hr.un; omega) (fun _ _ e => e) (fun h' t tk hk => ?_) (by rw [sizeLine_eq]; exact h3)
  · have : sysModules = a := by simpa using z
    rw [← this] at hd
    exact absurd hd (by decide)
  · exact ⟨.str _, H, I.kept (t' := tk) hk, ⟨_, rfl⟩, q⟩
theorem b_reprA {k : Nat} (hr : Room k X.A) (hg : X.A.guards = some []) : CallOk X (.builtin "repr") bReprA := by
  obtain ⟨r, h1, h2⟩ := (b_repr hr hg).ok
  refine ⟨_, callR_or (call_reprK hr hg) h1, fun ρ H st ds vs d st' Q S R e p => ?_⟩
  unfold bReprA at e
  split at e
  · rename_i n
    split at e
    · rename_i kvs e1
      split at e
      · rename_i hw
        cases e
        obtain ⟨v, rfl, rv⟩ := reps1 R
        obtain ⟨a, rfl, hn⟩ := rv
        obtain ⟨us, g1, g2, g3⟩ := S.obj n _ a e1 hn
        exact .inl ⟨ρ, a, us, kvs, rfl, g1, g2, g3, hw, p ρ H _ Le.refl S rfl⟩
      · cases e
    · exact .inr (h2 ρ H st _ vs d st' Q S R e p)
  · exact .inr (h2 ρ H st _ vs d st' Q S R e p)
end
end Vm
namespace k02
open PySem PySem.Spec PyProof.Rows L2 Vm
def topS (i : Nat) : Stmt := PySem.Challenge.pw_cellvouch_k02_what_words_stand_for.main.body.getD i (.Pass ⟨0, 0, 0, 0⟩)
def GD_OTHER_WAY : List (Str × D) := [("one", .str "one"), ("row", .str "back"), ("back", .str "row")]
structure Tx (K : PySem.W.Frag) (w : World) (mg : Str → Option Value) : Prop where
  d_OTHER_WAY : GD K w mg "OTHER_WAY" GD_OTHER_WAY
  n_abs : mg "abs" = none
  n_bool : mg "bool" = none
  n_int : mg "int" = none
  n_isinstance : mg "isinstance" = none
  n_len : mg "len" = none
  n_list : mg "list" = none
  n_max : mg "max" = none
  n_min : mg "min" = none
  n_range : mg "range" = none
  n_repr : mg "repr" = none
  n_str : mg "str" = none
  n_tuple : mg "tuple" = none
abbrev N_is_whole : List Str := ["thing"]
theorem sc_is_whole : FnScope N_is_whole ["thing"] (defScope (topS 2)) := ⟨rfl, rfl, rfl, by decide +kernel, rfl, by decide +kernel, by decide +kernel⟩
noncomputable def B_is_whole : FS := sRet (fAnd (fIsi .int (fVar 0)) (fNot (fIsi .bl (fVar 0))))
noncomputable def F_is_whole : FnF := fnD 1 1 B_is_whole
abbrev N_turned : List Str := ["word", "kind", "term"]
theorem sc_turned : FnScope N_turned ["word"] (defScope (topS 3)) := ⟨rfl, rfl, rfl, by decide +kernel, rfl, by decide +kernel, by decide +kernel⟩
noncomputable def B_turned : FS := sRet (fBlt bTuple (fCons (fComp [1, 2] (iVal (fRev (fVar 0))) (gTupF 2 (gConsF (gSet 1) (gConsF (gSet 2) (gNilF)))) (tYesF) (fTup (fCons (fGD GD_OTHER_WAY (fVar 1)) (fCons (fVar 2) (fNil))))) (fNil)))
noncomputable def F_turned : FnF := fnD 1 3 B_turned
abbrev N__law_feed : List Str := ["script", "k", "cell", "digits", "state"]
theorem sc__law_feed : FnScope N__law_feed ["script", "k"] (defScope (topS 8)) := ⟨rfl, rfl, rfl, by decide +kernel, rfl, by decide +kernel, by decide +kernel⟩
noncomputable def B__law_feed : FS := sSeq (sSet 2 (fIte (tCmpF cLt (fVar 1) (fBlt bLen (fCons (fVar 0) (fNil)))) (fBin dIdx (fVar 0) (fVar 1)) (fBin dAdd (fBin dMul (fCon (.int 71)) (fVar 1)) (fCon (.int 23)))))
  (sSeq (sSet 3 (fBlt bMax (fCons (fCon (.int 0)) (fCons (fBin dSub (fBlt bAbs (fCons (fVar 2) (fNil))) (fBin dPow (fCon (.int 10)) (fCon (.int 18)))) (fNil)))))
  (sSeq (sSet 4 (fBin dMod (fBin dAdd (fBin dAdd (fBin dMul (fVar 2) (fCon (.int 6364136223846793005))) (fBin dMul (fCon (.int 9973)) (fVar 1))) (fCon (.int 1442695040888963407))) (fCon (.int 2305843009213693951))))
  (sRet (fLstS (fCons (fVar 3) (fCons (fVar 4) (fNil)))))))
noncomputable def F__law_feed : FnF := fnD 2 5 B__law_feed
abbrev N__law_take : List Str := ["feed", "many", "found"]
theorem sc__law_take : FnScope N__law_take ["feed", "many"] (defScope (topS 9)) := ⟨rfl, rfl, rfl, by decide +kernel, rfl, by decide +kernel, by decide +kernel⟩
noncomputable def B__law_take : FS := sSeq (sIf (tCmpF cGt (fBin dIdx (fVar 0) (fCon (.int 0))) (fCon (.int 0))) (sSeq (sSet 2 (fBin dMod (fBin dIdx (fVar 0) (fCon (.int 0))) (fVar 1)))
  (sSeq (sPut (fVar 0) (fCon (.int 0)) (fBin dFdiv (fBin dIdx (fVar 0) (fCon (.int 0))) (fVar 1)))
  (sRet (fVar 2)))) (sNil))
  (sSeq (sPut (fVar 0) (fCon (.int 1)) (fBin dMod (fBin dAdd (fBin dMul (fBin dIdx (fVar 0) (fCon (.int 1))) (fCon (.int 6364136223846793005))) (fCon (.int 1442695040888963407))) (fCon (.int 2305843009213693951))))
  (sRet (fBin dMod (fBin dFdiv (fBin dIdx (fVar 0) (fCon (.int 1))) (fCon (.int 65536))) (fVar 1))))
noncomputable def F__law_take : FnF := fnD 2 3 B__law_take
abbrev N__law_row : List Str := ["word", "worths", "found", "sort", "inner", "row"]
theorem sc__law_row : FnScope N__law_row ["word", "worths"] (defScope (topS 14)) := ⟨rfl, rfl, rfl, by decide +kernel, rfl, by decide +kernel, by decide +kernel⟩
noncomputable def B__law_row : FS := sSeq (sSet 2 (fLstS (fNil)))
  (sSeq (sFor (iVal (fVar 0)) (gTupF 2 (gConsF (gSet 3) (gConsF (gSet 4) (gNilF)))) (sIf (tCmpF cEq (fVar 3) (fCon (.str "one"))) (sApp (fVar 2) (fIte (tTru (fIsi .str (fVar 4))) (fBin dIdxA (fVar 1) (fVar 4)) (fVar 4))) (sSeq (sSet 5 (fBlt bListS (fCons (fBin dIdxA (fVar 1) (fVar 4)) (fNil))))
  (sSeq (sIf (tCmpF cEq (fVar 3) (fCon (.str "back"))) (sRev (fVar 5)) (sNil))
  (sSet 2 (fAddS (fVar 2) (fVar 5)))))))
  (sRet (fBlt bTuple (fCons (fVar 2) (fNil)))))
noncomputable def F__law_row : FnF := fnD 2 6 B__law_row
abbrev N_number_of : List Str := ["term", "worths"]
theorem sc_number_of : FnScope N_number_of ["term", "worths"] (defScope (topS 4)) := ⟨rfl, rfl, rfl, by decide +kernel, rfl, by decide +kernel, by decide +kernel⟩
noncomputable def B_number_of : FS := sRet (fIte (tTru (fCall 1 F_is_whole (fCons (fVar 0) (fNil)))) (fVar 0) (fBin dIdxA (fVar 1) (fVar 0)))
noncomputable def F_number_of : FnF := fnD 2 2 B_number_of
abbrev N__law_pick : List Str := ["feed", "some"]
theorem sc__law_pick : FnScope N__law_pick ["feed", "some"] (defScope (topS 10)) := ⟨rfl, rfl, rfl, by decide +kernel, rfl, by decide +kernel, by decide +kernel⟩
noncomputable def B__law_pick : FS := sRet (fBin dIdx (fVar 1) (fCall 2 F__law_take (fCons (fVar 0) (fCons (fBlt bLen (fCons (fVar 1) (fNil))) (fNil)))))
noncomputable def F__law_pick : FnF := fnD 2 2 B__law_pick
abbrev N__law_names : List Str := ["feed", "many", "letters", "first", "tail", "k"]
theorem sc__law_names : FnScope N__law_names ["feed", "many"] (defScope (topS 11)) := ⟨rfl, rfl, rfl, by decide +kernel, rfl, by decide +kernel, by decide +kernel⟩
noncomputable def B__law_names : FS := sSeq (sSet 2 (fCon (.str "abcdefghijklmnopqrstuvwxyz")))
  (sSeq (sSet 3 (fCall 2 F__law_take (fCons (fVar 0) (fCons (fCon (.int 26)) (fNil)))))
  (sSeq (sSet 4 (fBin dMul (fBin dIdx (fVar 2) (fCall 2 F__law_take (fCons (fVar 0) (fCons (fCon (.int 26)) (fNil))))) (fCall 2 F__law_take (fCons (fVar 0) (fCons (fCon (.int 8)) (fNil))))))
  (sRet (fComp [5] (iRange1 (fCons (fVar 1) (fNil))) (gSet 5) (tYesF) (fBin dAdd (fBin dIdx (fVar 2) (fBin dMod (fBin dAdd (fVar 3) (fBin dMul (fCon (.int 5)) (fVar 5))) (fCon (.int 26)))) (fVar 4))))))
noncomputable def F__law_names : FnF := fnD 2 6 B__law_names
abbrev N_piece_row : List Str := ["piece", "worths", "kind", "term"]
theorem sc_piece_row : FnScope N_piece_row ["piece", "worths"] (defScope (topS 5)) := ⟨rfl, rfl, rfl, by decide +kernel, rfl, by decide +kernel, by decide +kernel⟩
noncomputable def B_piece_row : FS := sSeq (sAsg (gTupF 2 (gConsF (gSet 2) (gConsF (gSet 3) (gNilF)))) (fVar 0))
  (sSeq (sIf (tCmpF cEq (fVar 2) (fCon (.str "one"))) (sRet (fTup (fCons (fCall 2 F_number_of (fCons (fVar 3) (fCons (fVar 1) (fNil)))) (fNil)))) (sNil))
  (sRet (fIte (tCmpF cEq (fVar 2) (fCon (.str "row"))) (fBin dIdxA (fVar 1) (fVar 3)) (fRev (fBin dIdxA (fVar 1) (fVar 3))))))
noncomputable def F_piece_row : FnF := fnD 2 4 B_piece_row
abbrev N__law_number : List Str := ["feed", "far"]
theorem sc__law_number : FnScope N__law_number ["feed"] (defScope (topS 12)) := ⟨rfl, rfl, rfl, by decide +kernel, rfl, by decide +kernel, by decide +kernel⟩
noncomputable def B__law_number : FS := sSeq (sSet 1 (fLst (fCons (fBin dSub (fBin dPow (fCon (.int 10)) (fCon (.int 9))) (fCon (.int 1))) (fCons (fBin dSub (fCon (.int 1)) (fBin dPow (fCon (.int 10)) (fCon (.int 9)))) (fCons (fBin dSub (fCall 2 F__law_take (fCons (fVar 0) (fCons (fBin dPow (fCon (.int 10)) (fCon (.int 9))) (fNil)))) (fBin dMul (fCon (.int 5)) (fBin dPow (fCon (.int 10)) (fCon (.int 8))))) (fNil))))))
  (sRet (fCall 2 F__law_pick (fCons (fVar 0) (fCons (fLst (fCons (fCon (.int 0)) (fCons (fCon (.int 1)) (fCons (fNeg (fCon (.int 1))) (fCons (fCall 2 F__law_take (fCons (fVar 0) (fCons (fCon (.int 9)) (fNil)))) (fCons (fCall 2 F__law_take (fCons (fVar 0) (fCons (fCon (.int 60)) (fNil)))) (fCons (fCall 2 F__law_pick (fCons (fVar 0) (fCons (fVar 1) (fNil)))) (fNil)))))))) (fNil)))))
noncomputable def F__law_number : FnF := fnD 1 2 B__law_number
abbrev N_row_of : List Str := ["word", "worths", "row", "piece"]
theorem sc_row_of : FnScope N_row_of ["word", "worths"] (defScope (topS 6)) := ⟨rfl, rfl, rfl, by decide +kernel, rfl, by decide +kernel, by decide +kernel⟩
noncomputable def B_row_of : FS := sSeq (sSet 2 (fLstS (fNil)))
  (sSeq (sFor (iVal (fVar 0)) (gSet 3) (sExt (fVar 2) (fCall 2 F_piece_row (fCons (fVar 3) (fCons (fVar 1) (fNil))))))
  (sRet (fBlt bTuple (fCons (fVar 2) (fNil)))))
noncomputable def F_row_of : FnF := fnD 2 4 B_row_of
abbrev N__law_word : List Str := ["feed", "numbers", "rows", "most", "found", "turn", "some"]
theorem sc__law_word : FnScope N__law_word ["feed", "numbers", "rows", "most"] (defScope (topS 13)) := ⟨rfl, rfl, rfl, by decide +kernel, rfl, by decide +kernel, by decide +kernel⟩
noncomputable def B__law_word : FS := sSeq (sSet 4 (fLstS (fNil)))
  (sSeq (sFor (iRange1 (fCons (fCall 2 F__law_take (fCons (fVar 0) (fCons (fBin dAdd (fVar 3) (fCon (.int 1))) (fNil)))) (fNil))) (gSet 5) (sSeq (sSet 6 (fLst (fCons (fTup (fCons (fCon (.str "one")) (fCons (fCall 2 F__law_pick (fCons (fVar 0) (fCons (fVar 1) (fNil)))) (fNil)))) (fCons (fTup (fCons (fCon (.str "one")) (fCons (fCall 1 F__law_number (fCons (fVar 0) (fNil))) (fNil)))) (fNil)))))
  (sSeq (sSet 6 (fBin dAdd (fVar 6) (fLst (fCons (fTup (fCons (fCon (.str "row")) (fCons (fCall 2 F__law_pick (fCons (fVar 0) (fCons (fVar 2) (fNil)))) (fNil)))) (fCons (fTup (fCons (fCon (.str "back")) (fCons (fCall 2 F__law_pick (fCons (fVar 0) (fCons (fVar 2) (fNil)))) (fNil)))) (fNil))))))
  (sApp (fVar 4) (fCall 2 F__law_pick (fCons (fVar 0) (fCons (fVar 6) (fNil))))))))
  (sRet (fBlt bTuple (fCons (fVar 4) (fNil)))))
noncomputable def F__law_word : FnF := fnD 4 7 B__law_word
abbrev N__law_worths : List Str := ["feed", "numbers", "rows", "found", "name", "turn"]
theorem sc__law_worths : FnScope N__law_worths ["feed", "numbers", "rows"] (defScope (topS 15)) := ⟨rfl, rfl, rfl, by decide +kernel, rfl, by decide +kernel, by decide +kernel⟩
noncomputable def B__law_worths : FS := sSeq (sSet 3 (fDicN))
  (sSeq (sFor (iVal (fVar 1)) (gSet 4) (sPutD (fVar 3) (fVar 4) (fCall 1 F__law_number (fCons (fVar 0) (fNil)))))
  (sSeq (sFor (iVal (fVar 2)) (gSet 4) (sPutD (fVar 3) (fVar 4) (fBlt bTuple (fCons (fComp [5] (iRange1 (fCons (fCall 2 F__law_take (fCons (fVar 0) (fCons (fCall 2 F__law_pick (fCons (fVar 0) (fCons (fLst (fCons (fCon (.int 2)) (fCons (fCon (.int 4)) (fCons (fCon (.int 10)) (fNil))))) (fNil)))) (fNil)))) (fNil))) (gSet 5) (tYesF) (fCall 1 F__law_number (fCons (fVar 0) (fNil)))) (fNil)))))
  (sRet (fVar 3))))
noncomputable def F__law_worths : FnF := fnD 3 6 B__law_worths
abbrev N_law : List Str := ["script", "k", "feed", "names", "worths", "word", "seen", "due", "told", "other", "pairs", "sort", "inner"]
theorem sc_law : FnScope N_law ["script"] (defScope (topS 16)) := ⟨rfl, rfl, rfl, by decide +kernel, rfl, by decide +kernel, by decide +kernel⟩
noncomputable def B_law : FS := sSeq (sFor (iRange1 (fCons (fBlt bMax (fCons (fCon (.int 2)) (fCons (fBlt bMin (fCons (fCon (.int 8)) (fCons (fBlt bLen (fCons (fVar 0) (fNil))) (fNil)))) (fNil)))) (fNil))) (gSet 1) (sSeq (sSet 2 (fCall 2 F__law_feed (fCons (fVar 0) (fCons (fVar 1) (fNil)))))
  (sSeq (sSet 3 (fCall 2 F__law_names (fCons (fVar 2) (fCons (fCon (.int 6)) (fNil)))))
  (sSeq (sSet 4 (fCall 3 F__law_worths (fCons (fVar 2) (fCons (fCut (fVar 3) (oNone) (oSome (fCon (.int 3)))) (fCons (fCut (fVar 3) (oSome (fCon (.int 3))) (oNone)) (fNil))))))
  (sSeq (sSet 5 (fCall 4 F__law_word (fCons (fVar 2) (fCons (fCut (fVar 3) (oNone) (oSome (fCon (.int 3)))) (fCons (fCut (fVar 3) (oSome (fCon (.int 3))) (oNone)) (fCons (fCon (.int 6)) (fNil)))))))
  (sSeq (sSet 6 (fBlt bReprA (fCons (fVar 4) (fNil))))
  (sSeq (sSet 7 (fCall 2 F__law_row (fCons (fVar 5) (fCons (fVar 4) (fNil)))))
  (sSeq (sSet 8 (fCall 2 F_row_of (fCons (fVar 5) (fCons (fVar 4) (fNil)))))
  (sSeq (sIf (tOrF (tNotF (tTru (fIsi .tup (fVar 8)))) (tOrF (tCmpF cNe (fVar 8) (fVar 7)) (tCmpF cNeS (fBlt bReprA (fCons (fVar 4) (fNil))) (fVar 6)))) (sRet (fCon (.bl false))) (sNil))
  (sSeq (sSet 9 (fCall 1 F_turned (fCons (fVar 5) (fNil))))
  (sSeq (sSet 10 (fComp [11, 12] (iVal (fVar 5)) (gTupF 2 (gConsF (gSet 11) (gConsF (gSet 12) (gNilF)))) (tYesF) (fTup (fCons (fBin dIdxA (fDisp [(.inr "one", .str "one"), (.inr "row", .str "back"), (.inr "back", .str "row")]) (fVar 11)) (fCons (fVar 12) (fNil))))))
  (sSeq (sIf (tOrF (tNotF (tTru (fIsi .tup (fVar 9)))) (tCmpF cNe (fVar 9) (fBlt bTuple (fCons (fRev (fVar 10)) (fNil))))) (sRet (fCon (.bl false))) (sNil))
  (sIf (tOrF (tCmpF cNe (fCall 2 F_row_of (fCons (fVar 9) (fCons (fVar 4) (fNil)))) (fRev (fVar 7))) (tCmpF cNe (fCall 1 F_turned (fCons (fVar 9) (fNil))) (fVar 5))) (sRet (fCon (.bl false))) (sNil))))))))))))))
  (sRet (fAnd (fCmp cEq (fCall 2 F_row_of (fCons (fTup (fNil)) (fCons (fDicN) (fNil)))) (fTup (fNil))) (fCmp cEq (fCall 1 F_turned (fCons (fTup (fNil)) (fNil))) (fTup (fNil)))))
noncomputable def F_law : FnF := fnD 1 13 B_law
section
variable {P : Program} {w : World} {K : PySem.W.Frag} {mg : Str → Option Value} {base : Heap}
theorem ok_is_whole (T : Tx K w mg) (D : Df K mg "is_whole" (topS 2) ["thing"])  : Ok P w K mg base 1 "is_whole" 1 F_is_whole := by
  have sc := sc_is_whole
  refine fn_okO D sc fun cdv A outer s H E f hr => ?_
  exact (ss_one (s_ret (e_and (e_isi .int (by rfl) T.n_isinstance (by rfl) T.n_int boot_int (e_var 0)) (e_one (e_not (e_isi .bl (by rfl) T.n_isinstance (by rfl) T.n_bool boot_bool (e_var 0)))))))
theorem ok_turned (T : Tx K w mg) (D : Df K mg "turned" (topS 3) ["word"])  : Ok P w K mg base 1 "turned" 1 F_turned := by
  have sc := sc_turned
  refine fn_okO D sc fun cdv A outer s H E f hr => ?_
  exact (ss_one (s_ret (e_callTy b_tuple (by rfl) T.n_tuple boot_tuple (a_cons (e_comp (own := [("kind", 1), ("term", 2)]) rfl sc.nd (i_val (e_rev (e_var 0))) (blkOk_by (N := N_turned) (sc := defScope (topS 3)) (by decide +kernel)) (fun _ _ _ _ _ => g_tup rfl (gs_cons (g_name [1, 2] sc.nd rfl (by first | exact Or.inl rfl | exact Or.inr rfl) (by decide)) (gs_cons (g_name [1, 2] sc.nd rfl (by first | exact Or.inl rfl | exact Or.inr rfl) (by decide)) (gs_nil [1, 2])))) (fun _ _ _ _ _ => c_nil) (fun _ _ _ _ _ => e_tup (a_cons (e_gd (by rfl) T.d_OTHER_WAY (e_var 1)) (a_cons (e_var 2) (a_nil))))) (a_nil)))))
theorem ok__law_feed (T : Tx K w mg) (D : Df K mg "_law_feed" (topS 8) ["script", "k"])  : Ok P w K mg base 1 "_law_feed" 2 F__law_feed := by
  have sc := sc__law_feed
  refine fn_okO D sc fun cdv A outer s H E f hr => ?_
  exact (ss_cons (s_set (i := 2) sc.nd rfl (by first | exact Or.inl rfl | exact Or.inr rfl) (e_ite (t_cmp (c_lt) (e_var 1) (e_callB b_len (by rfl) T.n_len boot_len (a_cons (e_var 0) (a_nil)))) (e_idx (e_var 0) (e_var 1)) (e_add (e_mul (e_int) (e_var 1)) (e_int))))
    (ss_cons (s_set (i := 3) sc.nd rfl (by first | exact Or.inl rfl | exact Or.inr rfl) (e_callB (b_max rfl) (by rfl) T.n_max boot_max (a_cons (e_int) (a_cons (e_sub (e_callB b_abs (by rfl) T.n_abs boot_abs (a_cons (e_var 2) (a_nil))) (e_pow (e_int) (e_int))) (a_nil)))))
    (ss_cons (s_set (i := 4) sc.nd rfl (by first | exact Or.inl rfl | exact Or.inr rfl) (e_mod (e_add (e_add (e_mul (e_var 2) (e_int)) (e_mul (e_int) (e_var 1))) (e_int)) (e_int)))
    (ss_one (s_ret (e_lstS (a_cons (e_var 3) (a_cons (e_var 4) (a_nil)))))))))
theorem ok__law_take (T : Tx K w mg) (D : Df K mg "_law_take" (topS 9) ["feed", "many"])  : Ok P w K mg base 1 "_law_take" 2 F__law_take := by
  have sc := sc__law_take
  refine fn_okO D sc fun cdv A outer s H E f hr => ?_
  exact (ss_cons (s_if (t_cmp (c_gt) (e_idx (e_var 0) (e_int)) (e_int)) (ss_cons (s_set (i := 2) sc.nd rfl (by first | exact Or.inl rfl | exact Or.inr rfl) (e_mod (e_idx (e_var 0) (e_int)) (e_var 1)))
    (ss_cons (s_put (e_fdiv (e_idx (e_var 0) (e_int)) (e_var 1)) (e_var 0) (e_int))
    (ss_one (s_ret (e_var 2))))) (ss_nil))
    (ss_cons (s_put (e_mod (e_add (e_mul (e_idx (e_var 0) (e_int)) (e_int)) (e_int)) (e_int)) (e_var 0) (e_int))
    (ss_one (s_ret (e_mod (e_fdiv (e_idx (e_var 0) (e_int)) (e_int)) (e_var 1))))))
theorem ok__law_row (T : Tx K w mg) (D : Df K mg "_law_row" (topS 14) ["word", "worths"])  : Ok P w K mg base 1 "_law_row" 2 F__law_row := by
  have sc := sc__law_row
  refine fn_okO D sc fun cdv A outer s H E f hr => ?_
  exact (ss_cons (s_set (i := 2) sc.nd rfl (by first | exact Or.inl rfl | exact Or.inr rfl) (e_lstS (a_nil)))
    (ss_cons (s_for (vs := [3, 4]) PassesOwn.never rfl (i_val (e_var 0)) (g_tup rfl (gs_cons (g_name [3, 4] sc.nd rfl (by first | exact Or.inl rfl | exact Or.inr rfl) (by decide)) (gs_cons (g_name [3, 4] sc.nd rfl (by first | exact Or.inl rfl | exact Or.inr rfl) (by decide)) (gs_nil [3, 4])))) (ss_one (s_if (t_cmp (c_eq hr) (e_var 3) (e_str)) (ss_one (s_app (e_var 2) (e_ite (t_val (e_isi .str (by rfl) T.n_isinstance (by rfl) T.n_str boot_str (e_var 4))) (e_idxA (hu_of hr) (e_var 1) (e_var 4)) (e_var 4)))) (ss_cons (s_set (i := 5) sc.nd rfl (by first | exact Or.inl rfl | exact Or.inr rfl) (e_callTy b_listS (by rfl) T.n_list boot_list (a_cons (e_idxA (hu_of hr) (e_var 1) (e_var 4)) (a_nil))))
    (ss_cons (s_if (t_cmp (c_eq hr) (e_var 3) (e_str)) (ss_one (s_rev (e_var 5))) (ss_nil))
    (ss_one (s_set (i := 2) sc.nd rfl (by first | exact Or.inl rfl | exact Or.inr rfl) (e_addS (e_var 2) (e_var 5)))))))))
    (ss_one (s_ret (e_callTy b_tuple (by rfl) T.n_tuple boot_tuple (a_cons (e_var 2) (a_nil)))))))
theorem ok_number_of (T : Tx K w mg) (D : Df K mg "number_of" (topS 4) ["term", "worths"]) (OK_is_whole : Ok P w K mg base 1 "is_whole" 1 F_is_whole) : Ok P w K mg base 2 "number_of" 2 F_number_of := by
  have sc := sc_number_of
  refine fn_okO D sc fun cdv A outer s H E f hr => ?_
  exact (ss_one (s_ret (e_ite (t_val (e_callO OK_is_whole hr (by decide) (by rfl) (a_cons (e_var 0) (a_nil)))) (e_var 0) (e_idxA (hu_of hr) (e_var 1) (e_var 0)))))
theorem ok__law_pick (T : Tx K w mg) (D : Df K mg "_law_pick" (topS 10) ["feed", "some"]) (OK__law_take : Ok P w K mg base 1 "_law_take" 2 F__law_take) : Ok P w K mg base 2 "_law_pick" 2 F__law_pick := by
  have sc := sc__law_pick
  refine fn_okO D sc fun cdv A outer s H E f hr => ?_
  exact (ss_one (s_ret (e_idx (e_var 1) (e_callO OK__law_take hr (by decide) (by rfl) (a_cons (e_var 0) (a_cons (e_callB b_len (by rfl) T.n_len boot_len (a_cons (e_var 1) (a_nil))) (a_nil)))))))
theorem ok__law_names (T : Tx K w mg) (D : Df K mg "_law_names" (topS 11) ["feed", "many"]) (OK__law_take : Ok P w K mg base 1 "_law_take" 2 F__law_take) : Ok P w K mg base 2 "_law_names" 2 F__law_names := by
  have sc := sc__law_names
  refine fn_okO D sc fun cdv A outer s H E f hr => ?_
  exact (ss_cons (s_set (i := 2) sc.nd rfl (by first | exact Or.inl rfl | exact Or.inr rfl) (e_str))
    (ss_cons (s_set (i := 3) sc.nd rfl (by first | exact Or.inl rfl | exact Or.inr rfl) (e_callO OK__law_take hr (by decide) (by rfl) (a_cons (e_var 0) (a_cons (e_int) (a_nil)))))
    (ss_cons (s_set (i := 4) sc.nd rfl (by first | exact Or.inl rfl | exact Or.inr rfl) (e_mul (e_idx (e_var 2) (e_callO OK__law_take hr (by decide) (by rfl) (a_cons (e_var 0) (a_cons (e_int) (a_nil))))) (e_callO OK__law_take hr (by decide) (by rfl) (a_cons (e_var 0) (a_cons (e_int) (a_nil))))))
    (ss_one (s_ret (e_comp (own := [("k", 5)]) rfl sc.nd (i_range1 (by rfl) T.n_range (a_cons (e_var 1) (a_nil))) (blkOk_by (N := N__law_names) (sc := defScope (topS 11)) (by decide +kernel)) (fun _ _ _ _ _ => g_name [5] sc.nd rfl (by first | exact Or.inl rfl | exact Or.inr rfl) (by decide)) (fun _ _ _ _ _ => c_nil) (fun _ _ _ _ _ => e_add (e_idx (e_var 2) (e_mod (e_add (e_var 3) (e_mul (e_int) (e_var 5))) (e_int))) (e_var 4))))))))
theorem ok_piece_row (T : Tx K w mg) (D : Df K mg "piece_row" (topS 5) ["piece", "worths"]) (OK_number_of : Ok P w K mg base 2 "number_of" 2 F_number_of) : Ok P w K mg base 3 "piece_row" 2 F_piece_row := by
  have sc := sc_piece_row
  refine fn_okO D sc fun cdv A outer s H E f hr => ?_
  exact (ss_cons (s_asg (vs := [2, 3]) (e_var 0) (g_tup rfl (gs_cons (g_name [2, 3] sc.nd rfl (by first | exact Or.inl rfl | exact Or.inr rfl) (by decide)) (gs_cons (g_name [2, 3] sc.nd rfl (by first | exact Or.inl rfl | exact Or.inr rfl) (by decide)) (gs_nil [2, 3])))))
    (ss_cons (s_if (t_cmp (c_eq hr) (e_var 2) (e_str)) (ss_one (s_ret (e_tup (a_cons (e_callO OK_number_of hr (by decide) (by rfl) (a_cons (e_var 3) (a_cons (e_var 1) (a_nil)))) (a_nil))))) (ss_nil))
    (ss_one (s_ret (e_ite (t_cmp (c_eq hr) (e_var 2) (e_str)) (e_idxA (hu_of hr) (e_var 1) (e_var 3)) (e_rev (e_idxA (hu_of hr) (e_var 1) (e_var 3))))))))
theorem ok__law_number (T : Tx K w mg) (D : Df K mg "_law_number" (topS 12) ["feed"]) (OK__law_take : Ok P w K mg base 1 "_law_take" 2 F__law_take) (OK__law_pick : Ok P w K mg base 2 "_law_pick" 2 F__law_pick) : Ok P w K mg base 3 "_law_number" 1 F__law_number := by
  have sc := sc__law_number
  refine fn_okO D sc fun cdv A outer s H E f hr => ?_
  exact (ss_cons (s_set (i := 1) sc.nd rfl (by first | exact Or.inl rfl | exact Or.inr rfl) (e_lst (a_cons (e_sub (e_pow (e_int) (e_int)) (e_int)) (a_cons (e_sub (e_int) (e_pow (e_int) (e_int))) (a_cons (e_sub (e_callO OK__law_take hr (by decide) (by rfl) (a_cons (e_var 0) (a_cons (e_pow (e_int) (e_int)) (a_nil)))) (e_mul (e_int) (e_pow (e_int) (e_int)))) (a_nil))))))
    (ss_one (s_ret (e_callO OK__law_pick hr (by decide) (by rfl) (a_cons (e_var 0) (a_cons (e_lst (a_cons (e_int) (a_cons (e_int) (a_cons (e_neg (e_int)) (a_cons (e_callO OK__law_take hr (by decide) (by rfl) (a_cons (e_var 0) (a_cons (e_int) (a_nil)))) (a_cons (e_callO OK__law_take hr (by decide) (by rfl) (a_cons (e_var 0) (a_cons (e_int) (a_nil)))) (a_cons (e_callO OK__law_pick hr (by decide) (by rfl) (a_cons (e_var 0) (a_cons (e_var 1) (a_nil)))) (a_nil)))))))) (a_nil)))))))
theorem ok_row_of (T : Tx K w mg) (D : Df K mg "row_of" (topS 6) ["word", "worths"]) (OK_piece_row : Ok P w K mg base 3 "piece_row" 2 F_piece_row) : Ok P w K mg base 4 "row_of" 2 F_row_of := by
  have sc := sc_row_of
  refine fn_okO D sc fun cdv A outer s H E f hr => ?_
  exact (ss_cons (s_set (i := 2) sc.nd rfl (by first | exact Or.inl rfl | exact Or.inr rfl) (e_lstS (a_nil)))
    (ss_cons (s_for (vs := [3]) PassesOwn.never rfl (i_val (e_var 0)) (g_name [3] sc.nd rfl (by first | exact Or.inl rfl | exact Or.inr rfl) (by decide)) (ss_one (s_ext (e_var 2) (e_callO OK_piece_row hr (by decide) (by rfl) (a_cons (e_var 3) (a_cons (e_var 1) (a_nil)))))))
    (ss_one (s_ret (e_callTy b_tuple (by rfl) T.n_tuple boot_tuple (a_cons (e_var 2) (a_nil)))))))
theorem ok__law_word (T : Tx K w mg) (D : Df K mg "_law_word" (topS 13) ["feed", "numbers", "rows", "most"]) (OK__law_take : Ok P w K mg base 1 "_law_take" 2 F__law_take) (OK__law_pick : Ok P w K mg base 2 "_law_pick" 2 F__law_pick) (OK__law_number : Ok P w K mg base 3 "_law_number" 1 F__law_number) : Ok P w K mg base 4 "_law_word" 4 F__law_word := by
  have sc := sc__law_word
  refine fn_okO D sc fun cdv A outer s H E f hr => ?_
  exact (ss_cons (s_set (i := 4) sc.nd rfl (by first | exact Or.inl rfl | exact Or.inr rfl) (e_lstS (a_nil)))
    (ss_cons (s_for (vs := [5]) PassesOwn.never rfl (i_range1 (by rfl) T.n_range (a_cons (e_callO OK__law_take hr (by decide) (by rfl) (a_cons (e_var 0) (a_cons (e_add (e_var 3) (e_int)) (a_nil)))) (a_nil))) (g_name [5] sc.nd rfl (by first | exact Or.inl rfl | exact Or.inr rfl) (by decide)) (ss_cons (s_set (i := 6) sc.nd rfl (by first | exact Or.inl rfl | exact Or.inr rfl) (e_lst (a_cons (e_tup (a_cons (e_str) (a_cons (e_callO OK__law_pick hr (by decide) (by rfl) (a_cons (e_var 0) (a_cons (e_var 1) (a_nil)))) (a_nil)))) (a_cons (e_tup (a_cons (e_str) (a_cons (e_callO OK__law_number hr (by decide) (by rfl) (a_cons (e_var 0) (a_nil))) (a_nil)))) (a_nil)))))
    (ss_cons (s_set (i := 6) sc.nd rfl (by first | exact Or.inl rfl | exact Or.inr rfl) (e_add (e_var 6) (e_lst (a_cons (e_tup (a_cons (e_str) (a_cons (e_callO OK__law_pick hr (by decide) (by rfl) (a_cons (e_var 0) (a_cons (e_var 2) (a_nil)))) (a_nil)))) (a_cons (e_tup (a_cons (e_str) (a_cons (e_callO OK__law_pick hr (by decide) (by rfl) (a_cons (e_var 0) (a_cons (e_var 2) (a_nil)))) (a_nil)))) (a_nil))))))
    (ss_one (s_app (e_var 4) (e_callO OK__law_pick hr (by decide) (by rfl) (a_cons (e_var 0) (a_cons (e_var 6) (a_nil)))))))))
    (ss_one (s_ret (e_callTy b_tuple (by rfl) T.n_tuple boot_tuple (a_cons (e_var 4) (a_nil)))))))
theorem ok__law_worths (T : Tx K w mg) (D : Df K mg "_law_worths" (topS 15) ["feed", "numbers", "rows"]) (OK__law_take : Ok P w K mg base 1 "_law_take" 2 F__law_take) (OK__law_pick : Ok P w K mg base 2 "_law_pick" 2 F__law_pick) (OK__law_number : Ok P w K mg base 3 "_law_number" 1 F__law_number) : Ok P w K mg base 4 "_law_worths" 3 F__law_worths := by
  have sc := sc__law_worths
  refine fn_okO D sc fun cdv A outer s H E f hr => ?_
  exact (ss_cons (s_set (i := 3) sc.nd rfl (by first | exact Or.inl rfl | exact Or.inr rfl) (e_dicN))
    (ss_cons (s_for (vs := [4]) PassesOwn.never rfl (i_val (e_var 1)) (g_name [4] sc.nd rfl (by first | exact Or.inl rfl | exact Or.inr rfl) (by decide)) (ss_one (s_putD (hu_of hr) (e_callO OK__law_number hr (by decide) (by rfl) (a_cons (e_var 0) (a_nil))) (e_var 3) (e_var 4))))
    (ss_cons (s_for (vs := [4]) PassesOwn.never rfl (i_val (e_var 2)) (g_name [4] sc.nd rfl (by first | exact Or.inl rfl | exact Or.inr rfl) (by decide)) (ss_one (s_putD (hu_of hr) (e_callTy b_tuple (by rfl) T.n_tuple boot_tuple (a_cons (e_comp (own := [("turn", 5)]) rfl sc.nd (i_range1 (by rfl) T.n_range (a_cons (e_callO OK__law_take hr (by decide) (by rfl) (a_cons (e_var 0) (a_cons (e_callO OK__law_pick hr (by decide) (by rfl) (a_cons (e_var 0) (a_cons (e_lst (a_cons (e_int) (a_cons (e_int) (a_cons (e_int) (a_nil))))) (a_nil)))) (a_nil)))) (a_nil))) (blkOk_by (N := N__law_worths) (sc := defScope (topS 15)) (by decide +kernel)) (fun _ _ _ _ _ => g_name [5] sc.nd rfl (by first | exact Or.inl rfl | exact Or.inr rfl) (by decide)) (fun _ _ _ _ _ => c_nil) (fun _ _ _ _ _ => e_callO OK__law_number hr (by decide) (by rfl) (a_cons (e_var 0) (a_nil)))) (a_nil))) (e_var 3) (e_var 4))))
    (ss_one (s_ret (e_var 3))))))
theorem ok_law {f : Addr} {fd : FuncData} (T : Tx K w mg) (u : Fun K "law" "law" (topS 16) f fd) (OK_turned : Ok P w K mg base 1 "turned" 1 F_turned) (OK__law_feed : Ok P w K mg base 1 "_law_feed" 2 F__law_feed) (OK__law_row : Ok P w K mg base 1 "_law_row" 2 F__law_row) (OK__law_names : Ok P w K mg base 2 "_law_names" 2 F__law_names) (OK_row_of : Ok P w K mg base 4 "row_of" 2 F_row_of) (OK__law_word : Ok P w K mg base 4 "_law_word" 4 F__law_word) (OK__law_worths : Ok P w K mg base 4 "_law_worths" 3 F__law_worths) : FnAt P w K mg base callerA [] f fd ["script"] (spD K 1 F_law) := by
  have sc := sc_law
  refine fn_at (k := 4) u sc ⟨rfl, by decide, by decide⟩ fun cdv s H hr => ?_
  exact (ss_cons (s_for (vs := [1]) PassesOwn.never rfl (i_range1 (by rfl) T.n_range (a_cons (e_callB (b_max rfl) (by rfl) T.n_max boot_max (a_cons (e_int) (a_cons (e_callB (b_min rfl) (by rfl) T.n_min boot_min (a_cons (e_int) (a_cons (e_callB b_len (by rfl) T.n_len boot_len (a_cons (e_var 0) (a_nil))) (a_nil)))) (a_nil)))) (a_nil))) (g_name [1] sc.nd rfl (by first | exact Or.inl rfl | exact Or.inr rfl) (by decide)) (ss_cons (s_set (i := 2) sc.nd rfl (by first | exact Or.inl rfl | exact Or.inr rfl) (e_callO OK__law_feed hr (by decide) (by rfl) (a_cons (e_var 0) (a_cons (e_var 1) (a_nil)))))
    (ss_cons (s_set (i := 3) sc.nd rfl (by first | exact Or.inl rfl | exact Or.inr rfl) (e_callO OK__law_names hr (by decide) (by rfl) (a_cons (e_var 2) (a_cons (e_int) (a_nil)))))
    (ss_cons (s_set (i := 4) sc.nd rfl (by first | exact Or.inl rfl | exact Or.inr rfl) (e_callO OK__law_worths hr (by decide) (by rfl) (a_cons (e_var 2) (a_cons (e_cut (e_var 3) (o_none) (o_some (e_int))) (a_cons (e_cut (e_var 3) (o_some (e_int)) (o_none)) (a_nil))))))
    (ss_cons (s_set (i := 5) sc.nd rfl (by first | exact Or.inl rfl | exact Or.inr rfl) (e_callO OK__law_word hr (by decide) (by rfl) (a_cons (e_var 2) (a_cons (e_cut (e_var 3) (o_none) (o_some (e_int))) (a_cons (e_cut (e_var 3) (o_some (e_int)) (o_none)) (a_cons (e_int) (a_nil)))))))
    (ss_cons (s_set (i := 6) sc.nd rfl (by first | exact Or.inl rfl | exact Or.inr rfl) (e_callB (b_reprA hr rfl) (by rfl) T.n_repr boot_repr (a_cons (e_var 4) (a_nil))))
    (ss_cons (s_set (i := 7) sc.nd rfl (by first | exact Or.inl rfl | exact Or.inr rfl) (e_callO OK__law_row hr (by decide) (by rfl) (a_cons (e_var 5) (a_cons (e_var 4) (a_nil)))))
    (ss_cons (s_set (i := 8) sc.nd rfl (by first | exact Or.inl rfl | exact Or.inr rfl) (e_callO OK_row_of hr (by decide) (by rfl) (a_cons (e_var 5) (a_cons (e_var 4) (a_nil)))))
    (ss_cons (s_if (PW.pt (w_or (t_not (t_val (e_isi .tup (by rfl) T.n_isinstance (by rfl) T.n_tuple boot_tuple (e_var 8)))) (w_or (t_cmp (c_ne hr) (e_var 8) (e_var 7)) (w_or1 (t_cmp (c_neS hr) (e_callB (b_reprA hr rfl) (by rfl) T.n_repr boot_repr (a_cons (e_var 4) (a_nil))) (e_var 6)))))) (ss_one (s_ret (e_bl))) (ss_nil))
    (ss_cons (s_set (i := 9) sc.nd rfl (by first | exact Or.inl rfl | exact Or.inr rfl) (e_callO OK_turned hr (by decide) (by rfl) (a_cons (e_var 5) (a_nil))))
    (ss_cons (s_setComp (i := 10) (own := [("sort", 11), ("inner", 12)]) rfl sc.nd rfl rfl (sw_true rfl rfl rfl (by decide +kernel)) (i_val (e_var 5)) (blkOk_by (N := N_law) (sc := defScope (topS 16)) (by decide +kernel)) (fun _ _ _ _ _ => g_tup rfl (gs_cons (g_name [11, 12] sc.nd rfl (by first | exact Or.inl rfl | exact Or.inr rfl) (by decide)) (gs_cons (g_name [11, 12] sc.nd rfl (by first | exact Or.inl rfl | exact Or.inr rfl) (by decide)) (gs_nil [11, 12])))) (fun _ _ _ _ _ => c_nil) (fun _ _ _ _ _ => e_tup (a_cons (e_idxA (hu_of hr) (e_disp [(.inr "one", .str "one"), (.inr "row", .str "back"), (.inr "back", .str "row")] (pps_cons pe_str pe_str (pps_cons pe_str pe_str (pps_cons pe_str pe_str (pps_nil)))) (by decide +kernel) rfl rfl (by decide) (by decide) (by decide)) (e_var 11)) (a_cons (e_var 12) (a_nil)))))
    (ss_cons (s_if (PW.pt (w_or (t_not (t_val (e_isi .tup (by rfl) T.n_isinstance (by rfl) T.n_tuple boot_tuple (e_var 9)))) (w_or1 (t_cmp (c_ne hr) (e_var 9) (e_callTy b_tuple (by rfl) T.n_tuple boot_tuple (a_cons (e_rev (e_var 10)) (a_nil))))))) (ss_one (s_ret (e_bl))) (ss_nil))
    (ss_one (s_if (PW.pt (w_or (t_cmp (c_ne hr) (e_callO OK_row_of hr (by decide) (by rfl) (a_cons (e_var 9) (a_cons (e_var 4) (a_nil)))) (e_rev (e_var 7))) (w_or1 (t_cmp (c_ne hr) (e_callO OK_turned hr (by decide) (by rfl) (a_cons (e_var 9) (a_nil))) (e_var 5))))) (ss_one (s_ret (e_bl))) (ss_nil)))))))))))))))
    (ss_one (s_ret (e_and (e_cmp (c_eq hr) (e_callO OK_row_of hr (by decide) (by rfl) (a_cons (e_tup (a_nil)) (a_cons (e_dicN) (a_nil)))) (e_tup (a_nil))) (e_one (e_cmp (c_eq hr) (e_callO OK_turned hr (by decide) (by rfl) (a_cons (e_tup (a_nil)) (a_nil))) (e_tup (a_nil))))))))
end
end k02
namespace Vm
open PySem PySem.Spec PyProof.Rows L2
section
variable {F Fo Fi : FE} {env : En} {st : Store} {Q : Out → Store → Prop}
theorem wps_ext : Wp (sExt Fo F env st) Q ↔ Wp (Fo env st) fun o st1 => ∃ n zs, o = .ref n ∧ st1[n]? = some (.lst zs) ∧ Wp (F env st1) fun x st2 => ∃ xs ys, st2[n]? = some (.lst xs) ∧ extOf st2 x = some ys ∧ xs.length + ys.length ≤ 16777216 ∧ Q (.nx env) (st2.set n (.lst (xs ++ ys))) := by
  unfold sExt
  constructor
  · intro h
    split at h
    · rename_i n st1 e1
      split at h
      · rename_i zs e2
        split at h
        · rename_i x st2 e3
          split at h
          · rename_i xs e4
            split at h
            · rename_i ys e5
              split at h
              · rename_i hl
                exact ⟨.ref n, st1, e1, n, zs, rfl, e2, x, st2, e3, xs, ys, e4, e5, hl, wp_some.mp h⟩
              · exact (wp_noneR.mp h).elim
            · exact (wp_noneR.mp h).elim
          · exact (wp_noneR.mp h).elim
        · exact (wp_noneR.mp h).elim
      · exact (wp_noneR.mp h).elim
    · exact (wp_noneR.mp h).elim
  · rintro ⟨_, st1, e1, n, zs, rfl, e2, x, st2, e3, xs, ys, e4, e5, hl, q⟩
    simp [e1, e2, e3, e4, e5, hl, q]
theorem wps_rev : Wp (sRev Fo env st) Q ↔ Wp (Fo env st) fun o st1 => ∃ n xs, o = .ref n ∧ st1[n]? = some (.lst xs) ∧ Q (.nx env) (st1.set n (.lst xs.reverse)) := by
  unfold sRev
  constructor
  · intro h
    split at h
    · rename_i n st1 e1
      split at h
      · rename_i xs e2
        exact ⟨.ref n, st1, e1, n, xs, rfl, e2, wp_some.mp h⟩
      · exact (wp_noneR.mp h).elim
    · exact (wp_noneR.mp h).elim
  · rintro ⟨_, st1, e1, n, xs, rfl, e2, q⟩
    simp [e1, e2, q]
theorem wps_putD : Wp (sPutD Fo Fi F env st) Q ↔ Wp (F env st) fun x st1 => Wp (Fo env st1) fun o st2 => Wp (Fi env st2) fun i st3 => ∃ n kvs k, o = .ref n ∧ st3[n]? = some (.dic kvs) ∧ keyD i = some k ∧ kvs.length < 16777216 ∧ Q (.nx env) (st3.set n (.dic (putD kvs k x))) := by
  unfold sPutD
  constructor
  · intro h
    split at h
    · rename_i x st1 e1
      split at h
      · rename_i n st2 e2
        split at h
        · rename_i i st3 e3
          split at h
          · rename_i kvs e4
            split at h
            · rename_i k e5
              split at h
              · rename_i hl
                exact ⟨x, st1, e1, .ref n, st2, e2, i, st3, e3, n, kvs, k, rfl, e4, e5, hl, wp_some.mp h⟩
              · exact (wp_noneR.mp h).elim
            · exact (wp_noneR.mp h).elim
          · exact (wp_noneR.mp h).elim
        · exact (wp_noneR.mp h).elim
      · exact (wp_noneR.mp h).elim
    · exact (wp_noneR.mp h).elim
  · rintro ⟨x, st1, e1, _, st2, e2, i, st3, e3, n, kvs, k, rfl, e4, e5, hl, q⟩
    simp [e1, e2, e3, e4, e5, hl, q]
end
/-- all that stood there stands -/
def Kp (st s : Store) : Prop := ∀ (m : Nat) (o : O), st[m]? = some o → s[m]? = some o
theorem Kp.refl {st : Store} : Kp st st := fun _ _ h => h
theorem Kp.trans {a b c : Store} (h : Kp a b) (h' : Kp b c) : Kp a c := fun m o e => h' m o (h m o e)
theorem Kp.push {a b : Store} {o : O} (h : Kp a b) : Kp a (b ++ [o]) := fun m x e => by
  have := h m x e
  rw [List.getElem?_append_left (List.getElem?_eq_some_iff.mp this).1]
  exact this
theorem Kp.setN {a b : Store} {m : Nat} {o : O} (h : Kp a b) (hm : a.length ≤ m) : Kp a (b.set m o) := fun k x e => by
  have := (List.getElem?_eq_some_iff.mp e).1
  rw [List.getElem?_set_ne (by omega)]
  exact h k x e
theorem Kp.len {a b : Store} (h : Kp a b) : a.length ≤ b.length := by
  rcases Nat.lt_or_ge b.length a.length with z | z
  · have := h b.length _ (List.getElem?_eq_getElem z)
    rw [List.getElem?_eq_none (Nat.le_refl _)] at this
    cases this
  · exact z
theorem push_at (st : Store) (o : O) : (st ++ [o])[st.length]? = some o := by
  rw [List.getElem?_append_right (Nat.le_refl _)]
  simp
end Vm
namespace k02
open PySem PySem.Spec PyProof.Rows L2 Vm
local macro_rules | `(tactic| walk_at "vm") => `(tactic| simp only [wps_seq, wps_if, wps_set, wps_ret, wps_nil, wps_for, wps_app, wps_asg, wps_expr, wps_aug, wps_put, wps_ext, wps_rev, wps_putD, wp_bin, wp_con, wp_var, wp_cmp, wp_cons, wp_nil, wp_tup, wp_lst, wp_lstS, wp_rev, wp_addS, wp_neg, wp_or, wp_and, wp_not, wp_ite, wp_oNone, wp_oSome, wp_cut, wp_call, wp_blt, wp_isi, wpt_cmp, wpt_tru, wpt_and, wpt_or, wpt_not, wpt_ite, wpi_val, wpi_range1, wp_some, wp_comp,
  List.map_cons, List.map_nil, List.replicate, List.cons_append, List.nil_append, List.append_nil, List.getElem?_cons_zero, List.getElem?_cons_succ, List.set_cons_zero, List.set_cons_succ, List.length_cons, List.length_nil, List.length_append, Option.some.injEq, exists_eq_left', exists_eq_left, true_and, and_true, dAdd_int, dSub_int, dMul_int, dAdd_tl, dAdd_tup, dCut_tup, dCut_tl, dRev_tup, bLen_tup, bLen_tl, bList_tup, dIdx_tup, items_tl, if_true, Nat.reduceAdd, Nat.reduceSub, Nat.reduceLeDiff, D.int.injEq, D.ref.injEq, D.tl.injEq, D.tup.injEq, List.cons.injEq, and_self, Nat.reduceEqDiff])
theorem e_take : F__law_take = L_take := rfl
theorem e_pick : F__law_pick = L_pick := rfl
theorem e_number : F__law_number = L_number := rfl
theorem e_names : F__law_names = L_names := rfl
theorem e_feed : F__law_feed = L_feed := rfl
theorem e_whole : F_is_whole = L_is_whole := rfl
def nO (kvs : List (Key × D)) : D → D
  | .str s => (getD kvs (.inr s)).getD .non
  | d => d
def pr (kvs : List (Key × D)) : D → List D
  | .tup [k, t] => if isS "one" k = true then [nO kvs t] else match nO kvs t with
    | .tup xs => if isS "row" k = true then xs else xs.reverse
    | _ => []
  | _ => []
def tp : D → D
  | .tup [k, t] => .tup [if isS "row" k = true then .str "back" else if isS "back" k = true then .str "row" else k, t]
  | d => d
/-- a piece whose name is known -/
inductive Gp (kvs : List (Key × D)) : D → Prop
  | num (i : Int) : Gp kvs (.tup [.str "one", .int i])
  | one (s : Str) (d : D) : isNm (.str s) = true → getD kvs (.inr s) = some d → Gp kvs (.tup [.str "one", .str s])
  | row (s : Str) (xs : List D) : isNm (.str s) = true → getD kvs (.inr s) = some (.tup xs) → Gp kvs (.tup [.str "row", .str s])
  | back (s : Str) (xs : List D) : isNm (.str s) = true → getD kvs (.inr s) = some (.tup xs) → Gp kvs (.tup [.str "back", .str s])
theorem s11 : isS "one" (.str "one") = true := by decide +kernel
theorem s12 : isS "one" (.str "row") = false := by decide +kernel
theorem s13 : isS "one" (.str "back") = false := by decide +kernel
theorem s21 : isS "row" (.str "one") = false := by decide +kernel
theorem s22 : isS "row" (.str "row") = true := by decide +kernel
theorem s23 : isS "row" (.str "back") = false := by decide +kernel
theorem s31 : isS "back" (.str "one") = false := by decide +kernel
theorem s32 : isS "back" (.str "row") = false := by decide +kernel
theorem s33 : isS "back" (.str "back") = true := by decide +kernel
theorem sk1 : small (.str "one") = true := by decide +kernel
theorem sk2 : small (.str "row") = true := by decide +kernel
theorem sk3 : small (.str "back") = true := by decide +kernel
theorem idxA {kvs : List (Key × D)} {st : Store} {m : Nat} {s : Str} {d : D} (h : st[m]? = some (.dic kvs)) (hd : getD kvs (.inr s) = some d) : dIdxA (.ref m) (.str s) st = some d := by
  simp [dIdxA, h, keyD, hd]
theorem number_of_eq {kvs : List (Key × D)} {st : Store} {m : Nat} {t : D} (h : st[m]? = some (.dic kvs)) (ht : (∃ i, t = .int i) ∨ ∃ s d, t = .str s ∧ isNm (.str s) = true ∧ getD kvs (.inr s) = some d) :
    F_number_of [t, .ref m] st = some (nO kvs t, st) := by
  apply wp_eq
  unfold F_number_of B_number_of
  rw [wp_fn, e_whole]
  refine ⟨rfl, ?_⟩
  rcases ht with ⟨i, rfl⟩ | ⟨s, d, rfl, hn, hd⟩
  · simp [is_whole_eq (d := .int i) rfl, isWh, tru, nO]
  · simp [is_whole_eq (d := .str s) (small_nm hn), isWh, tru, nO, idxA h hd, hd]
theorem piece_row_eq {kvs : List (Key × D)} {st : Store} {m : Nat} {p : D} (h : st[m]? = some (.dic kvs)) (hp : Gp kvs p) : F_piece_row [p, .ref m] st = some (.tup (pr kvs p), st) := by
  apply wp_eq
  unfold F_piece_row B_piece_row
  rw [wp_fn]
  refine ⟨rfl, ?_⟩
  have e1 := cEq_str (st := st) sk1 "one" (by decide +kernel)
  have e2 := cEq_str (st := st) sk2 "one" (by decide +kernel)
  have e3 := cEq_str (st := st) sk3 "one" (by decide +kernel)
  have e4 := cEq_str (st := st) sk2 "row" (by decide +kernel)
  have e5 := cEq_str (st := st) sk3 "row" (by decide +kernel)
  rw [s11] at e1
  rw [s12] at e2
  rw [s13] at e3
  rw [s22] at e4
  rw [s23] at e5
  cases hp with
  | num i =>
    have en := number_of_eq (t := .int i) h (.inl ⟨i, rfl⟩)
    walk_at "vm"
    simp [gTupF, gConsF, gSet, gNilF, e1, en, pr, s11]
  | one s d hn hd =>
    have en := number_of_eq (t := .str s) h (.inr ⟨s, d, rfl, hn, hd⟩)
    walk_at "vm"
    simp [gTupF, gConsF, gSet, gNilF, e1, en, pr, s11]
  | row s xs hn hd =>
    walk_at "vm"
    simp [gTupF, gConsF, gSet, gNilF, e2, e4, pr, s12, s22, idxA h hd, nO, hd]
  | back s xs hn hd =>
    walk_at "vm"
    simp [gTupF, gConsF, gSet, gNilF, e3, e5, pr, s13, s23, idxA h hd, nO, hd, dRev]
end k02
namespace k02
open PySem PySem.Spec PyProof.Rows L2 Vm
local macro_rules | `(tactic| walk_at "vm") => `(tactic| simp only [wps_seq, wps_if, wps_set, wps_ret, wps_nil, wps_for, wps_app, wps_asg, wps_expr, wps_aug, wps_put, wps_ext, wps_rev, wps_putD, wp_bin, wp_con, wp_var, wp_cmp, wp_cons, wp_nil, wp_tup, wp_lst, wp_lstS, wp_rev, wp_addS, wp_neg, wp_or, wp_and, wp_not, wp_ite, wp_oNone, wp_oSome, wp_cut, wp_call, wp_blt, wp_isi, wpt_cmp, wpt_tru, wpt_and, wpt_or, wpt_not, wpt_ite, wpi_val, wpi_range1, wp_some, wp_comp,
  List.map_cons, List.map_nil, List.replicate, List.cons_append, List.nil_append, List.append_nil, List.getElem?_cons_zero, List.getElem?_cons_succ, List.set_cons_zero, List.set_cons_succ, List.length_cons, List.length_nil, List.length_append, Option.some.injEq, exists_eq_left', exists_eq_left, true_and, and_true, dAdd_int, dSub_int, dMul_int, dAdd_tl, dAdd_tup, dCut_tup, dCut_tl, dRev_tup, bLen_tup, bLen_tl, bList_tup, dIdx_tup, items_tl, if_true, Nat.reduceAdd, Nat.reduceSub, Nat.reduceLeDiff, D.int.injEq, D.ref.injEq, D.tl.injEq, D.tup.injEq, List.cons.injEq, and_self, Nat.reduceEqDiff])
theorem flat_snoc {kvs : List (Key × D)} {w : List D} {j : Nat} {x : D} (h : w[j]? = some x) : (w.take (j + 1)).flatMap (pr kvs) = (w.take j).flatMap (pr kvs) ++ pr kvs x := by
  rw [List.take_add_one, h]
  simp
theorem flat_len {kvs : List (Key × D)} : ∀ {w : List D}, (∀ p ∈ w, (pr kvs p).length ≤ 10) → (w.flatMap (pr kvs)).length ≤ 10 * w.length
  | [], _ => by simp
  | p :: w, h => by
    have h1 := h p List.mem_cons_self
    have h2 := flat_len (w := w) fun q hq => h q (List.mem_cons_of_mem _ hq)
    simp only [List.flatMap_cons, List.length_append, List.length_cons]
    omega
theorem row_of_ok {kvs : List (Key × D)} {st : Store} {m : Nat} {w : List D} (h : st[m]? = some (.dic kvs)) (hw : ∀ p ∈ w, Gp kvs p) (hb : ∀ p ∈ w, (pr kvs p).length ≤ 10) (hl : w.length ≤ 100) :
    Wp (F_row_of [.tup w, .ref m] st) fun d s => d = .tup (w.flatMap (pr kvs)) ∧ Kp st s := by
  unfold F_row_of B_row_of
  rw [wp_fn]
  refine ⟨rfl, ?_⟩
  walk_at "vm"
  try refine ⟨Nat.zero_le _, ?_⟩
  refine ⟨(w, fun _ => True), rfl, ?_⟩
  refine wp_forI (fun j e s => ∃ x3 acc, e = [some (.tup w), some (.ref m), some (.ref st.length), x3] ∧ s[st.length]? = some (.lst acc) ∧ acc = (w.take j).flatMap (pr kvs) ∧ Kp st s) w 0 _ _ _ ⟨none, [], rfl, push_at _ _, rfl, Kp.refl.push⟩ (fun j x e s hx hI => ?_) (fun e s hI => ?_)
  · obtain ⟨x3, acc, rfl, ha, hacc, hk⟩ := hI
    rw [Nat.zero_add] at hacc
    refine ⟨trivial, _, rfl, ?_⟩
    have hmem := List.mem_of_getElem? hx
    have en := piece_row_eq (hk m _ h) (hw x hmem)
    have hlen := flat_len (kvs := kvs) (w := w.take j) fun p hp => hb p (List.mem_of_mem_take hp)
    have hlen2 := hb x hmem
    have ht : (w.take j).length ≤ w.length := by rw [List.length_take]; omega
    walk_at "vm"
    refine ⟨_, _, rfl, ha, ?_⟩
    rw [en]
    refine wp_some.mpr ⟨acc, pr kvs x, ha, rfl, by rw [hacc]; omega, ?_⟩
    have hlt := (List.getElem?_eq_some_iff.mp ha).1
    exact ⟨some x, acc ++ pr kvs x, rfl, by rw [List.getElem?_set_self hlt], by rw [Nat.zero_add, flat_snoc hx, hacc], hk.setN (Nat.le_refl _)⟩
  · obtain ⟨x3, acc, rfl, ha, hacc, hk⟩ := hI
    refine ⟨trivial, ?_⟩
    rw [Nat.zero_add, List.take_length] at hacc
    walk_at "vm"
    simp [bTuple, seqOf, lsqOf, ha, hacc]
    exact hk
theorem law_row_ok {kvs : List (Key × D)} {st : Store} {m : Nat} {w : List D} (h : st[m]? = some (.dic kvs)) (hw : ∀ p ∈ w, Gp kvs p) (hb : ∀ p ∈ w, (pr kvs p).length ≤ 10) (hl : w.length ≤ 100) :
    Wp (F__law_row [.tup w, .ref m] st) fun d s => d = .tup (w.flatMap (pr kvs)) ∧ Kp st s := by
  unfold F__law_row B__law_row
  rw [wp_fn]
  refine ⟨rfl, ?_⟩
  have q1 : ∀ st, cEq (.str "one") (.str "one") st = some true := fun st => by rw [cEq_str sk1 "one" (by decide +kernel), s11]
  have q2 : ∀ st, cEq (.str "row") (.str "one") st = some false := fun st => by rw [cEq_str sk2 "one" (by decide +kernel), s12]
  have q3 : ∀ st, cEq (.str "back") (.str "one") st = some false := fun st => by rw [cEq_str sk3 "one" (by decide +kernel), s13]
  have q4 : ∀ st, cEq (.str "row") (.str "back") st = some false := fun st => by rw [cEq_str sk2 "back" (by decide +kernel), s32]
  have q5 : ∀ st, cEq (.str "back") (.str "back") st = some true := fun st => by rw [cEq_str sk3 "back" (by decide +kernel), s33]
  rw [wps_seq, wps_set, wp_lstS]
  simp only [wp_nil, List.length_nil, List.map_cons, List.map_nil, List.replicate, List.cons_append, List.nil_append, List.set_cons_zero, List.set_cons_succ, Nat.reduceSub]
  refine ⟨by omega, ?_⟩
  rw [wps_seq, wps_for]
  simp only [wpi_val, wp_var, List.getElem?_cons_zero, Option.some.injEq, exists_eq_left']
  refine ⟨(w, fun _ => True), rfl, ?_⟩
  refine wp_forI (fun j e s => ∃ k x3 x4 x5 acc, e = [some (.tup w), some (.ref m), some (.ref k), x3, x4, x5] ∧ st.length ≤ k ∧ s[k]? = some (.lst acc) ∧ acc = (w.take j).flatMap (pr kvs) ∧ Kp st s) w 0 _ _ _ ⟨st.length, none, none, none, [], rfl, Nat.le_refl _, push_at _ _, rfl, Kp.refl.push⟩ (fun j x e s hx hI => ?_) (fun e s hI => ?_)
  · obtain ⟨k, x3, x4, x5, acc, rfl, hk0, ha, hacc, hk⟩ := hI
    rw [Nat.zero_add] at hacc
    have hmem := List.mem_of_getElem? hx
    have hm := hk m _ h
    have hlen := flat_len (kvs := kvs) (w := w.take j) fun p hp => hb p (List.mem_of_mem_take hp)
    have hlen2 := hb x hmem
    have ht : (w.take j).length ≤ w.length := by rw [List.length_take]; omega
    have hfs := flat_snoc (kvs := kvs) hx
    have hlt := (List.getElem?_eq_some_iff.mp ha).1
    have hal : acc.length ≤ 1000 := by rw [hacc]; omega
    cases hw x hmem with
    | num i =>
      refine ⟨trivial, _, rfl, ?_⟩
      walk_at "vm"
      simp only [q1, Option.some.injEq, exists_eq_left', if_true]
      refine ⟨k, acc, rfl, ha, ?_⟩
      simp only [tagOf, isTag, tru, Option.some.injEq, exists_eq_left', decide_false, Bool.false_eq_true, if_false]
      refine ⟨acc, ha, by omega, ?_⟩
      exact ⟨k, _, _, _, acc ++ [.int i], ⟨rfl, rfl, rfl, rfl⟩, hk0, by rw [List.getElem?_set_self hlt], by rw [Nat.zero_add, hfs, hacc]; simp [pr, s11, nO], hk.setN hk0⟩
    | one z d hn hd =>
      refine ⟨trivial, _, rfl, ?_⟩
      walk_at "vm"
      simp only [q1, Option.some.injEq, exists_eq_left', if_true]
      refine ⟨k, acc, rfl, ha, ?_⟩
      simp only [tagOf, isTag, tru, Option.some.injEq, exists_eq_left', decide_true, if_true, idxA hm hd]
      refine ⟨acc, ha, by omega, ?_⟩
      exact ⟨k, _, _, _, acc ++ [d], ⟨rfl, rfl, rfl, rfl⟩, hk0, by rw [List.getElem?_set_self hlt], by rw [Nat.zero_add, hfs, hacc]; simp [pr, s11, nO, hd], hk.setN hk0⟩
    | row z xs hn hd =>
      have hxl : xs.length ≤ 10 := by simpa [pr, s12, s22, nO, hd] using hlen2
      refine ⟨trivial, _, rfl, ?_⟩
      walk_at "vm"
      simp only [q2, q4, Option.some.injEq, exists_eq_left', Bool.false_eq_true, if_false, idxA hm hd, bListS, seqOf, wp_some]
      refine ⟨acc, xs, by simp [lstOf, List.getElem?_append_left hlt, ha], by simp [lstOf], by omega, ?_⟩
      exact ⟨_, _, _, _, acc ++ xs, ⟨rfl, rfl, rfl, rfl⟩, by simp; have := hk.len; omega, push_at _ _, by rw [Nat.zero_add, hfs, hacc]; simp [pr, s12, s22, nO, hd], hk.push.push⟩
    | back z xs hn hd =>
      have hxl : xs.length ≤ 10 := by simpa [pr, s13, s23, nO, hd] using hlen2
      refine ⟨trivial, _, rfl, ?_⟩
      walk_at "vm"
      simp only [q3, q5, Option.some.injEq, exists_eq_left', Bool.false_eq_true, if_false, if_true, idxA hm hd, bListS, seqOf, wp_some]
      refine ⟨s.length, xs, rfl, push_at _ _, ?_⟩
      have hne : k ≠ s.length := by omega
      refine ⟨acc, xs.reverse, ?_, ?_, by simp; omega, ?_⟩
      · simp only [lstOf]
        rw [List.getElem?_set_ne (by omega), List.getElem?_append_left hlt, ha]
      · simp only [lstOf]
        rw [List.getElem?_set_self (by simp)]
      · exact ⟨_, _, _, _, acc ++ xs.reverse, ⟨rfl, rfl, rfl, rfl⟩, by simp; have := hk.len; omega, push_at _ _, by rw [Nat.zero_add, hfs, hacc]; simp [pr, s13, s23, nO, hd], (hk.push.setN hk.len).push⟩
  · obtain ⟨k, x3, x4, x5, acc, rfl, hk0, ha, hacc, hk⟩ := hI
    refine ⟨trivial, ?_⟩
    rw [Nat.zero_add, List.take_length] at hacc
    walk_at "vm"
    simp [bTuple, seqOf, lsqOf, ha, hacc]
    exact hk
theorem tp_in {kvs : List (Key × D)} {p : D} (h : Gp kvs p) : Gp kvs (tp p) ∧ pr kvs (tp p) = (pr kvs p).reverse ∧ tp (tp p) = p := by
  cases h with
  | num i => exact ⟨by simpa [tp, s21, s31] using Gp.num i, by simp [tp, s21, s31, pr, s11], by simp [tp, s21, s31]⟩
  | one s d hn hd => exact ⟨by simpa [tp, s21, s31] using Gp.one s d hn hd, by simp [tp, s21, s31, pr, s11], by simp [tp, s21, s31]⟩
  | row s xs hn hd => exact ⟨by simpa [tp, s22] using Gp.back s xs hn hd, by simp [tp, s22, pr, s12, s13, s23, nO, hd], by simp [tp, s22, s23, s33]⟩
  | back s xs hn hd => exact ⟨by simpa [tp, s23, s33] using Gp.row s xs hn hd, by simp [tp, s23, s33, pr, s12, s13, s22, nO, hd], by simp [tp, s22, s23, s33]⟩
theorem gd1 : getS GD_OTHER_WAY "one" = some (.str "one") := by rfl
theorem gd2 : getS GD_OTHER_WAY "row" = some (.str "back") := by rfl
theorem gd3 : getS GD_OTHER_WAY "back" = some (.str "row") := by rfl
theorem turned_eq {kvs : List (Key × D)} {st : Store} {w : List D} (hw : ∀ p ∈ w, Gp kvs p) (hl : w.length ≤ 100) : F_turned [.tup w] st = some (.tup (w.reverse.map tp), st) := by
  apply wp_eq
  unfold F_turned B_turned
  rw [wp_fn]
  refine ⟨rfl, ?_⟩
  walk_at "vm"
  refine ⟨(w.reverse, fun _ => True), rfl, by simp; omega, ?_⟩
  rw [compN_map (f := tp)]
  · simp [bTuple, seqOf, lsqOf]
  · intro p hp
    cases hw p (List.mem_reverse.mp hp) with
    | num i => exact ⟨_, rfl, by simp [wipeE, fTup, fCons, fNil, fGD, fVar, gd1, tp, s21, s31]⟩
    | one s d hn hd => exact ⟨_, rfl, by simp [wipeE, fTup, fCons, fNil, fGD, fVar, gd1, tp, s21, s31]⟩
    | row s xs hn hd => exact ⟨_, rfl, by simp [wipeE, fTup, fCons, fNil, fGD, fVar, gd2, tp, s22]⟩
    | back s xs hn hd => exact ⟨_, rfl, by simp [wipeE, fTup, fCons, fNil, fGD, fVar, gd3, tp, s23, s33]⟩
theorem flat_rev {kvs : List (Key × D)} : ∀ {w : List D}, (∀ p ∈ w, Gp kvs p) → (w.reverse.map tp).flatMap (pr kvs) = (w.flatMap (pr kvs)).reverse
  | [], _ => rfl
  | p :: w, h => by
    have ih := flat_rev (w := w) fun q hq => h q (List.mem_cons_of_mem _ hq)
    rw [List.reverse_cons, List.map_append, List.flatMap_append, ih]
    simp [(tp_in (h p List.mem_cons_self)).2.1]
theorem tp_tp {kvs : List (Key × D)} {w : List D} (h : ∀ p ∈ w, Gp kvs p) : (w.reverse.map tp).reverse.map tp = w := by
  rw [← List.map_reverse, List.reverse_reverse, List.map_map]
  have : ∀ p ∈ w, (tp ∘ tp) p = p := fun p hp => (tp_in (h p hp)).2.2
  rw [List.map_congr_left this]
  simp
end k02
namespace Vm
open PySem PySem.Spec PyProof.Rows L2
theorem getD_map (k j : Key) (d : D) : ∀ kvs : List (Key × D), getD (kvs.map fun kv => if kv.1 = k then (kv.1, d) else kv) j = (getD kvs j).map fun x => if j = k then d else x
  | [] => rfl
  | p :: r => by
    have ih := getD_map k j d r
    simp only [getD] at ih ⊢
    simp only [List.map_cons, List.find?_cons]
    by_cases h1 : p.1 = j
    · by_cases h2 : p.1 = k
      · have h3 : j = k := h1.symm.trans h2
        simp [h1, h3]
      · have h3 : ¬ j = k := fun z => h2 (h1.trans z)
        simp [h1, h3]
    · by_cases h2 : p.1 = k
      · simp only [h2, if_true]
        rw [h2] at h1
        simp only [h1, decide_false, Bool.false_eq_true, if_false]
        exact ih
      · simp only [h2, if_false, h1, decide_false]
        exact ih
theorem getD_snoc (k j : Key) (d : D) : ∀ kvs : List (Key × D), getD kvs k = none → getD (kvs ++ [(k, d)]) j = if j = k then some d else getD kvs j
  | [], _ => by
    by_cases h : k = j
    · simp [getD, h]
    · have : ¬ j = k := fun z => h z.symm
      simp [getD, h, this]
  | p :: r, hn => by
    have hpk : ¬ p.1 = k := fun z => by simp [getD, List.find?_cons, z] at hn
    have hr : getD r k = none := by
      rw [← hn]
      simp [getD, List.find?_cons, hpk]
    have ih := getD_snoc k j d r hr
    simp only [getD, List.cons_append, List.find?_cons] at ih ⊢
    by_cases h1 : p.1 = j
    · have h3 : ¬ j = k := fun z => hpk (h1.trans z)
      simp [h1, h3]
    · simp only [h1, decide_false]
      exact ih
theorem getD_any (k : Key) : ∀ kvs : List (Key × D), (kvs.any fun kv => decide (kv.1 = k)) = (getD kvs k).isSome
  | [] => rfl
  | p :: r => by
    have ih := getD_any k r
    simp only [getD] at ih ⊢
    rw [List.any_cons, ih, List.find?_cons]
    by_cases h : p.1 = k
    · simp [h]
    · simp [h]
theorem getD_put (kvs : List (Key × D)) (k j : Key) (d : D) : getD (putD kvs k d) j = if j = k then some d else getD kvs j := by
  unfold putD
  have ha := getD_any k kvs
  split
  · rename_i h
    rw [h] at ha
    rw [getD_map]
    by_cases hj : j = k
    · subst hj
      cases hg : getD kvs j with
      | none => rw [hg] at ha; cases ha
      | some x => simp
    · simp [hj]
  · rename_i h
    have hn : getD kvs k = none := by
      cases hg : getD kvs k with
      | none => rfl
      | some x => rw [hg] at ha; exact absurd ha h
    exact getD_snoc k j d kvs hn
theorem putD_mem {kvs : List (Key × D)} {k : Key} {d : D} {p : Key × D} (h : p ∈ putD kvs k d) : p ∈ kvs ∨ p = (k, d) := by
  unfold putD at h
  split at h
  · obtain ⟨q, hq, rfl⟩ := List.mem_map.mp h
    by_cases hk : q.1 = k
    · rw [if_pos hk, hk]; exact .inr rfl
    · rw [if_neg hk]; exact .inl hq
  · rcases List.mem_append.mp h with h | h
    · exact .inl h
    · exact .inr (List.mem_singleton.mp h)
theorem putD_len (kvs : List (Key × D)) (k : Key) (d : D) : (putD kvs k d).length ≤ kvs.length + 1 := by
  unfold putD
  split
  · simp
  · simp
theorem getD_mem {kvs : List (Key × D)} {k : Key} {d : D} (h : getD kvs k = some d) : (k, d) ∈ kvs := by
  unfold getD at h
  obtain ⟨p, hp, rfl⟩ := Option.map_eq_some_iff.mp h
  have h1 : p.1 = k := by simpa using List.find?_some hp
  have h2 := List.mem_of_find?_eq_some hp
  rw [← h1]
  exact h2
mutual
theorem eqv_self : ∀ d : D, PyData.eqv (pd d) (pd d) = true
  | .non => by simp [pd, PyData.eqv]
  | .bl b => by simp [pd, PyData.eqv]
  | .int i => by simp [pd, PyData.eqv]
  | .str x => by simp [pd, PyData.eqv]
  | .tup ds => by simpa only [pd, PyData.eqv] using eqv_selfs ds
  | .tl ds => by simpa only [pd, PyData.eqv] using eqv_selfs ds
  | .sl ds => by simpa only [pd, PyData.eqv] using eqv_selfs ds
  | .ref _ => by simp [pd, PyData.eqv]
  | .ty _ => by simp [pd, PyData.eqv]
theorem eqv_selfs : ∀ ds : List D, PyData.eqvAll (pds ds) (pds ds) = true
  | [] => by simp [pds, PyData.eqvAll]
  | d :: ds => by simp only [pds, PyData.eqvAll, eqv_self d, eqv_selfs ds, Bool.and_self]
end
theorem cNe_self {d : D} {st : Store} (h1 : okd d = true) (h2 : dep d ≤ 60) (h3 : deref st d = d) : cNe d d st = some false := by
  unfold cNe
  rw [h3]
  have : okEq d d = true := by
    unfold okEq
    simp only [h1, Bool.true_and, decide_eq_true_eq, Nat.min_self]
    exact h2
  rw [if_pos this]
  unfold deq
  rw [eqv_self]
  rfl
theorem cEq_self {d : D} {st : Store} (h1 : okd d = true) (h2 : dep d ≤ 60) (h3 : deref st d = d) : cEq d d st = some true := by
  unfold cEq
  rw [h3]
  have : okEq d d = true := by
    unfold okEq
    simp only [h1, Bool.true_and, decide_eq_true_eq, Nat.min_self]
    exact h2
  rw [if_pos this]
  unfold deq
  rw [eqv_self]
theorem okds_of : ∀ {ds : List D}, (∀ d ∈ ds, okd d = true) → okds ds = true
  | [], _ => rfl
  | d :: ds, h => by simp only [okds, h d List.mem_cons_self, okds_of fun x hx => h x (List.mem_cons_of_mem _ hx), Bool.and_self]
/-- a near int, or a tuple of ten such at most -/
def Sv (d : D) : Prop := (∃ i, d = .int i ∧ near (.int i) = true) ∨ ∃ xs, d = .tup xs ∧ xs.length ≤ 10 ∧ ∀ x ∈ xs, ∃ i, x = .int i ∧ near (.int i) = true
def Wk (kvs : List (Key × D)) : Prop := ∀ kv ∈ kvs, (∃ z, kv.1 = .inr z ∧ isNm (.str z) = true) ∧ Sv kv.2
theorem Wk.put {kvs : List (Key × D)} {z : Str} {d : D} (h : Wk kvs) (hz : isNm (.str z) = true) (hd : Sv d) : Wk (putD kvs (.inr z) d) := fun kv hkv => by
  rcases putD_mem hkv with q | rfl
  · exact h kv q
  · exact ⟨⟨z, rfl, hz⟩, hd⟩
def Fnd (kvs : List (Key × D)) (x : D) : Prop := ∃ z d, x = .str z ∧ isNm (.str z) = true ∧ getD kvs (.inr z) = some d
def Fnr (kvs : List (Key × D)) (x : D) : Prop := ∃ z xs, x = .str z ∧ isNm (.str z) = true ∧ getD kvs (.inr z) = some (.tup xs) ∧ xs.length ≤ 10
theorem Fnd.put {kvs : List (Key × D)} {x : D} {k : Key} {d : D} (h : Fnd kvs x) : Fnd (putD kvs k d) x := by
  obtain ⟨z, d', e, hn, hg⟩ := h
  by_cases hk : (.inr z : Key) = k
  · exact ⟨z, d, e, hn, by rw [getD_put, if_pos hk]⟩
  · exact ⟨z, d', e, hn, by rw [getD_put, if_neg hk]; exact hg⟩
theorem Fnr.put {kvs : List (Key × D)} {x : D} {k : Key} {ys : List D} (h : Fnr kvs x) (hy : ys.length ≤ 10) : Fnr (putD kvs k (.tup ys)) x := by
  obtain ⟨z, xs, e, hn, hg, hl⟩ := h
  by_cases hk : (.inr z : Key) = k
  · exact ⟨z, ys, e, hn, by rw [getD_put, if_pos hk], hy⟩
  · exact ⟨z, xs, e, hn, by rw [getD_put, if_neg hk]; exact hg, hl⟩
theorem nm_str {x : D} (h : isNm x = true) : ∃ z, x = .str z := by
  cases x <;> simp [isNm] at h
  exact ⟨_, rfl⟩
theorem wp_dicN {env : En} {st : Store} {Q : D → Store → Prop} : Wp (fDicN env st) Q ↔ Q (.ref st.length) (st ++ [.dic []]) := by
  unfold fDicN
  exact wp_some
/-! repr of such a dict -/
theorem wk_shw {kvs : List (Key × D)} (h : Wk kvs) (hl : kvs.length ≤ 1000) : shwK kvs = true := by
  have sv : ∀ d, Sv d → nl d = true ∧ nrd d = true ∧ okd d = true ∧ dep d ≤ 1 ∧ wt d ≤ 400 := by
    rintro d (⟨i, rfl, hi⟩ | ⟨xs, rfl, hx, hxs⟩)
    · exact ⟨rfl, hi, rfl, by simp [dep], by simp [wt]⟩
    · have a : ∀ xs : List D, (∀ x ∈ xs, ∃ i, x = .int i ∧ near (.int i) = true) → nls xs = true ∧ nrds xs = true ∧ okds xs = true ∧ deps xs = 0 ∧ wts xs = 31 * xs.length := by
        intro xs
        induction xs with
        | nil => intro _; exact ⟨rfl, rfl, rfl, rfl, rfl⟩
        | cons x xs ih =>
          intro hxs
          obtain ⟨i, rfl, hi⟩ := hxs x List.mem_cons_self
          obtain ⟨g1, g2, g3, g4, g5⟩ := ih fun y hy => hxs y (List.mem_cons_of_mem _ hy)
          have hi' : nrd (.int i) = true := hi
          refine ⟨by simp [nls, nl, g1], by simp [nrds, hi', g2], by simp [okds, okd, g3], by simp [deps, dep, g4], ?_⟩
          simp only [wts, wt, g5, List.length_cons]
          omega
      obtain ⟨g1, g2, g3, g4, g5⟩ := a xs hxs
      exact ⟨by simpa [nl] using g1, by simpa [nrd] using g2, by simpa [okd] using g3, by simp [dep, g4], by simp only [wt, g5]; omega⟩
  have all : ∀ kvs : List (Key × D), Wk kvs → PyData.showableKv (pdk kvs) = true ∧ PyData.depthKv (pdk kvs) ≤ 1 ∧ PyData.leavesShortKv 13 (pdk kvs) = true ∧ PyData.weightKv (pdk kvs) ≤ 410 * kvs.length ∧ (kvs.all fun kv => nl kv.2) = true := by
    intro kvs
    induction kvs with
    | nil => intro _; exact ⟨by simp [pdk, PyData.showableKv], by simp [pdk, PyData.depthKv], by simp [pdk, PyData.leavesShortKv], by simp [pdk, PyData.weightKv], rfl⟩
    | cons p kvs ih =>
      intro hw
      obtain ⟨⟨z, hk, hz⟩, hv⟩ := hw p List.mem_cons_self
      obtain ⟨g1, g2, g3, g4, g5⟩ := ih fun q hq => hw q (List.mem_cons_of_mem _ hq)
      obtain ⟨v1, v2, v3, v4, v5⟩ := sv p.2 hv
      obtain ⟨w1, w2, w3⟩ := nrd_pd p.2 v2
      have hz8 : z.cps.size ≤ 8 := by
        simp only [isNm, Bool.and_eq_true, decide_eq_true_eq] at hz
        exact hz.1.2
      have hsz := small_nm hz
      have hks : kD p.1 = pd (.str z) := by rw [hk]; rfl
      obtain ⟨y1, y2, y3⟩ := nrd_pd (.str z) rfl
      have ls1 := PyData.leavesShort_of_canLay0 13 _ (lay_pd (.str z) (okd_small _ hsz)) y1
      have ls2 := PyData.leavesShort_of_canLay0 13 _ (lay_pd p.2 v3) w1
      have hd1 : (pd (.str z)).depth = 0 := by rw [dep_pd]; rfl
      have hd2 : (pd p.2).depth ≤ 1 := by rw [dep_pd]; exact v4
      have hw1 : (pd (.str z)).weight ≤ 8 := by
        have : wt (.str z) = z.cps.size := rfl
        omega
      rw [show pdk (p :: kvs) = (kD p.1, pd p.2) :: pdk kvs from rfl, hks]
      refine ⟨?_, ?_, ?_, ?_, ?_⟩
      · simp only [PyData.showableKv, y2, w2, g1, Bool.and_self]
      · simp only [PyData.depthKv]; omega
      · simp only [PyData.leavesShortKv, ls1, ls2, g3, Bool.and_self]
      · simp only [PyData.weightKv, List.length_cons]; omega
      · simp only [List.all_cons, v1, g5, Bool.and_self]
  obtain ⟨g1, g2, g3, g4, g5⟩ := all kvs h
  unfold shwK
  have e1 : (PyData.dict (pdk kvs)).showable = true := by simpa only [PyData.showable] using g1
  have e2 : (PyData.dict (pdk kvs)).depth ≤ 60 := by simp only [PyData.depth]; omega
  have e3 : (PyData.dict (pdk kvs)).shown.length ≤ 16777216 := by
    have := PyData.shown_fits (B := 13) (by decide) (by decide) (d := .dict (pdk kvs)) (by simpa only [PyData.leavesShort] using g3) (by simp only [PyData.weight]; omega)
    rw [sizeLine_eq] at this
    exact this
  rw [e1, decide_eq_true e2, decide_eq_true e3, g5]
  rfl
end Vm
namespace k02
open PySem PySem.Spec PyProof.Rows L2 Vm
local macro_rules | `(tactic| walk_at "vm") => `(tactic| simp only [wps_seq, wps_if, wps_set, wps_ret, wps_nil, wps_for, wps_app, wps_asg, wps_expr, wps_aug, wps_put, wps_ext, wps_rev, wps_putD, wp_bin, wp_con, wp_var, wp_cmp, wp_cons, wp_nil, wp_tup, wp_lst, wp_lstS, wp_rev, wp_addS, wp_dicN, wp_neg, wp_or, wp_and, wp_not, wp_ite, wp_oNone, wp_oSome, wp_cut, wp_call, wp_blt, wp_isi, wpt_cmp, wpt_tru, wpt_and, wpt_or, wpt_not, wpt_ite, wpi_val, wpi_range1, wp_some, wp_comp,
  List.map_cons, List.map_nil, List.replicate, List.cons_append, List.nil_append, List.append_nil, List.getElem?_cons_zero, List.getElem?_cons_succ, List.set_cons_zero, List.set_cons_succ, List.length_cons, List.length_nil, List.length_append, Option.some.injEq, exists_eq_left', exists_eq_left, true_and, and_true, dAdd_int, dSub_int, dMul_int, dAdd_tl, dAdd_tup, dCut_tup, dCut_tl, dRev_tup, bLen_tup, bLen_tl, bList_tup, dIdx_tup, items_tl, if_true, Nat.reduceAdd, Nat.reduceSub, Nat.reduceLeDiff, D.int.injEq, D.ref.injEq, D.tl.injEq, D.tup.injEq, List.cons.injEq, and_self, Nat.reduceEqDiff])
theorem near_of {i : Int} (h0 : -999999999 ≤ i) (h1 : i ≤ 999999999) : near (.int i) = true := by
  simp [near]
  omega
theorem worths_ok {st : Store} {n : Nat} {ns rs : List D} (h : Fd n st) (hns : ∀ x ∈ ns, isNm x = true) (hrs : ∀ x ∈ rs, isNm x = true) (hn1 : ns.length ≤ 10) (hr1 : rs.length ≤ 10) :
    Wp (F__law_worths [.ref n, .tl ns, .tl rs] st) (fun d s => ∃ kvs m, d = .ref m ∧ st.length ≤ m ∧ s[m]? = some (.dic kvs) ∧ Wk kvs ∧ kvs.length ≤ 20 ∧ (∀ x ∈ ns, Fnd kvs x) ∧ (∀ x ∈ rs, Fnr kvs x) ∧ Fr n st s) := by
  unfold F__law_worths B__law_worths
  rw [wp_fn, e_pick, e_take, e_number]
  refine ⟨rfl, ?_⟩
  rw [wps_seq, wps_set, wp_dicN]
  simp only [List.map_cons, List.map_nil, List.replicate, List.cons_append, List.nil_append, List.set_cons_zero, List.set_cons_succ, Nat.reduceSub]
  rw [wps_seq, wps_for]
  simp only [wpi_val, wp_var, List.getElem?_cons_zero, List.getElem?_cons_succ, Option.some.injEq, exists_eq_left', items_tl]
  have f0 : Fr n st (st ++ [.dic []]) := (Fr.refl h).push
  refine wp_forI (fun j e s => ∃ x4 x5 kvs, e = [some (.ref n), some (.tl ns), some (.tl rs), some (.ref st.length), x4, x5] ∧ s[st.length]? = some (.dic kvs) ∧ Wk kvs ∧ kvs.length ≤ j ∧ (∀ x ∈ ns.take j, Fnd kvs x) ∧ Fr n st s) ns 0 _ _ _ ⟨none, none, [], rfl, push_at _ _, (fun _ q => by cases q), Nat.le_refl _, (fun _ q => by simp at q), f0⟩ (fun j x e s hx hI => ?_) (fun e s hI => ?_)
  · obtain ⟨x4, x5, kvs, rfl, ha, hw, hl, hf, fs⟩ := hI
    rw [Nat.zero_add] at hf hl
    have hj := (List.getElem?_eq_some_iff.mp hx).1
    have hnx := hns x (List.mem_of_getElem? hx)
    obtain ⟨z, rfl⟩ := nm_str hnx
    refine ⟨trivial, _, rfl, ?_⟩
    walk_at "vm"
    refine (number_ok fs.fd).mono fun d s1 hd => ?_
    obtain ⟨i, rfl, i0, i1, g1⟩ := hd
    have a1 : s1[st.length]? = some (.dic kvs) := g1.keep _ _ (by have := h.lt; omega) ha
    have hlt := (List.getElem?_eq_some_iff.mp a1).1
    refine ⟨st.length, kvs, .inr z, rfl, a1, rfl, by omega, ?_⟩
    refine ⟨_, _, putD kvs (.inr z) (.int i), ⟨rfl, rfl⟩, by rw [List.getElem?_set_self hlt], hw.put hnx (.inl ⟨i, rfl, near_of i0 i1⟩), ?_, fun x hx2 => ?_, (fs.trans g1).setN (Nat.le_refl _) h.lt⟩
    · have := putD_len kvs (.inr z) (.int i); omega
    · rw [Nat.zero_add, List.take_add_one, hx] at hx2
      rcases List.mem_append.mp hx2 with q | q
      · exact (hf x q).put
      · have : x = .str z := by simpa using q
        subst this
        exact ⟨z, .int i, rfl, hnx, by rw [getD_put, if_pos rfl]⟩
  · obtain ⟨x4, x5, kvs, rfl, ha, hw, hl, hf, fs⟩ := hI
    rw [Nat.zero_add, List.take_length] at hf
    refine ⟨trivial, ?_⟩
    dsimp only
    rw [wps_seq, wps_for]
    simp only [wpi_val, wp_var, List.getElem?_cons_zero, List.getElem?_cons_succ, Option.some.injEq, exists_eq_left', items_tl]
    refine wp_forI (fun j e s => ∃ x4 x5 kvs, e = [some (.ref n), some (.tl ns), some (.tl rs), some (.ref st.length), x4, x5] ∧ s[st.length]? = some (.dic kvs) ∧ Wk kvs ∧ kvs.length ≤ 10 + j ∧ (∀ x ∈ ns, Fnd kvs x) ∧ (∀ x ∈ rs.take j, Fnr kvs x) ∧ Fr n st s) rs 0 _ _ _ ⟨x4, x5, kvs, rfl, ha, hw, by omega, hf, (fun _ q => by simp at q), fs⟩ (fun j x e s0 hx hI => ?_) (fun e s hI => ?_)
    · obtain ⟨x4, x5, kvs, rfl, ha, hw, hl, hf, hr, fs⟩ := hI
      rw [Nat.zero_add] at hr hl
      have hj := (List.getElem?_eq_some_iff.mp hx).1
      have hnx := hrs x (List.mem_of_getElem? hx)
      obtain ⟨z, rfl⟩ := nm_str hnx
      refine ⟨trivial, _, rfl, ?_⟩
      walk_at "vm"
      refine (pick_tl fs.fd (by simp) (by simp)).mono fun d s1 hd => ?_
      obtain ⟨m1, g1⟩ := hd
      obtain ⟨q, rfl, q0, q1⟩ : ∃ q : Int, d = .int q ∧ 0 < q ∧ q ≤ 10 := by
        simp only [List.mem_cons, List.not_mem_nil, or_false] at m1
        rcases m1 with rfl | rfl | rfl <;> exact ⟨_, rfl, by omega, by omega⟩
      refine (take_ok g1.fd q0 (by omega)).mono fun d s2 hd => ?_
      obtain ⟨r, rfl, r0, r1, g2⟩ := hd
      simp only [D.int.injEq, exists_eq_left']
      refine ⟨⟨by omega, by omega⟩, by simp [rangeD]; omega, ?_⟩
      have hrl : (rangeD 0 r.toNat).length = r.toNat := by simp [rangeD]
      refine wp_compI (fun i acc s => (∀ x ∈ acc, ∃ i, x = .int i ∧ near (.int i) = true) ∧ acc.length = i ∧ Fr n s0 s) (rangeD 0 r.toNat) 0 [] s2 _ ⟨by simp, rfl, g1.trans g2⟩ (fun i d acc s hd hI => ?_) (fun acc s hI => ?_) (fun i acc s hI => ⟨acc, by simp⟩)
      · obtain ⟨h1, h2, h3⟩ := hI
        refine ⟨trivial, _, rfl, wp_some.mpr ?_⟩
        rw [if_pos rfl]
        simp only [wp_call, wp_cons, wp_nil, wp_var, wipeE, List.set_cons_succ, List.set_cons_zero, List.getElem?_cons_zero, Option.some.injEq, exists_eq_left', List.length_cons, List.length_nil, true_and]
        refine (number_ok h3.fd).mono fun d s3 hd => ?_
        obtain ⟨i', rfl, i0, i1, g3⟩ := hd
        refine ⟨fun x hx => ?_, by simp [h2], h3.trans g3⟩
        rcases List.mem_append.mp hx with q | q
        · exact h1 x q
        · rw [List.mem_singleton.mp q]; exact ⟨i', rfl, near_of i0 i1⟩
      · obtain ⟨h1, h2, h3⟩ := hI
        refine ⟨trivial, fun ys hys => ?_⟩
        rw [List.nil_append] at hys
        subst hys
        have hyl : acc.length ≤ 10 := by omega
        simp only [bTuple, seqOf, lsqOf, wp_some]
        have a1 : s[st.length]? = some (.dic kvs) := h3.keep _ _ (by have := h.lt; omega) ha
        have hlt := (List.getElem?_eq_some_iff.mp a1).1
        refine ⟨st.length, kvs, .inr z, rfl, a1, rfl, by omega, ?_⟩
        refine ⟨_, _, putD kvs (.inr z) (.tup acc), ⟨rfl, rfl⟩, by rw [List.getElem?_set_self hlt], hw.put hnx (.inr ⟨acc, rfl, hyl, h1⟩), ?_, fun x hx2 => (hf x hx2).put, fun x hx2 => ?_, (fs.trans h3).setN (Nat.le_refl _) h.lt⟩
        · have := putD_len kvs (.inr z) (.tup acc); omega
        · rw [Nat.zero_add, List.take_add_one, hx] at hx2
          rcases List.mem_append.mp hx2 with q | q
          · exact (hr x q).put hyl
          · have : x = .str z := by simpa using q
            subst this
            exact ⟨z, acc, rfl, hnx, by rw [getD_put, if_pos rfl], hyl⟩
    · obtain ⟨x4, x5, kvs, rfl, ha, hw, hl, hf, hr, fs⟩ := hI
      refine ⟨trivial, ?_⟩
      rw [Nat.zero_add, List.take_length] at hr
      walk_at "vm"
      exact ⟨kvs, Nat.le_refl _, ha, hw, by omega, hf, hr, fs⟩
/-- a piece drawn -/
def Dp' (ns rs : List D) (p : D) : Prop := (∃ x ∈ ns, p = .tup [.str "one", x]) ∨ (∃ i : Int, p = .tup [.str "one", .int i]) ∨ (∃ x ∈ rs, p = .tup [.str "row", x]) ∨ ∃ x ∈ rs, p = .tup [.str "back", x]
theorem word_ok {st : Store} {n : Nat} {ns rs : List D} (h : Fd n st) (hn0 : 0 < ns.length) (hr0 : 0 < rs.length) (hn1 : ns.length ≤ 1000) (hr1 : rs.length ≤ 1000) :
    Wp (F__law_word [.ref n, .tl ns, .tl rs, .int 6] st) (fun d st' => ∃ ps, d = .tup ps ∧ ps.length ≤ 6 ∧ (∀ p ∈ ps, Dp' ns rs p) ∧ Fr n st st') := by
  unfold F__law_word B__law_word
  rw [wp_fn, e_pick, e_take, e_number]
  refine ⟨rfl, ?_⟩
  walk_at "vm"
  have f0 : Fr n st (st ++ [.lst []]) := (Fr.refl h).push
  refine (take_ok f0.fd (m := 6 + 1) (by omega) (by omega)).mono fun d st1 hd => ?_
  obtain ⟨r, rfl, r0, r1, f1⟩ := hd
  simp only [D.int.injEq, exists_eq_left']
  refine ⟨⟨by omega, by omega⟩, ?_⟩
  have k1 : st1[st.length]? = some (.lst []) := f1.keep _ _ (by have := h.lt; omega) (push_at _ _)
  refine wp_forI (fun j e s => ∃ x5 x6 acc, e = [some (.ref n), some (.tl ns), some (.tl rs), some (.int 6), some (.ref st.length), x5, x6] ∧ s[st.length]? = some (.lst acc) ∧ acc.length = j ∧ (∀ p ∈ acc, Dp' ns rs p) ∧ Fr n st s) (rangeD 0 r.toNat) 0
    [some (.ref n), some (.tl ns), some (.tl rs), some (.int 6), some (.ref st.length), none, none] st1 _ ⟨none, none, [], rfl, k1, rfl, by simp, f0.trans f1⟩ (fun j x e s hx hI => ?_) (fun e s hI => ?_)
  · obtain ⟨x5, x6, acc, rfl, ha, hl, hp, fs⟩ := hI
    have hj : j < r.toNat := by
      have := (List.getElem?_eq_some_iff.mp hx).1
      simpa [rangeD] using this
    refine ⟨trivial, _, rfl, ?_⟩
    walk_at "vm"
    refine (pick_tl fs.fd hn0 (by omega)).mono fun d s1 hd => ?_
    obtain ⟨m1, g1⟩ := hd
    refine (number_ok g1.fd).mono fun d2 s2 hd => ?_
    obtain ⟨i, rfl, i0, i1, g2⟩ := hd
    refine (pick_tl g2.fd hr0 (by omega)).mono fun d3 s3 hd => ?_
    obtain ⟨m3, g3⟩ := hd
    refine (pick_tl g3.fd hr0 (by omega)).mono fun d4 s4 hd => ?_
    obtain ⟨m4, g4⟩ := hd
    have g := ((g1.trans g2).trans g3).trans g4
    have a4 : s4[st.length]? = some (.lst acc) := g.keep _ _ (by have := h.lt; omega) ha
    refine ⟨_, _, rfl, a4, ?_⟩
    refine (pick_tl g4.fd (by simp) (by simp)).mono fun d5 s5 hd => ?_
    obtain ⟨m5, g5⟩ := hd
    have a5 : s5[st.length]? = some (.lst acc) := g5.keep _ _ (by have := h.lt; omega) a4
    refine ⟨acc, a5, by omega, ?_⟩
    have hd5 : Dp' ns rs d5 := by
      simp only [List.mem_cons, List.not_mem_nil, or_false] at m5
      rcases m5 with rfl | rfl | rfl | rfl
      · exact .inl ⟨_, m1, rfl⟩
      · exact .inr (.inl ⟨i, rfl⟩)
      · exact .inr (.inr (.inl ⟨_, m3, rfl⟩))
      · exact .inr (.inr (.inr ⟨_, m4, rfl⟩))
    have hlt := (List.getElem?_eq_some_iff.mp a5).1
    refine ⟨_, _, acc ++ [d5], ⟨rfl, rfl⟩, by rw [List.getElem?_set_self hlt], by simp [hl], fun p hp' => ?_, (fs.trans (g.trans g5)).setN (Nat.le_refl _) h.lt⟩
    rcases List.mem_append.mp hp' with q | q
    · exact hp p q
    · rw [List.mem_singleton.mp q]; exact hd5
  · obtain ⟨x5, x6, acc, rfl, ha, hl, hp, fs⟩ := hI
    refine ⟨trivial, ?_⟩
    walk_at "vm"
    simp [bTuple, seqOf, lsqOf, ha]
    have : (rangeD 0 r.toNat).length = r.toNat := by simp [rangeD]
    exact ⟨by omega, hp, fs⟩
theorem gp_of {kvs : List (Key × D)} {ns rs : List D} {p : D} (h : Dp' ns rs p) (hn : ∀ x ∈ ns, Fnd kvs x) (hr : ∀ x ∈ rs, Fnr kvs x) : Gp kvs p ∧ (pr kvs p).length ≤ 10 := by
  rcases h with ⟨x, hx, rfl⟩ | ⟨i, rfl⟩ | ⟨x, hx, rfl⟩ | ⟨x, hx, rfl⟩
  · obtain ⟨z, d, rfl, h1, h2⟩ := hn x hx
    exact ⟨.one z d h1 h2, by simp [pr, s11]⟩
  · exact ⟨.num i, by simp [pr, s11]⟩
  · obtain ⟨z, xs, rfl, h1, h2, h3⟩ := hr x hx
    exact ⟨.row z xs h1 h2, by simpa [pr, s12, s22, nO, h2] using h3⟩
  · obtain ⟨z, xs, rfl, h1, h2, h3⟩ := hr x hx
    exact ⟨.back z xs h1 h2, by simpa [pr, s13, s23, nO, h2] using h3⟩
theorem sv_ok {d : D} (h : Sv d) : okd d = true ∧ dep d ≤ 1 := by
  rcases h with ⟨i, rfl, _⟩ | ⟨xs, rfl, _, hx⟩
  · exact ⟨rfl, Nat.zero_le _⟩
  · refine ⟨by simp only [okd]; exact okds_of fun x h => by obtain ⟨i, rfl, _⟩ := hx x h; rfl, ?_⟩
    have := deps_of (n := 0) (ds := xs) fun x h => by obtain ⟨i, rfl, _⟩ := hx x h; exact Nat.le_refl _
    simp only [dep]
    omega
theorem pr_ok {kvs : List (Key × D)} (hw : Wk kvs) {p : D} (h : Gp kvs p) : ∀ d ∈ pr kvs p, okd d = true ∧ dep d ≤ 1 := by
  intro d hd
  have tups : ∀ {z : Str} {xs : List D}, getD kvs (.inr z) = some (.tup xs) → ∀ x ∈ xs, okd x = true ∧ dep x ≤ 1 := fun {z xs} hg x hx => by
    rcases (hw _ (getD_mem hg)).2 with ⟨i, e, _⟩ | ⟨ys, e, _, hy⟩
    · cases e
    · cases e
      obtain ⟨i, rfl, _⟩ := hy x hx
      exact ⟨rfl, Nat.zero_le _⟩
  cases h with
  | num i =>
    have : d = .int i := by simpa [pr, s11, nO] using hd
    subst this
    exact ⟨rfl, Nat.zero_le _⟩
  | one s d' hn hg =>
    have : d = d' := by simpa [pr, s11, nO, hg] using hd
    subst this
    exact sv_ok (hw _ (getD_mem hg)).2
  | row s xs hn hg => exact tups hg d (by simpa [pr, s12, s22, nO, hg] using hd)
  | back s xs hn hg => exact tups hg d (by simpa [pr, s13, s23, nO, hg] using hd)
theorem gp_ok {kvs : List (Key × D)} {p : D} (h : Gp kvs p) : okd p = true ∧ dep p ≤ 1 := by
  have k : ∀ s t : D, okd s = true → okd t = true → dep s = 0 → dep t = 0 → okd (.tup [s, t]) = true ∧ dep (.tup [s, t]) ≤ 1 := fun s t a b c d => ⟨by simp [okd, okds, a, b], by simp [dep, deps, c, d]⟩
  cases h with
  | num i => exact k _ _ (okd_small _ sk1) rfl rfl rfl
  | one s d hn hg => exact k _ _ (okd_small _ sk1) (okd_small _ (small_nm hn)) rfl rfl
  | row s xs hn hg => exact k _ _ (okd_small _ sk2) (okd_small _ (small_nm hn)) rfl rfl
  | back s xs hn hg => exact k _ _ (okd_small _ sk3) (okd_small _ (small_nm hn)) rfl rfl
theorem tup_ne {xs : List D} (h : ∀ d ∈ xs, okd d = true ∧ dep d ≤ 1) (st : Store) : cNe (.tup xs) (.tup xs) st = some false := by
  have := deps_of (n := 1) fun d hd => (h d hd).2
  exact cNe_self (by simp only [okd]; exact okds_of fun d hd => (h d hd).1) (by simp only [dep]; omega) rfl
end k02
namespace k02
open PySem PySem.Spec PyProof.Rows L2 Vm
theorem pairs_ok {kvs : List (Key × D)} {w : List D} {st : Store} {env : En} (hw : ∀ p ∈ w, Gp kvs p) (hl : w.length ≤ 100) (h5 : env[5]? = some (some (.tup w))) (hle : 12 < env.length) :
    Wp (fComp [11, 12] (iVal (fVar 5)) (gTupF 2 (gConsF (gSet 11) (gConsF (gSet 12) (gNilF)))) (tYesF) (fTup (fCons (fBin dIdxA (fDisp [(.inr "one", .str "one"), (.inr "row", .str "back"), (.inr "back", .str "row")]) (fVar 11)) (fCons (fVar 12) (fNil)))) env st) fun d s => d = .tl (w.map tp) ∧ Kp st s := by
  simp only [wp_comp, wpi_val, wp_var, h5, Option.some.injEq, exists_eq_left']
  refine ⟨(w, fun _ => True), rfl, by show w.length ≤ 16777216; omega, ?_⟩
  refine wp_compI (fun i acc s => acc = (w.take i).map tp ∧ Kp st s) w 0 [] st _ ⟨rfl, Kp.refl⟩ (fun i d acc s hd hI => ?_) (fun acc s hI => ?_) (fun i acc s hI => ⟨acc, by simp⟩)
  · obtain ⟨hacc, hk⟩ := hI
    rw [Nat.zero_add] at hacc
    have hstep : (w.take (i + 1)).map tp = acc ++ [tp d] := by
      rw [List.take_add_one, hd, List.map_append, ← hacc]
      rfl
    have fin : ∀ (k k' t : D) (kk : Str), d = .tup [k, t] → k = .str kk → getD (mergeD [] [(.inr "one", .str "one"), (.inr "row", .str "back"), (.inr "back", .str "row")]) (.inr kk) = some k' → tp d = .tup [k', t] →
        True ∧ ∃ e1, gTupF 2 (gConsF (gSet 11) (gConsF (gSet 12) (gNilF))) d (wipeE env [11, 12]) = some e1 ∧ Wp (tYesF e1 s) fun k s1 => if k = true then Wp (fTup (fCons (fBin dIdxA (fDisp [(.inr "one", .str "one"), (.inr "row", .str "back"), (.inr "back", .str "row")]) (fVar 11)) (fCons (fVar 12) (fNil))) e1 s1) fun y s2 => (acc ++ [y] = (w.take (0 + i + 1)).map tp ∧ Kp st s2) else (acc = (w.take (0 + i + 1)).map tp ∧ Kp st s1) := by
      rintro k k' t kk rfl rfl hg htp
      refine ⟨trivial, _, rfl, wp_some.mpr ?_⟩
      rw [if_pos rfl]
      have hidx : ∀ s : Store, dIdxA (.ref s.length) (.str kk) (s ++ [.dic (mergeD [] [(.inr "one", .str "one"), (.inr "row", .str "back"), (.inr "back", .str "row")])]) = some k' := fun s => by
        simp only [dIdxA, push_at, keyD, hg]
      have hlen : 12 < (wipeE env [11, 12]).length := by simpa [wipeE] using hle
      have hv1 : fVar 11 (((wipeE env [11, 12]).set 11 (some (.str kk))).set 12 (some t)) = fun st => some (.str kk, st) := by
        funext st
        unfold fVar
        rw [List.getElem?_set_ne (by omega), List.getElem?_set_self (by omega)]
      have hv2 : fVar 12 (((wipeE env [11, 12]).set 11 (some (.str kk))).set 12 (some t)) = fun st => some (t, st) := by
        funext st
        unfold fVar
        rw [List.getElem?_set_self (by simpa using hlen)]
      simp only [wp_tup, wp_cons, wp_bin, wp_nil, hv1, hv2, wp_some, fDisp, hidx, Option.some.injEq, exists_eq_left', List.length_cons, List.length_nil]
      exact ⟨by omega, by rw [Nat.zero_add, hstep, htp], hk.push⟩
    cases hw d (List.mem_of_getElem? hd) with
    | num i => exact fin _ _ _ _ rfl rfl (show _ = some (.str "one") from rfl) (by simp [tp, s21, s31])
    | one s d' hn hg => exact fin _ _ _ _ rfl rfl (show _ = some (.str "one") from rfl) (by simp [tp, s21, s31])
    | row s xs hn hg => exact fin _ _ _ _ rfl rfl (show _ = some (.str "back") from rfl) (by simp [tp, s22])
    | back s xs hn hg => exact fin _ _ _ _ rfl rfl (show _ = some (.str "row") from rfl) (by simp [tp, s23, s33])
  · obtain ⟨hacc, hk⟩ := hI
    rw [Nat.zero_add, List.take_length] at hacc
    refine ⟨trivial, fun ys hys => ?_⟩
    rw [List.nil_append] at hys
    subst hys
    exact ⟨by rw [hacc], hk⟩
theorem repr_dic {kvs : List (Key × D)} {st : Store} {m : Nat} (h : st[m]? = some (.dic kvs)) (hw : Wk kvs) (hl : kvs.length ≤ 1000) : bReprA [.ref m] st = some (.str (PyData.dict (pdk kvs)).shown, st) := by
  simp only [bReprA, h]
  rw [if_pos (wk_shw hw hl)]
theorem Fr.kp {n : Nat} {a b c : Store} (h : Fd n b) (hk : Kp b c) : Fd n c := by
  obtain ⟨x, y, e, h1, h2⟩ := h
  exact ⟨x, y, hk _ _ e, h1, h2⟩
theorem law_ok {script : D} {ns : List Int} (hs : ∀ st, lsqOf st script = some (ns.map D.int)) (hlen : ∀ st, lenOf st script = some ns.length) (hi : ∀ (i : Int) st', dIdx script (.int i) st' = (match lsqOf st' script with | some xs => L2.atI xs i | none => none)) (hn : ns.length ≤ 63) :
    Wp (F_law [script] []) fun d _ => d = .bl true := by
  unfold F_law B_law
  rw [wp_fn, e_feed, e_names]
  refine ⟨rfl, ?_⟩
  rw [wps_seq, wps_for]
  simp only [wpi_range1, wp_cons, wp_blt, wp_con, wp_var, wp_nil, List.map_cons, List.map_nil, List.replicate, List.cons_append, List.nil_append, List.getElem?_cons_zero, Option.some.injEq, exists_eq_left', Nat.reduceSub]
  simp only [bLen, hlen, bMin, bMax, wp_some, D.int.injEq, List.cons.injEq, and_true, exists_eq_left']
  generalize hM : (if (if (ns.length : Int) < 8 then (ns.length : Int) else 8) > 2 then if (ns.length : Int) < 8 then (ns.length : Int) else 8 else 2) = M
  have hM0 : 0 ≤ M ∧ M ≤ 8 := by
    subst hM
    repeat' split
    all_goals omega
  refine ⟨⟨by omega, by omega⟩, ?_⟩
  refine wp_forI (fun j e s => ∃ x1 x2 x3 x4 x5 x6 x7 x8 x9 x10 x11 x12, e = [some script, x1, x2, x3, x4, x5, x6, x7, x8, x9, x10, x11, x12]) (rangeD 0 M.toNat) 0 _ [] _ ⟨_, _, _, _, _, _, _, _, _, _, _, _, rfl⟩ (fun j x e s hx hI => ?_) (fun e s hI => ?_)
  · obtain ⟨x1, x2, x3, x4, x5, x6, x7, x8, x9, x10, x11, x12, rfl⟩ := hI
    have hj : j < M.toNat := by
      have := (List.getElem?_eq_some_iff.mp hx).1
      simpa [rangeD] using this
    obtain rfl : x = .int (j : Nat) := by
      simp [rangeD, hj] at hx
      exact hx.symm
    refine ⟨trivial, _, rfl, ?_⟩
    rw [wps_seq, wps_set]
    simp only [wp_call, wp_cons, wp_var, wp_nil, List.set_cons_succ, List.set_cons_zero, List.getElem?_cons_succ, List.getElem?_cons_zero, Option.some.injEq, exists_eq_left', List.length_cons, List.length_nil, true_and]
    refine (feed_ok (hs s) (hlen s) hi (k := j) (by omega)).mono fun d st1 hd => ?_
    obtain ⟨rfl, a, b, rfl, ha, hb⟩ := hd
    have hfd : Fd s.length (s ++ [.lst [.int a, .int b]]) := ⟨a, b, push_at _ _, ha, hb⟩
    rw [wps_seq, wps_set]
    simp only [wp_call, wp_cons, wp_var, wp_con, wp_nil, List.set_cons_succ, List.set_cons_zero, List.getElem?_cons_succ, List.getElem?_cons_zero, Option.some.injEq, exists_eq_left', List.length_cons, List.length_nil, true_and]
    have hnm := names_ok (m := 6) hfd (by omega)
    rw [show ((6 : Nat) : Int) = 6 from rfl] at hnm
    refine hnm.mono fun d st2 hd => ?_
    obtain ⟨nms, rfl, hl, hnames, f2⟩ := hd
    rw [wps_seq, wps_set]
    simp only [wp_call, wp_cons, wp_var, wp_con, wp_nil, wp_cut, wp_oNone, wp_oSome, dCut_tl, List.set_cons_succ, List.set_cons_zero, List.getElem?_cons_succ, List.getElem?_cons_zero, Option.some.injEq, exists_eq_left', List.length_cons, List.length_nil, true_and, D.int.injEq]
    have l1 : (Vm.cutD nms none (some 3)).length = 3 := by
      unfold Vm.cutD
      simp [HT.sIx, hl]
    have l2 : (Vm.cutD nms (some 3) none).length = 3 := by
      unfold Vm.cutD
      simp [HT.sIx, hl]
    have sub : ∀ lo hi, ∀ y ∈ Vm.cutD nms lo hi, isNm y = true := fun lo hi y hy => hnames y (cutD_mem hy)
    generalize hA : Vm.cutD nms none (some 3) = A
    generalize hB : Vm.cutD nms (some 3) none = B
    have nA : ∀ y ∈ A, isNm y = true := hA ▸ sub none (some 3)
    have nB : ∀ y ∈ B, isNm y = true := hB ▸ sub (some 3) none
    rw [hA] at l1
    rw [hB] at l2
    refine (worths_ok f2.fd nA nB (by omega) (by omega)).mono fun d st3 hd => ?_
    obtain ⟨kvs, m, rfl, hm0, hdic, hwk, hkl, hfn, hfr, f3⟩ := hd
    rw [wps_seq, wps_set]
    simp only [wp_call, wp_cons, wp_var, wp_con, wp_nil, wp_cut, wp_oNone, wp_oSome, dCut_tl, List.set_cons_succ, List.set_cons_zero, List.getElem?_cons_succ, List.getElem?_cons_zero, Option.some.injEq, exists_eq_left', List.length_cons, List.length_nil, true_and, D.int.injEq, hA, hB]
    refine (word_ok f3.fd (by omega) (by omega) (by omega) (by omega)).mono fun d st4 hd => ?_
    obtain ⟨ps, rfl, hpl, hps, f4⟩ := hd
    have hgp : ∀ p ∈ ps, Gp kvs p := fun p hp => (gp_of (hps p hp) hfn hfr).1
    have hprl : ∀ p ∈ ps, (pr kvs p).length ≤ 10 := fun p hp => (gp_of (hps p hp) hfn hfr).2
    have hmne : m ≠ s.length := by have := f2.fd.lt; omega
    have hdic4 : st4[m]? = some (.dic kvs) := f4.keep _ _ hmne hdic
    rw [wps_seq, wps_set]
    simp only [wp_blt, wp_cons, wp_var, wp_nil, repr_dic hdic4 hwk (by omega), wp_some, List.set_cons_succ, List.set_cons_zero, List.getElem?_cons_succ, List.getElem?_cons_zero, Option.some.injEq, exists_eq_left', List.length_cons, List.length_nil, true_and]
    rw [wps_seq, wps_set]
    simp only [wp_call, wp_cons, wp_var, wp_nil, List.set_cons_succ, List.set_cons_zero, List.getElem?_cons_succ, List.getElem?_cons_zero, Option.some.injEq, exists_eq_left', List.length_cons, List.length_nil, true_and]
    refine (law_row_ok hdic4 hgp hprl (by omega)).mono fun d st5 hd => ?_
    obtain ⟨rfl, k5⟩ := hd
    rw [wps_seq, wps_set]
    simp only [wp_call, wp_cons, wp_var, wp_nil, List.set_cons_succ, List.set_cons_zero, List.getElem?_cons_succ, List.getElem?_cons_zero, Option.some.injEq, exists_eq_left', List.length_cons, List.length_nil, true_and]
    refine (row_of_ok (k5 m _ hdic4) hgp hprl (by omega)).mono fun d st6 hd => ?_
    obtain ⟨rfl, k6⟩ := hd
    have hdic6 := k6 m _ (k5 m _ hdic4)
    have rowok : ∀ d ∈ ps.flatMap (pr kvs), okd d = true ∧ dep d ≤ 1 := fun d hd => by
      obtain ⟨p, hp, hdp⟩ := List.mem_flatMap.mp hd
      exact pr_ok hwk (hgp p hp) d hdp
    rw [wps_seq, wps_if]
    simp only [wpt_or, wpt_not, wpt_tru, wpt_cmp, wp_isi, wp_var, wp_blt, wp_cons, wp_nil, List.getElem?_cons_succ, List.getElem?_cons_zero, Option.some.injEq, exists_eq_left', tagOf, isTag, tru, decide_true, Bool.not_true, Bool.false_eq_true, if_false, tup_ne rowok, repr_dic hdic6 hwk (show kvs.length ≤ 1000 by omega), wp_some, cNeS, wps_nil]
    rw [wps_seq, wps_set]
    simp only [wp_call, wp_cons, wp_var, wp_nil, List.set_cons_succ, List.set_cons_zero, List.getElem?_cons_succ, List.getElem?_cons_zero, Option.some.injEq, exists_eq_left', List.length_cons, List.length_nil, true_and, turned_eq hgp (show ps.length ≤ 100 by omega), wp_some]
    rw [wps_seq, wps_set]
    refine (pairs_ok (kvs := kvs) hgp (by omega) rfl (by simp)).mono fun d st7 hd => ?_
    obtain ⟨rfl, k7⟩ := hd
    have hdic7 := k7 m _ hdic6
    have hgt : ∀ p ∈ ps.reverse.map tp, Gp kvs p := fun p hp => by
      obtain ⟨q, hq, rfl⟩ := List.mem_map.mp hp
      exact (tp_in (hgp q (List.mem_reverse.mp hq))).1
    have hgl : ∀ p ∈ ps.reverse.map tp, (pr kvs p).length ≤ 10 := fun p hp => by
      obtain ⟨q, hq, rfl⟩ := List.mem_map.mp hp
      rw [(tp_in (hgp q (List.mem_reverse.mp hq))).2.1, List.length_reverse]
      exact hprl q (List.mem_reverse.mp hq)
    have hrl : (ps.reverse.map tp).length ≤ 100 := by simp; omega
    simp only [List.set_cons_succ, List.set_cons_zero]
    rw [wps_seq, wps_if]
    have e9 : dRev (.tl (ps.map tp)) st7 = some (.tl (ps.reverse.map tp)) := by
      simp only [dRev, lsqOf, List.map_reverse]
    simp only [wpt_or, wpt_not, wpt_tru, wpt_cmp, wp_isi, wp_var, wp_blt, wp_cons, wp_nil, wp_rev, List.set_cons_succ, List.set_cons_zero, List.getElem?_cons_succ, List.getElem?_cons_zero, Option.some.injEq, exists_eq_left', tagOf, isTag, tru, decide_true, Bool.not_true, Bool.false_eq_true, if_false, e9, bTuple, seqOf, lsqOf, tup_ne (fun p hp => gp_ok (hgt p hp)), wp_some, wps_nil]
    rw [wps_if]
    simp only [wpt_or, wpt_cmp, wp_call, wp_cons, wp_nil, wp_var, List.getElem?_cons_succ, List.getElem?_cons_zero, Option.some.injEq, exists_eq_left', List.length_cons, List.length_nil, true_and]
    refine (row_of_ok hdic7 hgt hgl hrl).mono fun d st8 hd => ?_
    obtain ⟨rfl, k8⟩ := hd
    have rv : ∀ d ∈ (ps.flatMap (pr kvs)).reverse, okd d = true ∧ dep d ≤ 1 := fun d hd => rowok d (List.mem_reverse.mp hd)
    simp only [flat_rev hgp, wp_rev, wp_var, List.getElem?_cons_succ, List.getElem?_cons_zero, Option.some.injEq, exists_eq_left', dRev_tup, tup_ne rv, Bool.false_eq_true, if_false, turned_eq hgt hrl, tp_tp hgp, wp_some, tup_ne (fun p hp => gp_ok (hgp p hp)), wps_nil]
    exact ⟨_, _, _, _, _, _, _, _, _, _, _, _, rfl⟩
  · obtain ⟨x1, x2, x3, x4, x5, x6, x7, x8, x9, x10, x11, x12, rfl⟩ := hI
    refine ⟨trivial, ?_⟩
    dsimp only
    rw [wps_ret]
    simp only [wp_and, wp_cmp, wp_call, wp_cons, wp_tup, wp_nil, wp_dicN, List.length_nil, List.length_cons, true_and]
    have h0 : ∀ st, cEq (.tup []) (.tup []) st = some true := fun st => cEq_self rfl (by decide) rfl
    refine ⟨by omega, ?_⟩
    refine (row_of_ok (kvs := []) (w := []) (push_at _ _) (fun _ q => by cases q) (fun _ q => by cases q) (by simp)).mono fun d st2 hd => ?_
    obtain ⟨rfl, k2⟩ := hd
    simp [h0, tru, turned_eq (kvs := []) (w := []) (fun _ q => by cases q) (by simp)]
theorem law_sp {K : PySem.W.Frag} {H : Hp} {a : Addr} {ns : List Int} (hl : ns.length ≤ 63) (hS : SqL K H a (ns.map V.int)) : spD K 1 F_law [.ref a] H (fun v _ => v = .bl true) E0 :=
  sp_of (fun script ns h1 h2 h3 h4 => law_ok h2 h3 h4 h1) hl hS
theorem all_mk {l : PySem.W.OpenLaw} {w : World} {K : PySem.W.Frag} {h : Heap} {mg : Str → Option Value} {fa : Addr} (X : K.In h) (G : h.Ns mainGlobals mg) (hfa : mg "law" = some (.ref fa))
    {f_is_whole f_turned f__law_feed f__law_take f__law_row f_number_of f__law_pick f__law_names f_piece_row f__law_number f_row_of f__law_word f__law_worths f_law : Addr} {od_is_whole an_is_whole od_turned an_turned od__law_feed an__law_feed od__law_take an__law_take od__law_row an__law_row od_number_of an_number_of od__law_pick an__law_pick od__law_names an__law_names od_piece_row an_piece_row od__law_number an__law_number od_row_of an_row_of od__law_word an__law_word od__law_worths an__law_worths od_law an_law : Option Addr} {sl_is_whole sl_turned sl__law_feed sl__law_take sl__law_row sl_number_of sl__law_pick sl__law_names sl_piece_row sl__law_number sl_row_of sl__law_word sl__law_worths sl_law : Array (Option Value)} {oc_is_whole kV_is_whole dc_is_whole pm_is_whole cd_is_whole ct_is_whole oc_turned kV_turned dc_turned pm_turned cd_turned ct_turned oc__law_feed kV__law_feed dc__law_feed pm__law_feed cd__law_feed ct__law_feed oc__law_take kV__law_take dc__law_take pm__law_take cd__law_take ct__law_take oc__law_row kV__law_row dc__law_row pm__law_row cd__law_row ct__law_row oc_number_of kV_number_of dc_number_of pm_number_of cd_number_of ct_number_of oc__law_pick kV__law_pick dc__law_pick pm__law_pick cd__law_pick ct__law_pick oc__law_names kV__law_names dc__law_names pm__law_names cd__law_names ct__law_names oc_piece_row kV_piece_row dc_piece_row pm_piece_row cd_piece_row ct_piece_row oc__law_number kV__law_number dc__law_number pm__law_number cd__law_number ct__law_number oc_row_of kV_row_of dc_row_of pm_row_of cd_row_of ct_row_of oc__law_word kV__law_word dc__law_word pm__law_word cd__law_word ct__law_word oc__law_worths kV__law_worths dc__law_worths pm__law_worths cd__law_worths ct__law_worths oc_law kV_law dc_law pm_law cd_law ct_law : Value} {p_OTHER_WAY : Addr} {es_OTHER_WAY : Array DictEntry} {n_OTHER_WAY : Nat} {t_OTHER_WAY_0 t_OTHER_WAY_1 t_OTHER_WAY_2 : Tok}
    (a_is_whole : PySem.W.nsIn K mainGlobals "is_whole" = some (some (.ref f_is_whole))) (l_is_whole : K.lookup f_is_whole = some ⟨oc_is_whole, od_is_whole, .func (PySem.W.fnOf "is_whole" "is_whole" (defArgs (topS 2)) (defBody (topS 2)) (defScope (topS 2)) .none kV_is_whole dc_is_whole pm_is_whole an_is_whole cd_is_whole ct_is_whole), sl_is_whole⟩) (c_is_whole : PySem.W.codeIn K cd_is_whole "is_whole" = true) (k_is_whole : PySem.W.keepIn K (.ref f_is_whole) = true)
    (a_turned : PySem.W.nsIn K mainGlobals "turned" = some (some (.ref f_turned))) (l_turned : K.lookup f_turned = some ⟨oc_turned, od_turned, .func (PySem.W.fnOf "turned" "turned" (defArgs (topS 3)) (defBody (topS 3)) (defScope (topS 3)) .none kV_turned dc_turned pm_turned an_turned cd_turned ct_turned), sl_turned⟩) (c_turned : PySem.W.codeIn K cd_turned "turned" = true) (k_turned : PySem.W.keepIn K (.ref f_turned) = true)
    (a__law_feed : PySem.W.nsIn K mainGlobals "_law_feed" = some (some (.ref f__law_feed))) (l__law_feed : K.lookup f__law_feed = some ⟨oc__law_feed, od__law_feed, .func (PySem.W.fnOf "_law_feed" "_law_feed" (defArgs (topS 8)) (defBody (topS 8)) (defScope (topS 8)) .none kV__law_feed dc__law_feed pm__law_feed an__law_feed cd__law_feed ct__law_feed), sl__law_feed⟩) (c__law_feed : PySem.W.codeIn K cd__law_feed "_law_feed" = true) (k__law_feed : PySem.W.keepIn K (.ref f__law_feed) = true)
    (a__law_take : PySem.W.nsIn K mainGlobals "_law_take" = some (some (.ref f__law_take))) (l__law_take : K.lookup f__law_take = some ⟨oc__law_take, od__law_take, .func (PySem.W.fnOf "_law_take" "_law_take" (defArgs (topS 9)) (defBody (topS 9)) (defScope (topS 9)) .none kV__law_take dc__law_take pm__law_take an__law_take cd__law_take ct__law_take), sl__law_take⟩) (c__law_take : PySem.W.codeIn K cd__law_take "_law_take" = true) (k__law_take : PySem.W.keepIn K (.ref f__law_take) = true)
    (a__law_row : PySem.W.nsIn K mainGlobals "_law_row" = some (some (.ref f__law_row))) (l__law_row : K.lookup f__law_row = some ⟨oc__law_row, od__law_row, .func (PySem.W.fnOf "_law_row" "_law_row" (defArgs (topS 14)) (defBody (topS 14)) (defScope (topS 14)) .none kV__law_row dc__law_row pm__law_row an__law_row cd__law_row ct__law_row), sl__law_row⟩) (c__law_row : PySem.W.codeIn K cd__law_row "_law_row" = true) (k__law_row : PySem.W.keepIn K (.ref f__law_row) = true)
    (a_number_of : PySem.W.nsIn K mainGlobals "number_of" = some (some (.ref f_number_of))) (l_number_of : K.lookup f_number_of = some ⟨oc_number_of, od_number_of, .func (PySem.W.fnOf "number_of" "number_of" (defArgs (topS 4)) (defBody (topS 4)) (defScope (topS 4)) .none kV_number_of dc_number_of pm_number_of an_number_of cd_number_of ct_number_of), sl_number_of⟩) (c_number_of : PySem.W.codeIn K cd_number_of "number_of" = true) (k_number_of : PySem.W.keepIn K (.ref f_number_of) = true)
    (a__law_pick : PySem.W.nsIn K mainGlobals "_law_pick" = some (some (.ref f__law_pick))) (l__law_pick : K.lookup f__law_pick = some ⟨oc__law_pick, od__law_pick, .func (PySem.W.fnOf "_law_pick" "_law_pick" (defArgs (topS 10)) (defBody (topS 10)) (defScope (topS 10)) .none kV__law_pick dc__law_pick pm__law_pick an__law_pick cd__law_pick ct__law_pick), sl__law_pick⟩) (c__law_pick : PySem.W.codeIn K cd__law_pick "_law_pick" = true) (k__law_pick : PySem.W.keepIn K (.ref f__law_pick) = true)
    (a__law_names : PySem.W.nsIn K mainGlobals "_law_names" = some (some (.ref f__law_names))) (l__law_names : K.lookup f__law_names = some ⟨oc__law_names, od__law_names, .func (PySem.W.fnOf "_law_names" "_law_names" (defArgs (topS 11)) (defBody (topS 11)) (defScope (topS 11)) .none kV__law_names dc__law_names pm__law_names an__law_names cd__law_names ct__law_names), sl__law_names⟩) (c__law_names : PySem.W.codeIn K cd__law_names "_law_names" = true) (k__law_names : PySem.W.keepIn K (.ref f__law_names) = true)
    (a_piece_row : PySem.W.nsIn K mainGlobals "piece_row" = some (some (.ref f_piece_row))) (l_piece_row : K.lookup f_piece_row = some ⟨oc_piece_row, od_piece_row, .func (PySem.W.fnOf "piece_row" "piece_row" (defArgs (topS 5)) (defBody (topS 5)) (defScope (topS 5)) .none kV_piece_row dc_piece_row pm_piece_row an_piece_row cd_piece_row ct_piece_row), sl_piece_row⟩) (c_piece_row : PySem.W.codeIn K cd_piece_row "piece_row" = true) (k_piece_row : PySem.W.keepIn K (.ref f_piece_row) = true)
    (a__law_number : PySem.W.nsIn K mainGlobals "_law_number" = some (some (.ref f__law_number))) (l__law_number : K.lookup f__law_number = some ⟨oc__law_number, od__law_number, .func (PySem.W.fnOf "_law_number" "_law_number" (defArgs (topS 12)) (defBody (topS 12)) (defScope (topS 12)) .none kV__law_number dc__law_number pm__law_number an__law_number cd__law_number ct__law_number), sl__law_number⟩) (c__law_number : PySem.W.codeIn K cd__law_number "_law_number" = true) (k__law_number : PySem.W.keepIn K (.ref f__law_number) = true)
    (a_row_of : PySem.W.nsIn K mainGlobals "row_of" = some (some (.ref f_row_of))) (l_row_of : K.lookup f_row_of = some ⟨oc_row_of, od_row_of, .func (PySem.W.fnOf "row_of" "row_of" (defArgs (topS 6)) (defBody (topS 6)) (defScope (topS 6)) .none kV_row_of dc_row_of pm_row_of an_row_of cd_row_of ct_row_of), sl_row_of⟩) (c_row_of : PySem.W.codeIn K cd_row_of "row_of" = true) (k_row_of : PySem.W.keepIn K (.ref f_row_of) = true)
    (a__law_word : PySem.W.nsIn K mainGlobals "_law_word" = some (some (.ref f__law_word))) (l__law_word : K.lookup f__law_word = some ⟨oc__law_word, od__law_word, .func (PySem.W.fnOf "_law_word" "_law_word" (defArgs (topS 13)) (defBody (topS 13)) (defScope (topS 13)) .none kV__law_word dc__law_word pm__law_word an__law_word cd__law_word ct__law_word), sl__law_word⟩) (c__law_word : PySem.W.codeIn K cd__law_word "_law_word" = true) (k__law_word : PySem.W.keepIn K (.ref f__law_word) = true)
    (a__law_worths : PySem.W.nsIn K mainGlobals "_law_worths" = some (some (.ref f__law_worths))) (l__law_worths : K.lookup f__law_worths = some ⟨oc__law_worths, od__law_worths, .func (PySem.W.fnOf "_law_worths" "_law_worths" (defArgs (topS 15)) (defBody (topS 15)) (defScope (topS 15)) .none kV__law_worths dc__law_worths pm__law_worths an__law_worths cd__law_worths ct__law_worths), sl__law_worths⟩) (c__law_worths : PySem.W.codeIn K cd__law_worths "_law_worths" = true) (k__law_worths : PySem.W.keepIn K (.ref f__law_worths) = true)
    (a_law : PySem.W.nsIn K mainGlobals "law" = some (some (.ref f_law))) (l_law : K.lookup f_law = some ⟨oc_law, od_law, .func (PySem.W.fnOf "law" "law" (defArgs (topS 16)) (defBody (topS 16)) (defScope (topS 16)) .none kV_law dc_law pm_law an_law cd_law ct_law), sl_law⟩) (c_law : PySem.W.codeIn K cd_law "law" = true) (k_law : PySem.W.keepIn K (.ref f_law) = true)
    (z_abs : PySem.W.nsIn K mainGlobals "abs" = some none)
    (z_bool : PySem.W.nsIn K mainGlobals "bool" = some none)
    (z_int : PySem.W.nsIn K mainGlobals "int" = some none)
    (z_isinstance : PySem.W.nsIn K mainGlobals "isinstance" = some none)
    (z_len : PySem.W.nsIn K mainGlobals "len" = some none)
    (z_list : PySem.W.nsIn K mainGlobals "list" = some none)
    (z_max : PySem.W.nsIn K mainGlobals "max" = some none)
    (z_min : PySem.W.nsIn K mainGlobals "min" = some none)
    (z_range : PySem.W.nsIn K mainGlobals "range" = some none)
    (z_repr : PySem.W.nsIn K mainGlobals "repr" = some none)
    (z_str : PySem.W.nsIn K mainGlobals "str" = some none)
    (z_tuple : PySem.W.nsIn K mainGlobals "tuple" = some none)
    (g_OTHER_WAY : PySem.W.nsIn K mainGlobals "OTHER_WAY" = some (some (.ref p_OTHER_WAY))) (q_OTHER_WAY : K.lookup p_OTHER_WAY = some ⟨.type "dict", none, .dict es_OTHER_WAY n_OTHER_WAY, #[]⟩) (kl_OTHER_WAY : PySem.W.KeysLit w.params es_OTHER_WAY.toList)
    (v_OTHER_WAY_0 : PySem.W.nsIn K p_OTHER_WAY "one" = some (some (.str "one" t_OTHER_WAY_0)))
    (v_OTHER_WAY_1 : PySem.W.nsIn K p_OTHER_WAY "row" = some (some (.str "back" t_OTHER_WAY_1)))
    (v_OTHER_WAY_2 : PySem.W.nsIn K p_OTHER_WAY "back" = some (some (.str "row" t_OTHER_WAY_2))) :
    ∃ fd : FuncData, (∀ (s : Shared) (v : Value), BindsTo s fd ⟨[v], []⟩ [("script", v)]) ∧ ∀ base : Heap, K.In base → base.Ns mainGlobals mg → FnAt l.prog w K mg base callerA [] fa fd ["script"] (spD K 1 F_law) := by
  have gd0 : GD K w mg "OTHER_WAY" GD_OTHER_WAY := ⟨p_OTHER_WAY, PySem.W.mg_of X G g_OTHER_WAY, fun kv hkv => by
    simp only [GD_OTHER_WAY, List.mem_cons, List.not_mem_nil, or_false] at hkv
    rcases hkv with rfl | rfl | rfl
    · exact ⟨rfl, es_OTHER_WAY, n_OTHER_WAY, _, q_OTHER_WAY, kl_OTHER_WAY, v_OTHER_WAY_0, ⟨_, rfl⟩⟩
    · exact ⟨rfl, es_OTHER_WAY, n_OTHER_WAY, _, q_OTHER_WAY, kl_OTHER_WAY, v_OTHER_WAY_1, ⟨_, rfl⟩⟩
    · exact ⟨rfl, es_OTHER_WAY, n_OTHER_WAY, _, q_OTHER_WAY, kl_OTHER_WAY, v_OTHER_WAY_2, ⟨_, rfl⟩⟩⟩
  have T : Tx K w mg := ⟨gd0, PySem.W.mg_none_of X G z_abs, PySem.W.mg_none_of X G z_bool, PySem.W.mg_none_of X G z_int, PySem.W.mg_none_of X G z_isinstance, PySem.W.mg_none_of X G z_len, PySem.W.mg_none_of X G z_list, PySem.W.mg_none_of X G z_max, PySem.W.mg_none_of X G z_min, PySem.W.mg_none_of X G z_range, PySem.W.mg_none_of X G z_repr, PySem.W.mg_none_of X G z_str, PySem.W.mg_none_of X G z_tuple⟩
  have u_is_whole := fun_mk (st := topS 2) l_is_whole c_is_whole k_is_whole
  have d_is_whole : Df K mg "is_whole" (topS 2) ["thing"] := ⟨_, _, u_is_whole, PySem.W.mg_of X G a_is_whole, u_is_whole.binds (ps := ["thing"]) fun _ _ _ _ _ _ us hl => match us, hl with | [_], _ => rfl⟩
  have u_turned := fun_mk (st := topS 3) l_turned c_turned k_turned
  have d_turned : Df K mg "turned" (topS 3) ["word"] := ⟨_, _, u_turned, PySem.W.mg_of X G a_turned, u_turned.binds (ps := ["word"]) fun _ _ _ _ _ _ us hl => match us, hl with | [_], _ => rfl⟩
  have u__law_feed := fun_mk (st := topS 8) l__law_feed c__law_feed k__law_feed
  have d__law_feed : Df K mg "_law_feed" (topS 8) ["script", "k"] := ⟨_, _, u__law_feed, PySem.W.mg_of X G a__law_feed, u__law_feed.binds (ps := ["script", "k"]) fun _ _ _ _ _ _ us hl => match us, hl with | [_, _], _ => rfl⟩
  have u__law_take := fun_mk (st := topS 9) l__law_take c__law_take k__law_take
  have d__law_take : Df K mg "_law_take" (topS 9) ["feed", "many"] := ⟨_, _, u__law_take, PySem.W.mg_of X G a__law_take, u__law_take.binds (ps := ["feed", "many"]) fun _ _ _ _ _ _ us hl => match us, hl with | [_, _], _ => rfl⟩
  have u__law_row := fun_mk (st := topS 14) l__law_row c__law_row k__law_row
  have d__law_row : Df K mg "_law_row" (topS 14) ["word", "worths"] := ⟨_, _, u__law_row, PySem.W.mg_of X G a__law_row, u__law_row.binds (ps := ["word", "worths"]) fun _ _ _ _ _ _ us hl => match us, hl with | [_, _], _ => rfl⟩
  have u_number_of := fun_mk (st := topS 4) l_number_of c_number_of k_number_of
  have d_number_of : Df K mg "number_of" (topS 4) ["term", "worths"] := ⟨_, _, u_number_of, PySem.W.mg_of X G a_number_of, u_number_of.binds (ps := ["term", "worths"]) fun _ _ _ _ _ _ us hl => match us, hl with | [_, _], _ => rfl⟩
  have u__law_pick := fun_mk (st := topS 10) l__law_pick c__law_pick k__law_pick
  have d__law_pick : Df K mg "_law_pick" (topS 10) ["feed", "some"] := ⟨_, _, u__law_pick, PySem.W.mg_of X G a__law_pick, u__law_pick.binds (ps := ["feed", "some"]) fun _ _ _ _ _ _ us hl => match us, hl with | [_, _], _ => rfl⟩
  have u__law_names := fun_mk (st := topS 11) l__law_names c__law_names k__law_names
  have d__law_names : Df K mg "_law_names" (topS 11) ["feed", "many"] := ⟨_, _, u__law_names, PySem.W.mg_of X G a__law_names, u__law_names.binds (ps := ["feed", "many"]) fun _ _ _ _ _ _ us hl => match us, hl with | [_, _], _ => rfl⟩
  have u_piece_row := fun_mk (st := topS 5) l_piece_row c_piece_row k_piece_row
  have d_piece_row : Df K mg "piece_row" (topS 5) ["piece", "worths"] := ⟨_, _, u_piece_row, PySem.W.mg_of X G a_piece_row, u_piece_row.binds (ps := ["piece", "worths"]) fun _ _ _ _ _ _ us hl => match us, hl with | [_, _], _ => rfl⟩
  have u__law_number := fun_mk (st := topS 12) l__law_number c__law_number k__law_number
  have d__law_number : Df K mg "_law_number" (topS 12) ["feed"] := ⟨_, _, u__law_number, PySem.W.mg_of X G a__law_number, u__law_number.binds (ps := ["feed"]) fun _ _ _ _ _ _ us hl => match us, hl with | [_], _ => rfl⟩
  have u_row_of := fun_mk (st := topS 6) l_row_of c_row_of k_row_of
  have d_row_of : Df K mg "row_of" (topS 6) ["word", "worths"] := ⟨_, _, u_row_of, PySem.W.mg_of X G a_row_of, u_row_of.binds (ps := ["word", "worths"]) fun _ _ _ _ _ _ us hl => match us, hl with | [_, _], _ => rfl⟩
  have u__law_word := fun_mk (st := topS 13) l__law_word c__law_word k__law_word
  have d__law_word : Df K mg "_law_word" (topS 13) ["feed", "numbers", "rows", "most"] := ⟨_, _, u__law_word, PySem.W.mg_of X G a__law_word, u__law_word.binds (ps := ["feed", "numbers", "rows", "most"]) fun _ _ _ _ _ _ us hl => match us, hl with | [_, _, _, _], _ => rfl⟩
  have u__law_worths := fun_mk (st := topS 15) l__law_worths c__law_worths k__law_worths
  have d__law_worths : Df K mg "_law_worths" (topS 15) ["feed", "numbers", "rows"] := ⟨_, _, u__law_worths, PySem.W.mg_of X G a__law_worths, u__law_worths.binds (ps := ["feed", "numbers", "rows"]) fun _ _ _ _ _ _ us hl => match us, hl with | [_, _, _], _ => rfl⟩
  have u_law := fun_mk (st := topS 16) l_law c_law k_law
  have d_law : Df K mg "law" (topS 16) ["script"] := ⟨_, _, u_law, PySem.W.mg_of X G a_law, u_law.binds (ps := ["script"]) fun _ _ _ _ _ _ us hl => match us, hl with | [_], _ => rfl⟩
  have e := hfa.symm.trans (PySem.W.mg_of X G a_law)
  cases e
  refine ⟨PySem.W.fnOf "law" "law" (defArgs (topS 16)) (defBody (topS 16)) (defScope (topS 16)) .none kV_law dc_law pm_law an_law cd_law ct_law, fun s v => .of_eq rfl, fun base _ _ => ?_⟩
  have o_is_whole := ok_is_whole (P := l.prog) (w := w) (base := base) T d_is_whole 
  have o_turned := ok_turned (P := l.prog) (w := w) (base := base) T d_turned 
  have o__law_feed := ok__law_feed (P := l.prog) (w := w) (base := base) T d__law_feed 
  have o__law_take := ok__law_take (P := l.prog) (w := w) (base := base) T d__law_take 
  have o__law_row := ok__law_row (P := l.prog) (w := w) (base := base) T d__law_row 
  have o_number_of := ok_number_of (P := l.prog) (w := w) (base := base) T d_number_of o_is_whole
  have o__law_pick := ok__law_pick (P := l.prog) (w := w) (base := base) T d__law_pick o__law_take
  have o__law_names := ok__law_names (P := l.prog) (w := w) (base := base) T d__law_names o__law_take
  have o_piece_row := ok_piece_row (P := l.prog) (w := w) (base := base) T d_piece_row o_number_of
  have o__law_number := ok__law_number (P := l.prog) (w := w) (base := base) T d__law_number o__law_take o__law_pick
  have o_row_of := ok_row_of (P := l.prog) (w := w) (base := base) T d_row_of o_piece_row
  have o__law_word := ok__law_word (P := l.prog) (w := w) (base := base) T d__law_word o__law_take o__law_pick o__law_number
  have o__law_worths := ok__law_worths (P := l.prog) (w := w) (base := base) T d__law_worths o__law_take o__law_pick o__law_number
  exact ok_law (P := l.prog) (w := w) (base := base) T u_law o_turned o__law_feed o__law_row o__law_names o_row_of o__law_word o__law_worths
end k02
open PySem PySem.W PyProof.Rows
set_option maxHeartbeats 0 in
theorem PySem.Challenge.cw_cellvouch_k02_what_words_stand_for_holds : PySem.Challenge.rw_cellvouch_k02_what_words_stand_for.Holds := by
  w_on; o_law; k_head; (case hw => w_witness2)
  k_fill
  refine Vm.walk_at (l := PySem.Challenge.rw_cellvouch_k02_what_words_stand_for) (n := 63) (x := "script") (sp := fun w => Vm.spD _ 1 k02.F_law) rfl (by decide) rfl (fun w h Y => PySem.W.kIn_of Y) ?F (fun _ _ a ns hl hS => k02.law_sp hl hS)
  case F =>
    intro w mg fa h KX G hmg
    refine' k02.all_mk KX G hmg ?a_is_whole ?l_is_whole ?c_is_whole ?k_is_whole ?a_turned ?l_turned ?c_turned ?k_turned ?a__law_feed ?l__law_feed ?c__law_feed ?k__law_feed ?a__law_take ?l__law_take ?c__law_take ?k__law_take ?a__law_row ?l__law_row ?c__law_row ?k__law_row ?a_number_of ?l_number_of ?c_number_of ?k_number_of ?a__law_pick ?l__law_pick ?c__law_pick ?k__law_pick ?a__law_names ?l__law_names ?c__law_names ?k__law_names ?a_piece_row ?l_piece_row ?c_piece_row ?k_piece_row ?a__law_number ?l__law_number ?c__law_number ?k__law_number ?a_row_of ?l_row_of ?c_row_of ?k_row_of ?a__law_word ?l__law_word ?c__law_word ?k__law_word ?a__law_worths ?l__law_worths ?c__law_worths ?k__law_worths ?a_law ?l_law ?c_law ?k_law ?z_abs ?z_bool ?z_int ?z_isinstance ?z_len ?z_list ?z_max ?z_min ?z_range ?z_repr ?z_str ?z_tuple ?g_OTHER_WAY ?q_OTHER_WAY ?kl_OTHER_WAY ?v_OTHER_WAY_0 ?v_OTHER_WAY_1 ?v_OTHER_WAY_2
    (case a_is_whole => k_is); (case l_is_whole => k_is); (case c_is_whole => k_is); (case k_is_whole => k_is); (case a_turned => k_is); (case l_turned => k_is); (case c_turned => k_is); (case k_turned => k_is); (case a__law_feed => k_is); (case l__law_feed => k_is); (case c__law_feed => k_is); (case k__law_feed => k_is); (case a__law_take => k_is); (case l__law_take => k_is); (case c__law_take => k_is); (case k__law_take => k_is); (case a__law_row => k_is); (case l__law_row => k_is); (case c__law_row => k_is); (case k__law_row => k_is); (case a_number_of => k_is); (case l_number_of => k_is); (case c_number_of => k_is); (case k_number_of => k_is); (case a__law_pick => k_is); (case l__law_pick => k_is); (case c__law_pick => k_is); (case k__law_pick => k_is); (case a__law_names => k_is); (case l__law_names => k_is); (case c__law_names => k_is); (case k__law_names => k_is); (case a_piece_row => k_is); (case l_piece_row => k_is); (case c_piece_row => k_is); (case k_piece_row => k_is); (case a__law_number => k_is); (case l__law_number => k_is); (case c__law_number => k_is); (case k__law_number => k_is); (case a_row_of => k_is); (case l_row_of => k_is); (case c_row_of => k_is); (case k_row_of => k_is); (case a__law_word => k_is); (case l__law_word => k_is); (case c__law_word => k_is); (case k__law_word => k_is); (case a__law_worths => k_is); (case l__law_worths => k_is); (case c__law_worths => k_is); (case k__law_worths => k_is); (case a_law => k_is); (case l_law => k_is); (case c_law => k_is); (case k_law => k_is); (case z_abs => k_is); (case z_bool => k_is); (case z_int => k_is); (case z_isinstance => k_is); (case z_len => k_is); (case z_list => k_is); (case z_max => k_is); (case z_min => k_is); (case z_range => k_is); (case z_repr => k_is); (case z_str => k_is); (case z_tuple => k_is); (case g_OTHER_WAY => k_is); (case q_OTHER_WAY => k_is); (case kl_OTHER_WAY => first | k_is | exact ⟨⟨_, _, rfl, rfl⟩, ⟨_, _, rfl, rfl⟩, ⟨_, _, rfl, rfl⟩, trivial⟩); (case v_OTHER_WAY_0 => k_is); (case v_OTHER_WAY_1 => k_is); (case v_OTHER_WAY_2 => k_is)
