import PyProof.Rows.All
import Wide.All
import OpenK.AllK
import Wide.FinOn
import HandS.ForMost
import HandS.IsInst
import HandS.Deep
import HandS.Flow
import HandS.TupAny
import HandS.TupMul
import HandS.Style
import HandS.Walk
import HandS.Zip
import HandS.More
import HandS.Set
import HandS.Strs
import PyProof.Rows.SetFrom
import PyProof.Rows.StrMeet
import PySem.Challenge.RW_cellvouch_k03_what_is_a_claim
set_option Elab.async false
set_option linter.all false
set_option maxRecDepth 100000
namespace Vm
open PySem PySem.Spec PyProof.Rows L2

/-- a value: data; a list by value (nobody changes it any more); a read-only list; an object of the store -/
inductive D where
  | non | bl (b : Bool) | int (i : Int) | str (x : Str) | tup (xs : List D) | tl (xs : List D) | sl (xs : List D) | ref (n : Nat) | ty (n : String)
  deriving Inhabited
inductive O where
  | lst (xs : List D)
  | dic (kvs : List (Key × D))
abbrev Store := List O
abbrev En := List (Option D)
abbrev FE := En → Store → Option (D × Store)
abbrev FT := En → Store → Option (Bool × Store)
abbrev FA := En → Store → Option (List D × Store)
inductive Out where
  | nx (e : En) | rt (v : D) | bk (e : En) | ct (e : En)
abbrev FS := En → Store → Option (Out × Store)

/-- where the store's objects lie; what is hidden -/
structure Wn where
  r : List Addr
  h : List Addr

mutual
def Rep (K : PySem.W.Frag) (ρ : Wn) (H : Hp) : D → V → Prop
  | .non, v => v = .non
  | .bl b, v => v = .bl b
  | .int i, v => v = .int i
  | .str x, v => v = .str x
  | .tup ds, v => ∃ a vs, v = .ref a ∧ SqT K H a vs ∧ Reps K ρ H ds vs
  | .tl ds, v => ∃ a vs, v = .ref a ∧ ((a ∉ ρ.r ∧ a ∉ ρ.h) ∧ H a = some (.lst vs)) ∧ Reps K ρ H ds vs
  | .sl ds, v => ∃ a vs, v = .ref a ∧ ((a ∉ ρ.r ∧ ∃ ob, H a = some (.frz ob (.lst vs))) ∨ ∃ (o : Obj) (its : Array Value) (n : Nat), K.lookup a = some o ∧ o.cls = .type "list" ∧ o.dict = none ∧ o.data = .seq its n ∧ its.size ≤ sizeLine ∧ Vals vs its.toList) ∧ Reps K ρ H ds vs
  | .ref n, v => ∃ a, v = .ref a ∧ ρ.r[n]? = some a
  | .ty n, v => v = .ty n
def Reps (K : PySem.W.Frag) (ρ : Wn) (H : Hp) : List D → List V → Prop
  | [], vs => vs = []
  | d :: ds, vs => ∃ v r, vs = v :: r ∧ Rep K ρ H d v ∧ Reps K ρ H ds r
end

structure Le (ρ : Wn) (H : Hp) (ρ' : Wn) (H' : Hp) : Prop where
  pre : ∃ m hs, ρ' = ⟨ρ.r ++ m, hs ++ ρ.h⟩ ∧ (∀ a ∈ m, H a = none) ∧ ∀ a ∈ hs, H a = none
  keep : ∀ a o, a ∉ ρ.r → H a = some o → H' a = some o
  tup : ∀ a xs, Rd H a (.tup xs) → Rd H' a (.tup xs)
  live : ∀ a, H' a = none → H a = none

section
variable {K : PySem.W.Frag} {ρ ρ' ρ'' : Wn} {H H' H'' : Hp}
theorem Le.refl : Le ρ H ρ H := ⟨⟨[], [], by simp, by simp, by simp⟩, fun _ _ _ h => h, fun _ _ h => h, fun _ h => h⟩
theorem Le.notinH (L : Le ρ H ρ' H') {a : Addr} {o : HO} (h : a ∉ ρ.h) (e : H a = some o) : a ∉ ρ'.h := by
  obtain ⟨m, hs, rfl, _, hh⟩ := L.pre
  intro q
  rcases List.mem_append.mp q with q | q
  · rw [hh a q] at e; cases e
  · exact h q
theorem Le.notin (L : Le ρ H ρ' H') {a : Addr} {o : HO} (h : a ∉ ρ.r) (e : H a = some o) : a ∉ ρ'.r := by
  obtain ⟨m, hs, rfl, hm, _⟩ := L.pre
  intro q
  rcases List.mem_append.mp q with q | q
  · exact h q
  · rw [hm a q] at e; cases e
theorem Le.trans (L : Le ρ H ρ' H') (L2 : Le ρ' H' ρ'' H'') : Le ρ H ρ'' H'' := by
  refine ⟨?_, fun a o h e => L2.keep a o (L.notin h e) (L.keep a o h e), fun a xs h => L2.tup a xs (L.tup a xs h), fun a h => L.live a (L2.live a h)⟩
  obtain ⟨m, hs, rfl, hm, hh⟩ := L.pre
  obtain ⟨m', hs', rfl, hm', hh'⟩ := L2.pre
  refine ⟨m ++ m', hs' ++ hs, by rw [List.append_assoc, List.append_assoc], fun a h => ?_, fun a h => ?_⟩
  · rcases List.mem_append.mp h with h | h
    · exact hm a h
    · exact L.live a (hm' a h)
  · rcases List.mem_append.mp h with h | h
    · exact L.live a (hh' a h)
    · exact hh a h
theorem Le.sqt (L : Le ρ H ρ' H') {a : Addr} {xs : List V} (h : SqT K H a xs) : SqT K H' a xs := by
  rcases h with h | h
  · exact .inl (L.tup a xs h)
  · exact .inr h
mutual
theorem Rep.mono (L : Le ρ H ρ' H') : ∀ (d : D) (v : V), Rep K ρ H d v → Rep K ρ' H' d v
  | .non, _, h => h
  | .bl _, _, h => h
  | .int _, _, h => h
  | .str _, _, h => h
  | .tup ds, v, h => by
    obtain ⟨a, vs, e, hs, hr⟩ := h
    exact ⟨a, vs, e, L.sqt hs, Reps.mono L ds vs hr⟩
  | .tl ds, v, h => by
    obtain ⟨a, vs, e, ⟨hn, hs⟩, hr⟩ := h
    exact ⟨a, vs, e, ⟨⟨L.notin hn.1 hs, L.notinH hn.2 hs⟩, L.keep _ _ hn.1 hs⟩, Reps.mono L ds vs hr⟩
  | .sl ds, v, h => by
    obtain ⟨a, vs, e, h1, hr⟩ := h
    refine ⟨a, vs, e, ?_, Reps.mono L ds vs hr⟩
    rcases h1 with ⟨hn, ob, hs⟩ | h1
    · exact .inl ⟨L.notin hn hs, ob, L.keep _ _ hn hs⟩
    · exact .inr h1
  | .ref n, v, h => by
    obtain ⟨a, e, hr⟩ := h
    obtain ⟨m, hs, rfl, _⟩ := L.pre
    obtain ⟨hlt, _⟩ := List.getElem?_eq_some_iff.mp hr
    exact ⟨a, e, by rw [List.getElem?_append_left hlt]; exact hr⟩
  | .ty _, _, h => h
theorem Reps.mono (L : Le ρ H ρ' H') : ∀ (ds : List D) (vs : List V), Reps K ρ H ds vs → Reps K ρ' H' ds vs
  | [], _, h => h
  | d :: ds, vs, h => by
    obtain ⟨v, r, e, h1, h2⟩ := h
    exact ⟨v, r, e, Rep.mono L d v h1, Reps.mono L ds r h2⟩
end
theorem Reps.length : ∀ {ds : List D} {vs : List V}, Reps K ρ H ds vs → ds.length = vs.length
  | [], _, h => by rw [show _ = [] from h]; rfl
  | d :: ds, vs, h => by
    obtain ⟨v, r, e, _, h2⟩ := h
    rw [e, List.length_cons, List.length_cons, Reps.length h2]
theorem Reps.get : ∀ {ds : List D} {vs : List V} {i : Nat} {d : D}, Reps K ρ H ds vs → ds[i]? = some d → ∃ v, vs[i]? = some v ∧ Rep K ρ H d v
  | [], _, _, _, _, e => by simp at e
  | d :: ds, vs, 0, d', h, e => by
    obtain ⟨v, r, rfl, h1, _⟩ := h
    simp at e; subst e
    exact ⟨v, rfl, h1⟩
  | d :: ds, vs, i + 1, d', h, e => by
    obtain ⟨v, r, rfl, _, h2⟩ := h
    obtain ⟨w, e2, r2⟩ := Reps.get (i := i) (d := d') h2 (by simpa using e)
    exact ⟨w, by simpa using e2, r2⟩
theorem Reps.getV : ∀ {ds : List D} {vs : List V} {i : Nat} {v : V}, Reps K ρ H ds vs → vs[i]? = some v → ∃ d, ds[i]? = some d ∧ Rep K ρ H d v
  | [], vs, _, _, h, e => by rw [show vs = [] from h] at e; simp at e
  | d :: ds, vs, 0, v', h, e => by
    obtain ⟨v, r, rfl, h1, _⟩ := h
    simp at e; subst e
    exact ⟨d, rfl, h1⟩
  | d :: ds, vs, i + 1, v', h, e => by
    obtain ⟨v, r, rfl, _, h2⟩ := h
    obtain ⟨w, e2, r2⟩ := Reps.getV (i := i) (v := v') h2 (by simpa using e)
    exact ⟨w, by simpa using e2, r2⟩
theorem Reps.append : ∀ {as bs : List D} {vs ws : List V}, Reps K ρ H as vs → Reps K ρ H bs ws → Reps K ρ H (as ++ bs) (vs ++ ws)
  | [], _, _, _, h, h' => by rw [show _ = [] from h]; exact h'
  | d :: ds, bs, vs, ws, h, h' => by
    obtain ⟨v, r, rfl, h1, h2⟩ := h
    exact ⟨v, r ++ ws, rfl, h1, Reps.append h2 h'⟩
theorem Reps.take : ∀ {ds : List D} {vs : List V} (n : Nat), Reps K ρ H ds vs → Reps K ρ H (ds.take n) (vs.take n)
  | [], _, n, h => by rw [show _ = [] from h]; simp [Reps]
  | d :: ds, vs, 0, h => by simp [Reps]
  | d :: ds, vs, n + 1, h => by
    obtain ⟨v, r, rfl, h1, h2⟩ := h
    exact ⟨v, r.take n, rfl, h1, Reps.take n h2⟩
theorem Reps.drop : ∀ {ds : List D} {vs : List V} (n : Nat), Reps K ρ H ds vs → Reps K ρ H (ds.drop n) (vs.drop n)
  | ds, vs, 0, h => h
  | [], _, n + 1, h => by rw [show _ = [] from h]; simp [Reps]
  | d :: ds, vs, n + 1, h => by
    obtain ⟨v, r, rfl, h1, h2⟩ := h
    exact Reps.drop n h2
theorem Reps.set {d : D} {v : V} (hd : Rep K ρ H d v) : ∀ {ds : List D} {vs : List V} (n : Nat), Reps K ρ H ds vs → Reps K ρ H (ds.set n d) (vs.set n v)
  | [], _, n, h => by rw [show _ = [] from h]; simp [Reps]
  | e :: ds, vs, 0, h => by
    obtain ⟨u, r, rfl, h1, h2⟩ := h
    exact ⟨v, r, rfl, hd, h2⟩
  | e :: ds, vs, n + 1, h => by
    obtain ⟨u, r, rfl, h1, h2⟩ := h
    exact ⟨u, r.set n v, rfl, h1, Reps.set hd n h2⟩
theorem Reps.snoc {ds : List D} {vs : List V} {d : D} {v : V} (h : Reps K ρ H ds vs) (hd : Rep K ρ H d v) : Reps K ρ H (ds ++ [d]) (vs ++ [v]) :=
  h.append ⟨v, [], rfl, hd, rfl⟩
theorem Reps.flat {ds : List D} {vs : List V} (h : Reps K ρ H ds vs) : ∀ n, Reps K ρ H (List.replicate n ds).flatten (List.replicate n vs).flatten
  | 0 => by simp [Reps]
  | n + 1 => by
    rw [List.replicate_succ, List.replicate_succ, List.flatten_cons, List.flatten_cons]
    exact h.append (Reps.flat h n)
end

def RepO (K : PySem.W.Frag) (ρ : Wn) (H : Hp) (o : O) (a : Addr) : Prop :=
  match o with
  | .lst ds => ∃ vs, H a = some (.lst vs) ∧ Reps K ρ H ds vs
  | .dic kvs => ∃ us, H a = some (.dK us) ∧ us.map (·.1) = kvs.map (·.1) ∧ Reps K ρ H (kvs.map (·.2)) (us.map (·.2))
structure Sim (K : PySem.W.Frag) (ρ : Wn) (st : Store) (H : Hp) : Prop where
  len : ρ.r.length = st.length
  hid : ∀ a, a ∈ ρ.h → ∃ o, H a = some o
  inj : ∀ (i j : Nat) (a : Addr), ρ.r[i]? = some a → ρ.r[j]? = some a → i = j
  obj : ∀ (n : Nat) (o : O) (a : Addr), st[n]? = some o → ρ.r[n]? = some a → RepO K ρ H o a
structure EnR (K : PySem.W.Frag) (ρ : Wn) (H : Hp) (env : En) (σ : L2.St) : Prop where
  len : env.length = σ.length
  get : ∀ (i : Nat) (d : D), env[i]? = some (some d) → ∃ v, σ[i]? = some (some v) ∧ Rep K ρ H d v
section
variable {K : PySem.W.Frag} {ρ ρ' : Wn} {H H' : Hp} {st : Store} {env : En} {σ : L2.St}
theorem EnR.mono (E : EnR K ρ H env σ) (L : Le ρ H ρ' H') : EnR K ρ' H' env σ :=
  ⟨E.len, fun i d e => let ⟨v, e1, r⟩ := E.get i d e; ⟨v, e1, Rep.mono L d v r⟩⟩
theorem EnR.set (E : EnR K ρ H env σ) {i : Nat} {d : D} {v : V} (r : Rep K ρ H d v) : EnR K ρ H (env.set i (some d)) (σ.set i (some v)) := by
  refine ⟨by rw [List.length_set, List.length_set]; exact E.len, fun j d' e => ?_⟩
  by_cases h : i = j
  · subst h
    have hl : i < env.length := by
      have q := (List.getElem?_eq_some_iff.mp e).1
      simpa using q
    rw [List.getElem?_set_self hl] at e
    cases e
    exact ⟨v, by rw [List.getElem?_set_self (by rw [← E.len]; exact hl)], r⟩
  · rw [List.getElem?_set_ne h] at e
    obtain ⟨w, e1, r1⟩ := E.get j d' e
    exact ⟨w, by rw [List.getElem?_set_ne h]; exact e1, r1⟩
/-- a new object, not told of in the store -/
theorem Le.new {p : Addr} {o : HO} (h : H p = none) : Le ρ H ρ (upd H p o) := by
  refine ⟨⟨[], [], by simp, by simp, by simp⟩, fun a o' _ e => by rw [upd_ne (ne_of_none e h)]; exact e, fun a xs r => ?_, fun a e => ?_⟩
  · rcases r with r | ⟨ob, r⟩
    · exact .inl (by rw [upd_ne (ne_of_none r h)]; exact r)
    · exact .inr ⟨ob, by rw [upd_ne (ne_of_none r h)]; exact r⟩
  · by_cases q : a = p
    · subst q; rw [upd_same] at e; cases e
    · rwa [upd_ne q] at e
theorem RepO.mono (L : Le ρ H ρ' H') {o : O} {a : Addr} (h : RepO K ρ H o a) (e : H' a = H a) : RepO K ρ' H' o a := by
  cases o with
  | lst ds =>
    obtain ⟨vs, e1, r⟩ := h
    exact ⟨vs, e.trans e1, Reps.mono L _ _ r⟩
  | dic kvs =>
    obtain ⟨us, e1, ek, r⟩ := h
    exact ⟨us, e.trans e1, ek, Reps.mono L _ _ r⟩
theorem RepO.some {o : O} {a : Addr} (h : RepO K ρ H o a) : ∃ u, H a = some u := by
  cases o with
  | lst ds => obtain ⟨vs, e, _⟩ := h; exact ⟨_, e⟩
  | dic ds => obtain ⟨vs, e, _⟩ := h; exact ⟨_, e⟩
theorem Sim.at (S : Sim K ρ st H) {n : Nat} {a : Addr} (e : ρ.r[n]? = some a) : ∃ o, st[n]? = some o ∧ RepO K ρ H o a := by
  obtain ⟨hl, _⟩ := List.getElem?_eq_some_iff.mp e
  rw [S.len] at hl
  exact ⟨st[n], List.getElem?_eq_getElem hl, S.obj n _ a (List.getElem?_eq_getElem hl) e⟩
theorem Sim.addr (S : Sim K ρ st H) {n : Nat} {o : O} (e : st[n]? = some o) : ∃ a, ρ.r[n]? = some a ∧ RepO K ρ H o a := by
  obtain ⟨hl, _⟩ := List.getElem?_eq_some_iff.mp e
  rw [← S.len] at hl
  exact ⟨ρ.r[n], List.getElem?_eq_getElem hl, S.obj n _ _ e (List.getElem?_eq_getElem hl)⟩
theorem Sim.mem (S : Sim K ρ st H) {a : Addr} (h : a ∈ ρ.r) : ∃ u, H a = some u := by
  obtain ⟨n, hl, e⟩ := List.getElem_of_mem h
  obtain ⟨o, _, r⟩ := S.at (n := n) (a := a) (by rw [List.getElem?_eq_getElem hl, e])
  exact r.some
theorem Sim.fresh (S : Sim K ρ st H) {p : Addr} (h : H p = none) : p ∉ ρ.r := fun q => by
  obtain ⟨u, e⟩ := S.mem q
  rw [h] at e; cases e
theorem Sim.freshH (S : Sim K ρ st H) {p : Addr} (h : H p = none) : p ∉ ρ.h := fun q => by
  obtain ⟨u, e⟩ := S.hid p q
  rw [h] at e; cases e
/-- an object laid that the store doesn't tell of -/
theorem Sim.new (S : Sim K ρ st H) {p : Addr} {o : HO} (h : H p = none) : Sim K ρ st (upd H p o) :=
  ⟨S.len, fun a q => (S.hid a q).imp fun o e => by rw [upd_ne (ne_of_none e h)]; exact e, S.inj, fun n x a e1 e2 => (S.obj n x a e1 e2).mono (Le.new h) (upd_ne (fun q => S.fresh h (q ▸ List.mem_of_getElem? e2)))⟩
/-- an object laid that the store tells of -/
theorem Le.push {p : Addr} {o : HO} (h : H p = none) : Le ρ H ⟨ρ.r ++ [p], ρ.h⟩ (upd H p o) := by
  have L := Le.new (ρ := ρ) (o := o) h
  exact ⟨⟨[p], [], rfl, fun a q => by rw [List.mem_singleton.mp q]; exact h, by simp⟩, L.keep, L.tup, L.live⟩
theorem Sim.push (S : Sim K ρ st H) {p : Addr} {u : HO} {o : O} (h : H p = none) (r : RepO K ⟨ρ.r ++ [p], ρ.h⟩ (upd H p u) o p) : Sim K ⟨ρ.r ++ [p], ρ.h⟩ (st ++ [o]) (upd H p u) := by
  have hl := S.len
  refine ⟨by simp [hl], fun a q => (S.hid a q).imp fun o e => by rw [upd_ne (ne_of_none e h)]; exact e, fun i j a e1 e2 => ?_, fun n x a e1 e2 => ?_⟩
  · have hf := S.fresh h
    rcases Nat.lt_or_ge i ρ.r.length with hi | hi <;> rcases Nat.lt_or_ge j ρ.r.length with hj | hj
    · rw [List.getElem?_append_left hi] at e1
      rw [List.getElem?_append_left hj] at e2
      exact S.inj i j a e1 e2
    · rw [List.getElem?_append_left hi] at e1
      rw [List.getElem?_append_right hj] at e2
      have : a = p := by
        have := List.mem_of_getElem? e2
        simpa using this
      subst this
      exact absurd (List.mem_of_getElem? e1) hf
    · rw [List.getElem?_append_right hi] at e1
      rw [List.getElem?_append_left hj] at e2
      have : a = p := by
        have := List.mem_of_getElem? e1
        simpa using this
      subst this
      exact absurd (List.mem_of_getElem? e2) hf
    · rw [List.getElem?_append_right hi] at e1
      rw [List.getElem?_append_right hj] at e2
      have h1 := (List.getElem?_eq_some_iff.mp e1).1
      have h2 := (List.getElem?_eq_some_iff.mp e2).1
      simp at h1 h2
      omega
  · rcases Nat.lt_or_ge n ρ.r.length with hi | hi
    · rw [List.getElem?_append_left (by omega)] at e1
      rw [List.getElem?_append_left hi] at e2
      exact (S.obj n x a e1 e2).mono (Le.push h) (upd_ne (fun q => S.fresh h (q ▸ List.mem_of_getElem? e2)))
    · rw [List.getElem?_append_right hi] at e2
      rw [List.getElem?_append_right (by omega)] at e1
      have q2 := List.mem_of_getElem? e2
      have q1 := List.mem_of_getElem? e1
      simp at q1 q2
      subst q1 q2
      exact r
/-- an object of the store written -/
theorem Le.write {a : Addr} {u u' : HO} (ha : a ∈ ρ.r) (e : H a = some u) (hn : ∀ xs, u ≠ .tup xs) (hf : ∀ ob w, u ≠ .frz ob w) : Le ρ H ρ (upd H a u') := by
  refine ⟨⟨[], [], by simp, by simp, by simp⟩, fun b o hb q => ?_, fun b xs q => ?_, fun b q => ?_⟩
  · rw [upd_ne (fun z => hb (by rw [z]; exact ha))]; exact q
  · have : b ≠ a := by
      rintro rfl
      rcases q with q | ⟨ob, q⟩
      · rw [e] at q; exact hn xs (Option.some.inj q)
      · rw [e] at q; exact hf ob _ (Option.some.inj q)
    rcases q with q | ⟨ob, q⟩
    · exact .inl (by rw [upd_ne this]; exact q)
    · exact .inr ⟨ob, by rw [upd_ne this]; exact q⟩
  · by_cases z : b = a
    · subst z; rw [upd_same] at q; cases q
    · rwa [upd_ne z] at q
theorem Sim.write (S : Sim K ρ st H) {n : Nat} {a : Addr} {u u' : HO} {o : O} (hn : ρ.r[n]? = some a) (e : H a = some u) (h1 : ∀ xs, u ≠ .tup xs) (h2 : ∀ ob w, u ≠ .frz ob w)
    (r : RepO K ρ (upd H a u') o a) : Sim K ρ (st.set n o) (upd H a u') := by
  have ha : a ∈ ρ.r := List.mem_of_getElem? hn
  refine ⟨by rw [List.length_set]; exact S.len, fun b q => ?_, S.inj, fun m x b e1 e2 => ?_⟩
  · by_cases z : b = a
    · exact ⟨_, by rw [z]; exact upd_same⟩
    · exact (S.hid b q).imp fun o' e' => by rw [upd_ne z]; exact e'
  by_cases z : n = m
  · subst z
    rw [hn] at e2
    cases e2
    have hl : n < st.length := by
      rw [← S.len]; exact (List.getElem?_eq_some_iff.mp hn).1
    rw [List.getElem?_set_self hl] at e1
    cases e1
    exact r
  · rw [List.getElem?_set_ne z] at e1
    have : b ≠ a := by
      rintro rfl
      exact z (S.inj n m b hn e2)
    exact (S.obj m x b e1 e2).mono (Le.write ha e h1 h2) (upd_ne this)
end

/-! ### readings -/
def Post (K : PySem.W.Frag) (ρ : Wn) (H : Hp) (st' : Store) (d : D) (Q : VK) : Prop :=
  ∀ ρ' H' v, Le ρ H ρ' H' → Sim K ρ' st' H' → Rep K ρ' H' d v → Q v H'
theorem Post.mono {K : PySem.W.Frag} {ρ ρ' : Wn} {H H' : Hp} {st' : Store} {d : D} {Q : VK} (p : Post K ρ H st' d Q) (L : Le ρ H ρ' H') : Post K ρ' H' st' d Q :=
  fun ρ2 H2 v L2 => p ρ2 H2 v (L.trans L2)
def tE (K : PySem.W.Frag) (F : FE) : TE := fun σ H Q => ∃ ρ env st d st', Sim K ρ st H ∧ EnR K ρ H env σ ∧ F env st = some (d, st') ∧ Post K ρ H st' d Q
def PostT (K : PySem.W.Frag) (ρ : Wn) (H : Hp) (st' : Store) (Q : Hp → Prop) : Prop := ∀ ρ' H', Le ρ H ρ' H' → Sim K ρ' st' H' → Q H'
def tT (K : PySem.W.Frag) (F : FT) : TT := fun σ H Q => ∃ ρ env st b st', Sim K ρ st H ∧ EnR K ρ H env σ ∧ F env st = some (b, st') ∧ PostT K ρ H st' (Q b)
def PostA (K : PySem.W.Frag) (ρ : Wn) (H : Hp) (st' : Store) (ds : List D) (Q : List V → Hp → Prop) : Prop :=
  ∀ ρ' H' vs, Le ρ H ρ' H' → Sim K ρ' st' H' → Reps K ρ' H' ds vs → Q vs H'
def tA (K : PySem.W.Frag) (F : FA) : TA := fun σ H Q => ∃ ρ env st ds st', Sim K ρ st H ∧ EnR K ρ H env σ ∧ F env st = some (ds, st') ∧ PostA K ρ H st' ds Q
def PostS (K : PySem.W.Frag) (ρ : Wn) (H : Hp) (st' : Store) (Dn : Ends) : Out → Prop
  | .nx e => ∀ ρ' H' σ', Le ρ H ρ' H' → Sim K ρ' st' H' → EnR K ρ' H' e σ' → Dn.nx σ' H'
  | .rt d => ∀ ρ' H' v, Le ρ H ρ' H' → Sim K ρ' st' H' → Rep K ρ' H' d v → Dn.rt v H'
  | .bk e => ∀ ρ' H' σ', Le ρ H ρ' H' → Sim K ρ' st' H' → EnR K ρ' H' e σ' → Dn.bk σ' H'
  | .ct e => ∀ ρ' H' σ', Le ρ H ρ' H' → Sim K ρ' st' H' → EnR K ρ' H' e σ' → Dn.ct σ' H'
theorem PostS.mono {K : PySem.W.Frag} {ρ ρ' : Wn} {H H' : Hp} {st' : Store} {o : Out} {Dn : Ends} (p : PostS K ρ H st' Dn o) (L : Le ρ H ρ' H') : PostS K ρ' H' st' Dn o := by
  cases o with
  | nx e => exact fun ρ2 H2 v L2 => p ρ2 H2 v (L.trans L2)
  | rt e => exact fun ρ2 H2 v L2 => p ρ2 H2 v (L.trans L2)
  | bk e => exact fun ρ2 H2 v L2 => p ρ2 H2 v (L.trans L2)
  | ct e => exact fun ρ2 H2 v L2 => p ρ2 H2 v (L.trans L2)
def tS (K : PySem.W.Frag) (F : FS) : TS := fun Dn σ H => ∃ ρ env st o st', Sim K ρ st H ∧ EnR K ρ H env σ ∧ F env st = some (o, st') ∧ PostS K ρ H st' Dn o

theorem peConv {X : Cx} {e : Expr} {t t' : TE} (h : PE X e t) (c : ∀ σ H Q, t' σ H Q → t σ H Q) : PE X e t' := ⟨fun pins s σ H Q I q => h.run pins s σ H Q I (c _ _ _ q)⟩
theorem ptConv {X : Cx} {e : Expr} {t t' : TT} (h : PT X e t) (c : ∀ σ H Q, t' σ H Q → t σ H Q) : PT X e t' := ⟨fun pins s σ H Q I q => h.run pins s σ H Q I (c _ _ _ q)⟩
theorem pwConv {X : Cx} {e : Expr} {t t' : TT} (h : PW X e t) (c : ∀ σ H Q, t' σ H Q → t σ H Q) : PW X e t' := ⟨fun wh pins s σ H Q I q => h.run wh pins s σ H Q I (c _ _ _ q)⟩
theorem paConv {X : Cx} {e : List Expr} {t t' : TA} (h : PA X e t) (c : ∀ σ H Q, t' σ H Q → t σ H Q) : PA X e t' := ⟨fun pos pins s σ H Q I q => h.run pos pins s σ H Q I (c _ _ _ q)⟩
theorem psConv {X : Cx} {e : Stmt} {t t' : TS} (h : PS X e t) (c : ∀ σ H Q, t' σ H Q → t σ H Q) : PS X e t' := ⟨fun pins s σ H Q I q => h.run pins s σ H Q I (c _ _ _ q)⟩
theorem pssConv {X : Cx} {e : List Stmt} {t t' : TS} (h : PSs X e t) (c : ∀ σ H Q, t' σ H Q → t σ H Q) : PSs X e t' := ⟨fun pins s σ H Q I q => h.run pins s σ H Q I (c _ _ _ q)⟩

/-- go on behind an expression -/
theorem tE_bind {K : PySem.W.Frag} {F : FE} {ρ : Wn} {env : En} {st st1 : Store} {σ : L2.St} {H : Hp} {d : D} {Q : VK} (S : Sim K ρ st H) (E : EnR K ρ H env σ) (e : F env st = some (d, st1))
    (k : ∀ ρ1 H1 v, Le ρ H ρ1 H1 → Sim K ρ1 st1 H1 → Rep K ρ1 H1 d v → EnR K ρ1 H1 env σ → Q v H1) : tE K F σ H Q :=
  ⟨ρ, env, st, d, st1, S, E, e, fun ρ1 H1 v L S1 R => k ρ1 H1 v L S1 R (E.mono L)⟩
theorem tT_bind {K : PySem.W.Frag} {F : FT} {ρ : Wn} {env : En} {st st1 : Store} {σ : L2.St} {H : Hp} {b : Bool} {Q : Bool → Hp → Prop} (S : Sim K ρ st H) (E : EnR K ρ H env σ) (e : F env st = some (b, st1))
    (k : ∀ ρ1 H1, Le ρ H ρ1 H1 → Sim K ρ1 st1 H1 → EnR K ρ1 H1 env σ → Q b H1) : tT K F σ H Q :=
  ⟨ρ, env, st, b, st1, S, E, e, fun ρ1 H1 L S1 => k ρ1 H1 L S1 (E.mono L)⟩
end Vm
namespace Vm
open PySem PySem.Spec PyProof.Rows L2

section
variable {X : Cx} {pos : Pos}

/-! ### names, constants -/
def fVar (i : Nat) : FE := fun env st => match env[i]? with
  | some (some d) => some (d, st)
  | _ => none
theorem e_var (i : Nat) {x : Str} (hN : X.N[i]? = some x := by rfl) (hv : Vis X.env.scope x := by first | exact Or.inl rfl | exact Or.inr (Or.inl rfl) | exact Or.inr (Or.inr rfl)) (hd : (x == ("__debug__" : Str)) = false := by decide)
    (hcd : (x == ("__classdict__" : Str)) = false := by decide) : PE X (.Name x pos) (tE X.K (fVar i)) := by
  refine peConv (pe_var hN hv hd hcd) fun σ H Q h => ?_
  obtain ⟨ρ, env, st, d, st', S, E, e, p⟩ := h
  unfold fVar at e
  split at e
  · rename_i d' e1
    cases e
    obtain ⟨v, e2, r⟩ := E.get i d e1
    exact ⟨v, e2, p ρ H v Le.refl S r⟩
  · cases e
def fCon (d : D) : FE := fun _ st => some (d, st)
theorem e_con {e : Expr} {v : V} {d : D} (h : PE X e (tC v)) (hr : ∀ ρ H, Rep X.K ρ H d v) : PE X e (tE X.K (fCon d)) := by
  refine peConv h fun σ H Q h => ?_
  obtain ⟨ρ, env, st, d', st', S, E, e, p⟩ := h
  cases e
  exact p ρ H v Le.refl S (hr ρ H)
theorem e_int {i : Int} {j : Nat} : PE X (.Constant (.int i) j pos) (tE X.K (fCon (.int i))) := e_con pe_int fun _ _ => rfl
theorem e_bl {b : Bool} {j : Nat} : PE X (.Constant (.bool b) j pos) (tE X.K (fCon (.bl b))) := e_con pe_bl fun _ _ => rfl
theorem e_non {j : Nat} : PE X (.Constant .none j pos) (tE X.K (fCon .non)) := e_con pe_non fun _ _ => rfl
theorem e_str {x : Str} {j : Nat} : PE X (.Constant (.str x) j pos) (tE X.K (fCon (.str x))) := e_con pe_str fun _ _ => rfl
/-- a module's constant -/
theorem e_glob {x : Str} {v : V} {u : Value} {d : D} (hg : Gl X x) (hm : X.mg x = some u) (r : RelV v u) (hr : ∀ ρ H, Rep X.K ρ H d v) (hd : (x == ("__debug__" : Str)) = false := by decide) : PE X (.Name x pos) (tE X.K (fCon d)) :=
  e_con (pe_glob hg hm r hd) hr
/-- a built-in class as a value -/
theorem e_ty {x : Str} {n : String} (hg : Gl X x) (hm : X.mg x = none) (hv : bootBuiltins x = some (.type n)) (hn : x ≠ "__name__" := by decide) (hd : (x == ("__debug__" : Str)) = false := by decide) : PE X (.Name x pos) (tE X.K (fCon (.ty n))) :=
  e_con (pe_bltn (v := .ty n) hg hm hv rfl hn hd) fun _ _ => rfl

/-! ### argument lists, displays -/
def fNil : FA := fun _ st => some ([], st)
def fCons (F : FE) (G : FA) : FA := fun env st => match F env st with
  | some (d, st1) => match G env st1 with
    | some (ds, st2) => some (d :: ds, st2)
    | none => none
  | none => none
theorem a_nil : PA X [] (tA X.K fNil) := by
  refine paConv pa_nil fun σ H Q h => ?_
  obtain ⟨ρ, env, st, d, st', S, E, e, p⟩ := h
  cases e
  exact p ρ H [] Le.refl S rfl
theorem a_cons {e : Expr} {es : List Expr} {F : FE} {G : FA} (ha : PE X e (tE X.K F)) (hr : PA X es (tA X.K G)) (hs : starEach (e :: es) X.env = (false, eval e X.env) :: starEach es X.env := by rfl) : PA X (e :: es) (tA X.K (fCons F G)) := by
  refine paConv (pa_cons ha hr hs) fun σ H Q h => ?_
  obtain ⟨ρ, env, st, ds, st', S, E, e, p⟩ := h
  unfold fCons at e
  split at e
  · rename_i d st1 e1
    split at e
    · rename_i ds2 st2 e2
      cases e
      refine tE_bind S E e1 fun ρ1 H1 v L1 S1 R1 E1 => ?_
      refine ⟨ρ1, env, st1, ds2, st', S1, E1, e2, fun ρ2 H2 vs L2 S2 R2 => ?_⟩
      exact p ρ2 H2 (v :: vs) (L1.trans L2) S2 ⟨v, vs, rfl, Rep.mono L2 _ _ R1, R2⟩
    · cases e
  · cases e

theorem Post.newTl {K : PySem.W.Frag} {ρ : Wn} {H : Hp} {st : Store} {ds : List D} {vs : List V} {Q : VK} (p : Post K ρ H st (.tl ds) Q) (S : Sim K ρ st H) (r : Reps K ρ H ds vs) : ∀ a, H a = none → Q (.ref a) (upd H a (.lst vs)) := fun a ha =>
  p ρ _ _ (Le.new ha) (S.new ha) ⟨a, vs, rfl, ⟨⟨S.fresh ha, S.freshH ha⟩, upd_same⟩, Reps.mono (Le.new ha) _ _ r⟩
theorem Post.newTup {K : PySem.W.Frag} {ρ : Wn} {H : Hp} {st : Store} {ds : List D} {vs : List V} {Q : VK} (p : Post K ρ H st (.tup ds) Q) (S : Sim K ρ st H) (r : Reps K ρ H ds vs) : ∀ a, H a = none → Q (.ref a) (upd H a (.tup vs)) := fun a ha =>
  p ρ _ _ (Le.new ha) (S.new ha) ⟨a, vs, rfl, .inl (.inl upd_same), Reps.mono (Le.new ha) _ _ r⟩
theorem Post.newRef {K : PySem.W.Frag} {ρ : Wn} {H : Hp} {st : Store} {ds : List D} {vs : List V} {Q : VK} (p : Post K ρ H (st ++ [.lst ds]) (.ref st.length) Q) (S : Sim K ρ st H) (r : Reps K ρ H ds vs) : ∀ a, H a = none → Q (.ref a) (upd H a (.lst vs)) := fun a ha => by
  have L := Le.push (ρ := ρ) (H := H) (o := .lst vs) ha
  refine p _ _ _ L (S.push ha ⟨vs, upd_same, Reps.mono L _ _ r⟩) ⟨a, rfl, ?_⟩
  rw [← S.len, List.getElem?_append_right (Nat.le_refl _)]
  simp

def fTup (A : FA) : FE := fun env st => match A env st with
  | some (ds, st1) => if ds.length ≤ 16777216 then some (.tup ds, st1) else none
  | none => none
def fLst (A : FA) : FE := fun env st => match A env st with
  | some (ds, st1) => if ds.length ≤ 16777216 then some (.tl ds, st1) else none
  | none => none
/-- a list that will be changed -/
def fLstS (A : FA) : FE := fun env st => match A env st with
  | some (ds, st1) => if ds.length ≤ 16777216 then some (.ref st1.length, st1 ++ [.lst ds]) else none
  | none => none
theorem e_tup {es : List Expr} {k : Nat} {A : FA} (h : PA X es (tA X.K A)) : PE X (.Tuple es k pos) (tE X.K (fTup A)) := by
  refine peConv (pe_tup h) fun σ H Q h => ?_
  obtain ⟨ρ, env, st, d, st', S, E, e, p⟩ := h
  unfold fTup at e
  split at e
  · rename_i ds st1 e1
    split at e
    · rename_i hl
      cases e
      refine ⟨ρ, env, st, ds, st', S, E, e1, fun ρ1 H1 vs L1 S1 R1 => ⟨by rw [← R1.length, sizeLine_eq]; exact hl, ?_⟩⟩
      exact (p.mono L1).newTup S1 R1
    · cases e
  · cases e
theorem e_lst {es : List Expr} {A : FA} (h : PA X es (tA X.K A)) : PE X (.List es pos) (tE X.K (fLst A)) := by
  refine peConv (pe_lst h) fun σ H Q h => ?_
  obtain ⟨ρ, env, st, d, st', S, E, e, p⟩ := h
  unfold fLst at e
  split at e
  · rename_i ds st1 e1
    split at e
    · rename_i hl
      cases e
      refine ⟨ρ, env, st, ds, st', S, E, e1, fun ρ1 H1 vs L1 S1 R1 => ⟨by rw [← R1.length, sizeLine_eq]; exact hl, ?_⟩⟩
      exact (p.mono L1).newTl S1 R1
    · cases e
  · cases e
theorem e_lstS {es : List Expr} {A : FA} (h : PA X es (tA X.K A)) : PE X (.List es pos) (tE X.K (fLstS A)) := by
  refine peConv (pe_lst h) fun σ H Q h => ?_
  obtain ⟨ρ, env, st, d, st', S, E, e, p⟩ := h
  unfold fLstS at e
  split at e
  · rename_i ds st1 e1
    split at e
    · rename_i hl
      cases e
      refine ⟨ρ, env, st, ds, st1, S, E, e1, fun ρ1 H1 vs L1 S1 R1 => ⟨by rw [← R1.length, sizeLine_eq]; exact hl, ?_⟩⟩
      exact (p.mono L1).newRef S1 R1
    · cases e
  · cases e

/-! ### operators -/
def lstOf (st : Store) : D → Option (List D)
  | .tl xs => some xs
  | .ref n => match st[n]? with
    | some (.lst xs) => some xs
    | _ => none
  | _ => none
def lsqOf (st : Store) : D → Option (List D)
  | .tl xs => some xs
  | .sl xs => some xs
  | .ref n => match st[n]? with
    | some (.lst xs) => some xs
    | _ => none
  | _ => none
section
variable {K : PySem.W.Frag} {ρ : Wn} {H : Hp} {st : Store} {d : D} {v : V} {ds : List D}
theorem lstOf_rep (S : Sim K ρ st H) (r : Rep K ρ H d v) (e : lstOf st d = some ds) : ∃ a vs, v = .ref a ∧ H a = some (.lst vs) ∧ Reps K ρ H ds vs := by
  unfold lstOf at e
  split at e
  · cases e
    obtain ⟨a, vs, rfl, ⟨_, h⟩, rr⟩ := r
    exact ⟨a, vs, rfl, h, rr⟩
  · split at e
    · rename_i n _ xs e1
      cases e
      obtain ⟨a, rfl, h⟩ := r
      obtain ⟨vs, h2, rr⟩ := S.obj n _ a e1 h
      exact ⟨a, vs, rfl, h2, rr⟩
    · cases e
  · cases e
theorem lsqOf_rep (S : Sim K ρ st H) (r : Rep K ρ H d v) (e : lsqOf st d = some ds) : ∃ a vs, v = .ref a ∧ SqL K H a vs ∧ Reps K ρ H ds vs := by
  unfold lsqOf at e
  split at e
  · cases e
    obtain ⟨a, vs, rfl, ⟨_, h⟩, rr⟩ := r
    exact ⟨a, vs, rfl, SqL.of h, rr⟩
  · cases e
    obtain ⟨a, vs, rfl, h, rr⟩ := r
    refine ⟨a, vs, rfl, ?_, rr⟩
    rcases h with ⟨_, ob, h⟩ | h
    · exact .inl (.inr ⟨ob, h⟩)
    · exact .inr h
  · split at e
    · rename_i n _ xs e1
      cases e
      obtain ⟨a, rfl, h⟩ := r
      obtain ⟨vs, h2, rr⟩ := S.obj n _ a e1 h
      exact ⟨a, vs, rfl, SqL.of h2, rr⟩
    · cases e
  · cases e
end
/-- a binary function of values and the rule r -/
def OpD (K : PySem.W.Frag) (f : D → D → Store → Option D) (r : R2) : Prop := ∀ (ρ : Wn) (H : Hp) (st : Store) (a b : D) (x y : V) (d : D) (Q : VK), Sim K ρ st H → Rep K ρ H a x → Rep K ρ H b y → f a b st = some d → Post K ρ H st d Q → r x y H Q
def fBin (f : D → D → Store → Option D) (F G : FE) : FE := fun env st => match F env st with
  | some (a, st1) => match G env st1 with
    | some (b, st2) => match f a b st2 with
      | some d => some (d, st2)
      | none => none
    | none => none
  | none => none
theorem tOp_conv {K : PySem.W.Frag} {f : D → D → Store → Option D} {r : R2} {F G : FE} (hd : OpD K f r) (σ : L2.St) (H : Hp) (Q : VK) (h : tE K (fBin f F G) σ H Q) : tOp r (tE K F) (tE K G) σ H Q := by
  obtain ⟨ρ, env, st, d, st', S, E, e, p⟩ := h
  unfold fBin at e
  split at e
  · rename_i a st1 e1
    split at e
    · rename_i b st2 e2
      split at e
      · rename_i d' e3
        cases e
        refine tE_bind S E e1 fun ρ1 H1 v L1 S1 R1 E1 => ?_
        refine tE_bind S1 E1 e2 fun ρ2 H2 w L2 S2 R2 E2 => ?_
        exact hd ρ2 H2 st' a b v w d Q S2 (Rep.mono L2 _ _ R1) R2 e3 (p.mono (L1.trans L2))
      · cases e
    · cases e
  · cases e
theorem e_bin {op : Operator} {f : D → D → Store → Option D} {r : R2} {a b : Expr} {F G : FE} (ho : OpR X (binaryOp op) r) (hd : OpD X.K f r) (ha : PE X a (tE X.K F)) (hb : PE X b (tE X.K G)) : PE X (.BinOp a op b pos) (tE X.K (fBin f F G)) :=
  peConv (pe_op ho ha hb) (tOp_conv hd)

def dAdd : D → D → Store → Option D
  | .int i, .int j, _ => some (.int (i + j))
  | .str i, .str j, _ => if i.length + j.length ≤ 16777216 then some (.str (i ++ j)) else none
  | .tup xs, .tup ys, _ => if xs.length + ys.length ≤ 16777216 then some (.tup (xs ++ ys)) else none
  | a, b, st => match lstOf st a with
    | some xs => match lstOf st b with
      | some ys => if xs.length + ys.length ≤ 16777216 then some (.tl (xs ++ ys)) else none
      | none => none
    | none => none
def rAddD (K : PySem.W.Frag) : R2 := fun x y H Q => (rI0 (fun i j => .int (i + j)) x y H Q ∨ (∃ i j, x = .str i ∧ y = .str j ∧ i.length + j.length ≤ sizeLine ∧ Q (.str (i ++ j)) H)) ∨ (rCatA K x y H Q ∨ rCat x y H Q)
theorem op_addD : OpR X (binaryOp .Add) (rAddD X.K) := (op_add.or op_add_str).or (op_catA.or op_cat)
theorem nil_reps {K : PySem.W.Frag} {ρ : Wn} {H : Hp} {ds : List D} {vs : List V} (r : Reps K ρ H ds vs) : vs = [] ↔ ds = [] := by
  have := r.length
  constructor
  · rintro rfl; exact List.length_eq_zero_iff.mp this
  · rintro rfl; exact r
theorem od_add {K : PySem.W.Frag} : OpD K dAdd (rAddD K) := by
  intro ρ H st a b x y d Q S ra rb e p
  unfold dAdd at e
  split at e
  · cases e
    rename_i i j
    exact .inl (.inl ⟨i, j, ra, rb, p ρ H _ Le.refl S rfl⟩)
  · rename_i i j
    split at e
    · rename_i hl
      cases e
      exact .inl (.inr ⟨i, j, ra, rb, by rw [sizeLine_eq]; exact hl, p ρ H _ Le.refl S rfl⟩)
    · cases e
  · rename_i xs ys
    split at e
    · rename_i hl
      cases e
      obtain ⟨a, vs, rfl, h1, r1⟩ := ra
      obtain ⟨b, ws, rfl, h2, r2⟩ := rb
      refine .inr (.inl ⟨a, b, vs, ws, rfl, rfl, h1, h2, by rw [sizeLine_eq, ← r1.length, ← r2.length]; exact hl, fun z => ?_, fun _ z => ?_, fun _ _ => p.newTup S (r1.append r2)⟩)
      · have := (nil_reps r1).mp z
        subst this
        exact p ρ H _ Le.refl S ⟨b, ws, rfl, h2, r2⟩
      · have := (nil_reps r2).mp z
        subst this
        exact p ρ H _ Le.refl S ⟨a, vs, rfl, h1, by rw [List.append_nil]; exact r1⟩
    · cases e
  · split at e
    · rename_i xs e1
      split at e
      · rename_i ys e2
        split at e
        · rename_i hl
          cases e
          obtain ⟨a, vs, rfl, h1, r1⟩ := lstOf_rep S ra e1
          obtain ⟨b, ws, rfl, h2, r2⟩ := lstOf_rep S rb e2
          exact .inr (.inr ⟨a, b, vs, ws, rfl, rfl, h1, h2, by rw [sizeLine_eq, ← r1.length, ← r2.length]; exact hl, p.newTl S (r1.append r2)⟩)
        · cases e
      · cases e
    · cases e
theorem e_add {a b : Expr} {F G : FE} (ha : PE X a (tE X.K F)) (hb : PE X b (tE X.K G)) : PE X (.BinOp a .Add b pos) (tE X.K (fBin dAdd F G)) := e_bin op_addD od_add ha hb

/-- ints only -/
def dI (c : Int → Int → Bool) (g : Int → Int → Int) : D → D → Store → Option D
  | .int i, .int j, _ => if c i j then some (.int (g i j)) else none
  | _, _, _ => none
theorem od_int {K : PySem.W.Frag} {c : Int → Int → Bool} {C : Int → Int → Prop} {g : Int → Int → Int} (hc : ∀ i j, c i j = true → C i j) : OpD K (dI c g) (rI C fun i j => .int (g i j)) := by
  intro ρ H st a b x y d Q S ra rb e p
  unfold dI at e
  split at e
  · rename_i i j
    split at e
    · rename_i h
      cases e
      exact ⟨i, j, ra, rb, hc _ _ h, p ρ H _ Le.refl S rfl⟩
    · cases e
  · cases e
def dSub := dI (fun _ _ => true) (fun i j => i - j)
theorem e_sub {a b : Expr} {F G : FE} (ha : PE X a (tE X.K F)) (hb : PE X b (tE X.K G)) : PE X (.BinOp a .Sub b pos) (tE X.K (fBin dSub F G)) :=
  e_bin (r := rI (fun _ _ => True) fun i j => .int (i - j)) (fun pins s σ H x y v u Q I rx ry ⟨i, j, e1, e2, _, q⟩ => op_sub pins s σ H x y v u Q I rx ry ⟨i, j, e1, e2, q⟩) (od_int fun _ _ _ => trivial) ha hb
def cDiv (i j : Int) : Bool := decide (j ≠ 0) && decide (j.natAbs < 1073741824)
def dFdiv := dI cDiv (fun i j => i.fdiv j)
theorem e_fdiv {a b : Expr} {F G : FE} (ha : PE X a (tE X.K F)) (hb : PE X b (tE X.K G)) : PE X (.BinOp a .FloorDiv b pos) (tE X.K (fBin dFdiv F G)) :=
  e_bin op_fdivN (od_int fun i j h => by simp [cDiv] at h; exact h) ha hb
def dMod := dI (fun _ j => decide (j ≠ 0)) (fun i j => i.fmod j)
theorem e_mod {a b : Expr} {F G : FE} (ha : PE X a (tE X.K F)) (hb : PE X b (tE X.K G)) : PE X (.BinOp a .Mod b pos) (tE X.K (fBin dMod F G)) :=
  e_bin op_modN (od_int fun i j h => by simpa using h) ha hb
def cPow (i j : Int) : Bool := decide (0 ≤ j) && decide (j ≤ 1000000) && decide (i.natAbs < 2 ^ 64)
def dPow := dI cPow (fun i j => i ^ j.toNat)
theorem e_pow {a b : Expr} {F G : FE} (ha : PE X a (tE X.K F)) (hb : PE X b (tE X.K G)) : PE X (.BinOp a .Pow b pos) (tE X.K (fBin dPow F G)) :=
  e_bin op_pow (od_int fun i j h => by simp [cPow] at h; exact ⟨h.1.1, h.1.2, h.2⟩) ha hb
def cMul (i j : Int) : Bool := (decide (-(2 ^ 64) < i) && decide (i < 2 ^ 64)) || (decide (-(2 ^ 64) < j) && decide (j < 2 ^ 64))
/-- products: ints; a list, a tuple, a text so many times -/
def dMul : D → D → Store → Option D
  | .int i, .int j, _ => if cMul i j then some (.int (i * j)) else none
  | .str x, .int j, _ => if decide (x.length ≤ 1000) && decide (-1000 ≤ j) && decide (j ≤ 1000) then some (.str ⟨(List.replicate j.toNat x.cps.toList).flatten.toArray⟩) else none
  | .tup xs, .int j, _ => if xs.length ≠ 0 ∧ xs.length ≤ 1000 ∧ 2 ≤ j ∧ j ≤ 1000 then some (.tup (List.replicate j.toNat xs).flatten) else none
  | a, .int j, st => match lstOf st a with
    | some xs => if xs.length ≤ 1000 ∧ -1000 ≤ j ∧ j ≤ 1000 then some (.tl (List.replicate j.toNat xs).flatten) else none
    | none => none
  | _, _, _ => none
def rRepS : R2 := fun x y H Q => ∃ (z : Str) (k : Int), x = .str z ∧ y = .int k ∧ z.length ≤ 1000 ∧ -1000 ≤ k ∧ k ≤ 1000 ∧ Q (.str ⟨(List.replicate k.toNat z.cps.toList).flatten.toArray⟩) H
def rMulD (K : PySem.W.Frag) : R2 := fun x y H Q => (rI CMul (fun i j => .int (i * j)) x y H Q ∨ rRepS x y H Q) ∨ (rRepT K x y H Q ∨ rRep x y H Q)
end
end Vm
namespace Vm
open PySem PySem.Spec PyProof.Rows L2
section
variable {X : Cx} {pos : Pos}
theorem flat_arr (x : Array Nat) : ∀ n : Nat, (List.replicate n x).foldl (· ++ ·) #[] = (List.replicate n x.toList).flatten.toArray := by
  have key : ∀ (n : Nat) (acc : Array Nat), (List.replicate n x).foldl (· ++ ·) acc = acc ++ (List.replicate n x.toList).flatten.toArray := by
    intro n
    induction n with
    | zero => intro acc; simp
    | succ n ih =>
      intro acc
      rw [List.replicate_succ, List.replicate_succ, List.foldl_cons, ih, List.flatten_cons]
      apply Array.ext'
      simp
  intro n
  rw [key]
  simp
theorem str_ext {x y : Str} (h : x.cps.toList = y.cps.toList) : x = y := by
  cases x; cases y
  simp only at h
  congr 1
  exact Array.ext' h
theorem op_repS : OpR X (binaryOp .Mult) rRepS := by
  intro pins s σ H x y v u Q I rx ry h
  obtain ⟨z, k, rfl, rfl, hz, h1, h2, q⟩ := h
  obtain ⟨t, rfl⟩ := rx
  obtain ⟨t', rfl⟩ := ry
  have hs := sizeLine_eq
  refine PySem.P.mul_str ?_ ?_ ?_ ?_
  · have e1 : decide (k < -(2 ^ 63 : Int)) = false := decide_eq_false (by omega)
    have e2 : decide (k ≥ 2 ^ 63) = false := decide_eq_false (by omega)
    rw [e1, e2]; rfl
  · intro hk _ hgt
    have hk1 : 0 < k := by omega
    have h3 : (1000 : Int) * k ≤ 2 ^ 63 - 1 := by omega
    have h4 : (1000 : Int) ≤ (2 ^ 63 - 1) / k := (Int.le_ediv_iff_mul_le hk1).mpr h3
    omega
  · intro hk _
    have : z.length * k.toNat ≤ 1000 * 1000 := Nat.mul_le_mul hz (by omega)
    show decide (z.length * k.toNat > sizeLine) = false
    apply decide_eq_false
    omega
  · have fin : ∀ (z' : Str) (w : Value) (s' : Shared), z' = ⟨(List.replicate k.toNat z.cps.toList).flatten.toArray⟩ → (∃ t, w = .str z' t) → Inv X pins σ H s' → EP X pins σ Q w s' := by
      rintro z' w s' rfl hw J
      exact ⟨.str _, H, J, hw, q⟩
    by_cases hk : k < 1
    · rw [if_pos hk]
      have e0 : k.toNat = 0 := by omega
      exact ⟨by decide, fin Str.empty _ _ (by rw [e0]; rfl) ⟨_, rfl⟩ (I.tok _)⟩
    · rw [if_neg hk]
      by_cases h3 : (k == 1 || z.length == 0) = true
      · rw [if_pos h3]
        refine fin z _ _ ?_ ⟨_, rfl⟩ I
        simp at h3
        apply str_ext
        rcases h3 with rfl | h3
        · simp
        · have : z.cps.toList = [] := by
            have : z.cps.toList.length = 0 := by simpa [Str.length] using h3
            exact List.length_eq_zero_iff.mp this
          rw [this]; simp
      · rw [if_neg h3]
        refine ⟨?_, fin _ _ _ (by rw [flat_arr]) ⟨_, rfl⟩ (I.tok _)⟩
        have h5 : z.length * k.toNat ≤ 1000 * 1000 := Nat.mul_le_mul hz (by omega)
        have h6 : (⟨(List.replicate k.toNat z.cps).foldl (· ++ ·) #[]⟩ : Str).length = k.toNat * z.length := by
          show ((List.replicate k.toNat z.cps).foldl (· ++ ·) #[]).size = _
          rw [flat_arr]
          simp [Str.length]
        show Str.length _ ≤ sizeLine
        rw [h6, Nat.mul_comm]
        omega
theorem op_mulD : OpR X (binaryOp .Mult) (rMulD X.K) := (op_mul.or op_repS).or (op_repT.or op_rep)
theorem od_mul {K : PySem.W.Frag} : OpD K dMul (rMulD K) := by
  intro ρ H st a b x y d Q S ra rb e p
  unfold dMul at e
  split at e
  · rename_i i j
    split at e
    · rename_i h
      cases e
      refine .inl (.inl ⟨i, j, ra, rb, ?_, p ρ H _ Le.refl S rfl⟩)
      simp [cMul] at h
      exact h
    · cases e
  · rename_i z j
    split at e
    · rename_i h
      cases e
      simp at h
      exact .inl (.inr ⟨z, j, ra, rb, h.1.1, h.1.2, h.2, p ρ H _ Le.refl S rfl⟩)
    · cases e
  · rename_i xs j
    split at e
    · rename_i h
      cases e
      obtain ⟨h0, h1, h2, h3⟩ := h
      obtain ⟨a, vs, rfl, hs, r⟩ := ra
      refine .inr (.inl ⟨a, j, vs, rfl, rb, hs, ?_, h2, h3, by rw [← r.length]; exact h1, p.newTup S (r.flat _)⟩)
      intro z
      rw [(nil_reps r).mp z] at h0
      exact h0 rfl
    · cases e
  · rename_i j _ _ _
    split at e
    · rename_i xs e1
      split at e
      · rename_i h
        cases e
        obtain ⟨h0, h1, h2⟩ := h
        obtain ⟨a, vs, rfl, hs, r⟩ := lstOf_rep S ra e1
        refine .inr (.inr ⟨a, j, vs, rfl, rb, hs, by omega, by omega, ?_, p.newTl S (r.flat _)⟩)
        rw [← r.length, sizeLine_eq]
        have : xs.length * j.toNat ≤ 1000 * 1000 := Nat.mul_le_mul h0 (by omega)
        omega
      · cases e
    · cases e
  · cases e
theorem e_mul {a b : Expr} {F G : FE} (ha : PE X a (tE X.K F)) (hb : PE X b (tE X.K G)) : PE X (.BinOp a .Mult b pos) (tE X.K (fBin dMul F G)) := e_bin op_mulD od_mul ha hb
/-- -a -/
def fNeg (F : FE) : FE := fun env st => match F env st with
  | some (.int i, st1) => some (.int (-i), st1)
  | _ => none
theorem e_neg {a : Expr} {F : FE} (ha : PE X a (tE X.K F)) : PE X (.UnaryOp .USub a pos) (tE X.K (fNeg F)) := by
  refine peConv (pe_un un_neg ha) fun σ H Q h => ?_
  obtain ⟨ρ, env, st, d, st', S, E, e, p⟩ := h
  unfold fNeg at e
  split at e
  · rename_i i st1 e1
    cases e
    exact tE_bind S E e1 fun ρ1 H1 v L1 S1 R1 E1 => ⟨i, R1, p ρ1 H1 _ L1 S1 rfl⟩
  · cases e
end
end Vm
namespace Vm
open PySem PySem.Spec PyProof.Rows L2

/-! ### data -/
mutual
def pd : D → PyData
  | .non => .none
  | .bl b => .bool b
  | .int i => .int i
  | .str x => .str x
  | .tup ds => .tuple (pds ds)
  | .tl ds => .list (pds ds)
  | .sl ds => .list (pds ds)
  | .ref _ => .none
  | .ty _ => .none
def pds : List D → List PyData
  | [] => []
  | d :: ds => pd d :: pds ds
end
-- plain data, with texts of signs
mutual
def okd : D → Bool
  | .non => true
  | .bl _ => true
  | .int _ => true
  | .str x => PyData.strOk x
  | .tup ds => okds ds
  | .tl ds => okds ds
  | .sl ds => okds ds
  | .ref _ => false
  | .ty _ => false
def okds : List D → Bool
  | [] => true
  | d :: ds => okd d && okds ds
end
-- how deep: numbers and texts 0
mutual
def dep : D → Nat
  | .non => 0
  | .bl _ => 0
  | .int _ => 0
  | .str _ => 0
  | .tup ds => deps ds + 1
  | .tl ds => deps ds + 1
  | .sl ds => deps ds + 1
  | .ref _ => 0
  | .ty _ => 0
def deps : List D → Nat
  | [] => 0
  | d :: ds => max (dep d) (deps ds)
end
mutual
theorem lay_pd : ∀ d : D, okd d = true → (pd d).canLay0 = true
  | .non, _ => by simp [pd, PyData.canLay0]
  | .bl _, _ => by simp [pd, PyData.canLay0]
  | .int _, _ => by simp [pd, PyData.canLay0]
  | .str _, h => by simpa [pd, PyData.canLay0, okd] using h
  | .tup ds, h => by simp only [pd, PyData.canLay0]; exact lay_pds ds (by simpa [okd] using h)
  | .tl ds, h => by simp only [pd, PyData.canLay0]; exact lay_pds ds (by simpa [okd] using h)
  | .sl ds, h => by simp only [pd, PyData.canLay0]; exact lay_pds ds (by simpa [okd] using h)
  | .ref _, h => by simp [okd] at h
  | .ty _, h => by simp [okd] at h
theorem lay_pds : ∀ ds : List D, okds ds = true → PyData.canLayAll0 (pds ds) = true
  | [], _ => by simp [pds, PyData.canLayAll0]
  | d :: ds, h => by
    simp only [okds, Bool.and_eq_true] at h
    simp only [pds, PyData.canLayAll0, lay_pd d h.1, lay_pds ds h.2, Bool.and_self]
end
mutual
theorem dep_pd : ∀ d : D, (pd d).depth = dep d
  | .non => by simp [pd, PyData.depth, dep]
  | .bl _ => by simp [pd, PyData.depth, dep]
  | .int _ => by simp [pd, PyData.depth, dep]
  | .str _ => by simp [pd, PyData.depth, dep]
  | .tup ds => by simp only [pd, PyData.depth, dep, dep_pds ds]
  | .tl ds => by simp only [pd, PyData.depth, dep, dep_pds ds]
  | .sl ds => by simp only [pd, PyData.depth, dep, dep_pds ds]
  | .ref _ => by simp [pd, PyData.depth, dep]
  | .ty _ => by simp [pd, PyData.depth, dep]
theorem dep_pds : ∀ ds : List D, PyData.depthAll (pds ds) = deps ds
  | [] => by simp [pds, PyData.depthAll, deps]
  | d :: ds => by simp only [pds, PyData.depthAll, deps, dep_pd d, dep_pds ds]
end
section
variable {K : PySem.W.Frag} {ρ : Wn} {H : Hp}
mutual
theorem dp_rep : ∀ (d : D) (v : V), Rep K ρ H d v → okd d = true → Dp K H v (pd d)
  | .non, v, r, _ => by rw [show v = .non from r]; simp only [pd]; exact .non
  | .bl b, v, r, _ => by rw [show v = .bl b from r]; simp only [pd]; exact .bl b
  | .int b, v, r, _ => by rw [show v = .int b from r]; simp only [pd]; exact .int b
  | .str b, v, r, _ => by rw [show v = .str b from r]; simp only [pd]; exact .str b
  | .tup ds, v, r, h => by
    obtain ⟨a, vs, rfl, hs, rr⟩ := r
    simp only [pd]
    exact .tup hs (dps_rep ds vs rr (by simpa [okd] using h))
  | .tl ds, v, r, h => by
    obtain ⟨a, vs, rfl, ⟨_, hs⟩, rr⟩ := r
    simp only [pd]
    exact .lst (SqL.of hs) (dps_rep ds vs rr (by simpa [okd] using h))
  | .sl ds, v, r, h => by
    obtain ⟨a, vs, rfl, hs, rr⟩ := r
    simp only [pd]
    refine .lst ?_ (dps_rep ds vs rr (by simpa [okd] using h))
    rcases hs with ⟨_, ob, h⟩ | h
    · exact .inl (.inr ⟨ob, h⟩)
    · exact .inr h
  | .ref _, _, _, h => by simp [okd] at h
  | .ty _, _, _, h => by simp [okd] at h
theorem dps_rep : ∀ (ds : List D) (vs : List V), Reps K ρ H ds vs → okds ds = true → DpAll K H vs (pds ds)
  | [], vs, r, _ => by rw [show vs = [] from r]; simp only [pds]; exact .nil
  | d :: ds, vs, r, h => by
    obtain ⟨v, w, rfl, r1, r2⟩ := r
    simp only [okds, Bool.and_eq_true] at h
    simp only [pds]
    exact .cons (dp_rep d v r1 h.1) (dps_rep ds w r2 h.2)
end
end
/-- the list at a place of the store as data -/
def deref (st : Store) : D → D
  | .ref n => match st[n]? with
    | some (.lst xs) => .tl xs
    | _ => .ref n
  | d => d
theorem dp_deref {K : PySem.W.Frag} {ρ : Wn} {H : Hp} {st : Store} (S : Sim K ρ st H) {d : D} {v : V} (r : Rep K ρ H d v) (h : okd (deref st d) = true) : Dp K H v (pd (deref st d)) := by
  unfold deref at h ⊢
  split at h
  · rename_i n
    split at h
    · rename_i xs e1
      obtain ⟨a, rfl, h1⟩ := r
      obtain ⟨vs, h2, rr⟩ := S.obj n _ a e1 h1
      simp only [e1, pd]
      exact .lst (SqL.of h2) (dps_rep xs vs rr (by simpa [okd] using h))
    · simp [okd] at h
  · exact dp_rep d v r h
/-- == of data -/
def deq (a b : D) : Bool := PyData.eqv (pd a) (pd b)

section
variable {X : Cx} {pos : Pos}
def rEqM (K : PySem.W.Frag) : R2 := fun x y H Q => ∃ d e, Dp K H x d ∧ Dp K H y e ∧ d.canLay0 = true ∧ e.canLay0 = true ∧ min d.depth e.depth ≤ 60 ∧ Q (.bl (PyData.eqv d e)) H
def rNeM (K : PySem.W.Frag) : R2 := fun x y H Q => ∃ d e, Dp K H x d ∧ Dp K H y e ∧ d.canLay0 = true ∧ e.canLay0 = true ∧ min d.depth e.depth ≤ 60 ∧ Q (.bl (!PyData.eqv d e)) H
theorem op_eqM {k : Nat} (hr : Room k X.A) : OpR X (compareOp .Eq) (rEqM X.K) := by
  intro pins s σ H x y v u Q I rx ry h
  obtain ⟨d, e, hd, he, sd, se, hm, q⟩ := h
  obtain ⟨as, r1⟩ := Dp.reads I d x v hd rx
  obtain ⟨bs, r2⟩ := Dp.reads I e y u he ry
  exact SeqAt.compareEq_reads r1 r2 sd se (by have := hr.un; omega) ⟨.bl _, H, I, rfl, q⟩
theorem op_neM {k : Nat} (hr : Room k X.A) : OpR X (compareOp .NotEq) (rNeM X.K) := by
  intro pins s σ H x y v u Q I rx ry h
  obtain ⟨d, e, hd, he, sd, se, hm, q⟩ := h
  obtain ⟨as, r1⟩ := Dp.reads I d x v hd rx
  obtain ⟨bs, r2⟩ := Dp.reads I e y u he ry
  exact SeqAt.compareNe_reads r1 r2 sd se (by have := hr.un; omega) ⟨.bl _, H, I, rfl, q⟩
def rInM (K : PySem.W.Frag) (neg : Bool) : R2 := fun x y H Q => ∃ d ds, Dp K H x d ∧ (Dp K H y (.list ds) ∨ Dp K H y (.tuple ds)) ∧ d.canLay0 = true ∧ PyData.canLayAll0 ds = true ∧ min (PyData.depthAll ds) d.depth ≤ 60 ∧
  Q (.bl (if neg then !(ds.any fun z => PyData.eqv z d) else ds.any fun z => PyData.eqv z d)) H
theorem op_inM {k : Nat} (hr : Room k X.A) : OpR X (compareOp .In) (rInM X.K false) := by
  intro pins s σ H x y v u Q I rx ry h
  obtain ⟨d, ds, hd, he, sd, se, hm, q⟩ := h
  obtain ⟨as, r1⟩ := Dp.reads I d x v hd rx
  rcases he with he | he
  · obtain ⟨bs, r2⟩ := Dp.reads I _ y u he ry
    exact SeqAt.in_list_reads r2 r1 se sd (by have := hr.un; omega) ⟨.bl _, H, I, rfl, q⟩
  · obtain ⟨bs, r2⟩ := Dp.reads I _ y u he ry
    exact SeqAt.in_tuple_reads r2 r1 se sd (by have := hr.un; omega) ⟨.bl _, H, I, rfl, q⟩
theorem op_notInM {k : Nat} (hr : Room k X.A) : OpR X (compareOp .NotIn) (rInM X.K true) := by
  intro pins s σ H x y v u Q I rx ry h
  obtain ⟨d, ds, hd, he, sd, se, hm, q⟩ := h
  obtain ⟨as, r1⟩ := Dp.reads I d x v hd rx
  rcases he with he | he
  · obtain ⟨bs, r2⟩ := Dp.reads I _ y u he ry
    exact SeqAt.notIn_list_reads r2 r1 se sd (by have := hr.un; omega) ⟨.bl _, H, I, rfl, q⟩
  · obtain ⟨bs, r2⟩ := Dp.reads I _ y u he ry
    exact SeqAt.notIn_tuple_reads r2 r1 se sd (by have := hr.un; omega) ⟨.bl _, H, I, rfl, q⟩

/-! ### comparisons -/
abbrev CmpF := D → D → Store → Option Bool
def OpC (K : PySem.W.Frag) (c : CmpF) (r : R2) : Prop := ∀ (ρ : Wn) (H : Hp) (st : Store) (a b : D) (x y : V) (k : Bool) (Q : VK), Sim K ρ st H → Rep K ρ H a x → Rep K ρ H b y → c a b st = some k → Q (.bl k) H → r x y H Q
/-- a comparison: the operator, what it gives, whether it's one of in, not in -/
structure CmpOk (X : Cx) (op : CmpOp) (c : CmpF) : Prop where
  ok : ∃ r, OpR X (compareOp op) r ∧ OpC X.K c r
def fCmp (c : CmpF) (F G : FE) : FE := fun env st => match F env st with
  | some (a, st1) => match G env st1 with
    | some (b, st2) => match c a b st2 with
      | some k => some (.bl k, st2)
      | none => none
    | none => none
  | none => none
def tCmpF (c : CmpF) (F G : FE) : FT := fun env st => match F env st with
  | some (a, st1) => match G env st1 with
    | some (b, st2) => match c a b st2 with
      | some k => some (k, st2)
      | none => none
    | none => none
  | none => none
theorem e_cmp {op : CmpOp} {c : CmpF} {a b : Expr} {F G : FE} (hc : CmpOk X op c) (ha : PE X a (tE X.K F)) (hb : PE X b (tE X.K G)) (hm : behindInMarks op b = false := by first | exact nomark _ | with_unfolding_all rfl) : PE X (.Compare a [op] [b] pos) (tE X.K (fCmp c F G)) := by
  obtain ⟨r, ho, hd⟩ := hc.ok
  refine peConv (pe_cmpR ho ha hb hm) fun σ H Q h => ?_
  obtain ⟨ρ, env, st, d, st', S, E, e, p⟩ := h
  unfold fCmp at e
  split at e
  · rename_i a st1 e1
    split at e
    · rename_i b st2 e2
      split at e
      · rename_i k e3
        cases e
        refine tE_bind S E e1 fun ρ1 H1 v L1 S1 R1 E1 => ?_
        refine tE_bind S1 E1 e2 fun ρ2 H2 w L2 S2 R2 E2 => ?_
        exact hd ρ2 H2 st' a b v w k Q S2 (Rep.mono L2 _ _ R1) R2 e3 (p ρ2 H2 _ (L1.trans L2) S2 rfl)
      · cases e
    · cases e
  · cases e
theorem t_cmp {op : CmpOp} {c : CmpF} {a b : Expr} {F G : FE} (hc : CmpOk X op c) (ha : PE X a (tE X.K F)) (hb : PE X b (tE X.K G)) (hm : behindInMarks op b = false := by first | exact nomark _ | with_unfolding_all rfl) : PT X (.Compare a [op] [b] pos) (tT X.K (tCmpF c F G)) := by
  obtain ⟨r, ho, hd⟩ := hc.ok
  refine ptConv (pt_cmpR ho ha hb hm) fun σ H Q h => ?_
  obtain ⟨ρ, env, st, d, st', S, E, e, p⟩ := h
  unfold tCmpF at e
  split at e
  · rename_i a st1 e1
    split at e
    · rename_i b st2 e2
      split at e
      · rename_i k e3
        cases e
        refine tE_bind S E e1 fun ρ1 H1 v L1 S1 R1 E1 => ?_
        refine tE_bind S1 E1 e2 fun ρ2 H2 w L2 S2 R2 E2 => ?_
        exact hd ρ2 H2 st' a b v w _ _ S2 (Rep.mono L2 _ _ R1) R2 e3 ⟨_, rfl, p ρ2 H2 (L1.trans L2) S2⟩
      · cases e
    · cases e
  · cases e
def fChain (c c' : CmpF) (F G J : FE) : FE := fun env st => match F env st with
  | some (a, st1) => match G env st1 with
    | some (b, st2) => match c a b st2 with
      | some true => match J env st2 with
        | some (d, st3) => match c' b d st3 with
          | some k => some (.bl k, st3)
          | none => none
        | none => none
      | some false => some (.bl false, st2)
      | none => none
    | none => none
  | none => none
def tChainF (c c' : CmpF) (F G J : FE) : FT := fun env st => match fChain c c' F G J env st with
  | some (.bl k, st1) => some (k, st1)
  | _ => none
theorem chain_conv {K : PySem.W.Frag} {c c' : CmpF} {r r' : R2} {F G J : FE} (hd : OpC K c r) (hd' : OpC K c' r') (σ : L2.St) (H : Hp) (Q : VK) (h : tE K (fChain c c' F G J) σ H Q) : tChain r r' (tE K F) (tE K G) (tE K J) σ H Q := by
  obtain ⟨ρ, env, st, d, st', S, E, e, p⟩ := h
  unfold fChain at e
  split at e
  · rename_i a st1 e1
    split at e
    · rename_i b st2 e2
      refine tE_bind S E e1 fun ρ1 H1 v L1 S1 R1 E1 => ?_
      refine tE_bind S1 E1 e2 fun ρ2 H2 w L2 S2 R2 E2 => ?_
      split at e
      · rename_i e3
        split at e
        · rename_i d3 st3 e4
          split at e
          · rename_i k e5
            cases e
            refine hd ρ2 H2 st2 a b v w _ _ S2 (Rep.mono L2 _ _ R1) R2 e3 ⟨true, rfl, ?_⟩
            rw [if_pos rfl]
            refine tE_bind S2 E2 e4 fun ρ3 H3 u L3 S3 R3 E3 => ?_
            exact hd' ρ3 H3 st' b d3 w u k Q S3 (Rep.mono L3 _ _ R2) R3 e5 (p ρ3 H3 _ ((L1.trans L2).trans L3) S3 rfl)
          · cases e
        · cases e
      · rename_i e3
        cases e
        refine hd ρ2 H2 st' a b v w _ _ S2 (Rep.mono L2 _ _ R1) R2 e3 ⟨false, rfl, ?_⟩
        rw [if_neg (by decide)]
        exact p ρ2 H2 _ (L1.trans L2) S2 rfl
      · cases e
    · cases e
  · cases e
theorem e_chain {op op' : CmpOp} {c c' : CmpF} {a b d : Expr} {F G J : FE} (hc : CmpOk X op c) (hc' : CmpOk X op' c') (ha : PE X a (tE X.K F)) (hb : PE X b (tE X.K G)) (hd : PE X d (tE X.K J)) (hm : lastMarks [op, op'] [b, d] = false := by with_unfolding_all rfl) :
    PE X (.Compare a [op, op'] [b, d] pos) (tE X.K (fChain c c' F G J)) := by
  obtain ⟨r, ho, h1⟩ := hc.ok
  obtain ⟨r', ho', h1'⟩ := hc'.ok
  exact peConv (pe_chain ho ho' ha hb hd hm) (chain_conv h1 h1')
theorem t_chain {op op' : CmpOp} {c c' : CmpF} {a b d : Expr} {F G J : FE} (hc : CmpOk X op c) (hc' : CmpOk X op' c') (ha : PE X a (tE X.K F)) (hb : PE X b (tE X.K G)) (hd : PE X d (tE X.K J)) (hm : lastMarks [op, op'] [b, d] = false := by with_unfolding_all rfl) :
    PT X (.Compare a [op, op'] [b, d] pos) (tT X.K (tChainF c c' F G J)) := by
  obtain ⟨r, ho, h1⟩ := hc.ok
  obtain ⟨r', ho', h1'⟩ := hc'.ok
  refine ptConv (pt_chain ho ho' ha hb hd hm) fun σ H Q h => ?_
  obtain ⟨ρ, env, st, b, st', S, E, e, p⟩ := h
  unfold tChainF at e
  split at e
  · rename_i k st1 e1
    cases e
    exact chain_conv h1 h1' σ H _ ⟨ρ, env, st, _, st', S, E, e1, fun ρ' H' v L S' R => ⟨_, R, p ρ' H' L S'⟩⟩
  · cases e

/-! the comparisons -/
def cI (g : Int → Int → Bool) (h : List Nat → List Nat → Bool) : CmpF
  | .int i, .int j, _ => some (g i j)
  | .str x, .str y, _ => some (h x.cps.toList y.cps.toList)
  | _, _, _ => none
def cLt : CmpF := cI (fun i j => decide (i < j)) (fun x y => decide (x < y))
def cLe : CmpF := cI (fun i j => decide (i ≤ j)) (fun x y => !decide (y < x))
def cGt : CmpF := cI (fun i j => decide (j < i)) (fun x y => decide (y < x))
def cGe : CmpF := cI (fun i j => decide (j ≤ i)) (fun x y => !decide (x < y))
theorem oc_I {K : PySem.W.Frag} {g : Int → Int → Bool} {h : List Nat → List Nat → Bool} : OpC K (cI g h) (fun x y H Q => rI0 (fun i j => .bl (g i j)) x y H Q ∨ ∃ i j, x = .str i ∧ y = .str j ∧ Q (.bl (h i.cps.toList j.cps.toList)) H) := by
  intro ρ H st a b x y k Q S ra rb e q
  unfold cI at e
  split at e
  · rename_i i j
    cases e
    exact .inl ⟨i, j, ra, rb, q⟩
  · rename_i i j
    cases e
    exact .inr ⟨i, j, ra, rb, q⟩
  · cases e
theorem c_lt : CmpOk X .Lt cLt := ⟨_, op_lt.or op_lt_str, oc_I⟩
theorem c_le : CmpOk X .LtE cLe := ⟨_, op_le.or op_le_str, oc_I⟩
theorem c_gt : CmpOk X .Gt cGt := ⟨_, op_gt.or op_gt_str, oc_I⟩
theorem c_ge : CmpOk X .GtE cGe := ⟨_, op_ge.or op_ge_str, oc_I⟩
/-- may these two be compared -/
def okEq (a b : D) : Bool := okd a && okd b && decide (min (dep a) (dep b) ≤ 60)
def cEq : CmpF := fun a b st => if okEq (deref st a) (deref st b) = true then some (deq (deref st a) (deref st b)) else none
def cNe : CmpF := fun a b st => if okEq (deref st a) (deref st b) = true then some (!deq (deref st a) (deref st b)) else none
theorem okEq_iff {a b : D} (h : okEq a b = true) : okd a = true ∧ okd b = true ∧ min (pd a).depth (pd b).depth ≤ 60 := by
  unfold okEq at h
  simp only [Bool.and_eq_true, decide_eq_true_eq] at h
  exact ⟨h.1.1, h.1.2, by rw [dep_pd, dep_pd]; exact h.2⟩
theorem c_eq {k : Nat} (hr : Room k X.A) : CmpOk X .Eq cEq := ⟨_, op_eqM hr, by
  intro ρ H st a b x y k Q S ra rb e q
  unfold cEq at e
  split at e
  · rename_i h
    cases e
    obtain ⟨h1, h2, h3⟩ := okEq_iff h
    exact ⟨_, _, dp_deref S ra h1, dp_deref S rb h2, lay_pd _ h1, lay_pd _ h2, h3, q⟩
  · cases e⟩
theorem c_ne {k : Nat} (hr : Room k X.A) : CmpOk X .NotEq cNe := ⟨_, op_neM hr, by
  intro ρ H st a b x y k Q S ra rb e q
  unfold cNe at e
  split at e
  · rename_i h
    cases e
    obtain ⟨h1, h2, h3⟩ := okEq_iff h
    exact ⟨_, _, dp_deref S ra h1, dp_deref S rb h2, lay_pd _ h1, lay_pd _ h2, h3, q⟩
  · cases e⟩
/-- in: among items; a sign in a text -/
def isIn : CmpF := fun a b st => match a, deref st b with
  | a, .tup ds => if okd (deref st a) && okds ds && decide (min (deps ds) (dep (deref st a)) ≤ 60) then some (ds.any fun z => deq z (deref st a)) else none
  | a, .tl ds => if okd (deref st a) && okds ds && decide (min (deps ds) (dep (deref st a)) ≤ 60) then some (ds.any fun z => deq z (deref st a)) else none
  | a, .sl ds => if okd (deref st a) && okds ds && decide (min (deps ds) (dep (deref st a)) ≤ 60) then some (ds.any fun z => deq z (deref st a)) else none
  | .str x, .str z => if x.cps.size = 1 then some (decide ((x.cps.getD 0 0) ∈ z.cps.toList)) else none
  | _, _ => none
def cIn : CmpF := isIn
def cNotIn : CmpF := fun a b st => match isIn a b st with
  | some k => some (!k)
  | none => none
theorem any_pds (d : PyData) : ∀ ds : List D, ((pds ds).any fun z => PyData.eqv z d) = ds.any fun z => PyData.eqv (pd z) d
  | [] => by simp [pds]
  | x :: ds => by simp only [pds, List.any_cons, any_pds d ds]
theorem one_sign {x : Str} (h : x.cps.size = 1) : x = ⟨#[x.cps.getD 0 0]⟩ := by
  cases x with
  | mk cps =>
    have : cps.toList.length = 1 := by simpa using h
    obtain ⟨a, ha⟩ := List.length_eq_one_iff.mp this
    have e : cps = #[a] := by
      apply Array.ext'
      simpa using ha
    subst e
    rfl
theorem isIn_ok {K : PySem.W.Frag} {neg : Bool} {ρ : Wn} {H : Hp} {st : Store} {a b : D} {x y : V} {k : Bool} {Q : VK} (S : Sim K ρ st H) (ra : Rep K ρ H a x) (rb : Rep K ρ H b y) (e : isIn a b st = some k) (q : Q (.bl (if neg then !k else k)) H) :
    rInM K neg x y H Q ∨ ∃ (c : Nat) (z : Str), x = .str ⟨#[c]⟩ ∧ y = .str z ∧ Q (.bl (if neg then !decide (c ∈ z.cps.toList) else decide (c ∈ z.cps.toList))) H := by
  have seq : ∀ ds : List D, (deref st b = .tup ds ∨ deref st b = .tl ds ∨ deref st b = .sl ds) → (if okd (deref st a) && okds ds && decide (min (deps ds) (dep (deref st a)) ≤ 60) then some (ds.any fun z => deq z (deref st a)) else none) = some k → rInM K neg x y H Q := by
    intro ds hb e
    split at e
    · rename_i h
      simp only [Bool.and_eq_true, decide_eq_true_eq] at h
      have e' : (ds.any fun z => deq z (deref st a)) = k := Option.some.inj e
      have hok : okd (deref st b) = true := by
        rcases hb with hb | hb | hb <;> (rw [hb]; simp only [okd]; exact h.1.2)
      have hd := dp_deref S rb hok
      refine ⟨pd (deref st a), pds ds, dp_deref S ra h.1.1, ?_, lay_pd _ h.1.1, lay_pds _ h.1.2, by rw [dep_pds, dep_pd]; exact h.2, ?_⟩
      · rcases hb with hb | hb | hb <;> rw [hb] at hd
        · exact .inr (by simpa only [pd] using hd)
        · exact .inl (by simpa only [pd] using hd)
        · exact .inl (by simpa only [pd] using hd)
      · rw [any_pds]
        have : (ds.any fun z => PyData.eqv (pd z) (pd (deref st a))) = k := e'
        rw [this]
        exact q
    · cases e
  unfold isIn at e
  split at e
  · rename_i ds hb; exact .inl (seq ds (.inl hb) e)
  · rename_i ds hb; exact .inl (seq ds (.inr (.inl hb)) e)
  · rename_i ds hb; exact .inl (seq ds (.inr (.inr hb)) e)
  · rename_i z w hb
    split at e
    · rename_i h1
      cases e
      have rb' : y = .str w := by
        unfold deref at hb
        split at hb
        · split at hb <;> cases hb
        · subst hb; exact rb
      refine .inr ⟨_, w, ?_, rb', q⟩
      rw [show x = .str z from ra, ← one_sign h1]
    · cases e
  · cases e
theorem c_in {k : Nat} (hr : Room k X.A) : CmpOk X .In cIn := ⟨_, (op_inM hr).or op_in_sign, fun ρ H st a b x y k Q S ra rb e q => isIn_ok (neg := false) S ra rb e q⟩
theorem c_notIn {k : Nat} (hr : Room k X.A) : CmpOk X .NotIn cNotIn := ⟨_, (op_notInM hr).or op_notIn_sign, fun ρ H st a b x y k Q S ra rb e q => by
  unfold cNotIn at e
  split at e
  · rename_i k' e1
    cases e
    exact isIn_ok (neg := true) S ra rb e1 q
  · cases e⟩
/-- is: None, truths -/
def isIs : D → D → Option Bool
  | .non, .non => some true
  | .bl _, .non => some false
  | .int _, .non => some false
  | .str _, .non => some false
  | .tup _, .non => some false
  | .tl _, .non => some false
  | .sl _, .non => some false
  | .ref _, .non => some false
  | .bl a, .bl b => some (a == b)
  | _, _ => none
def cIs : CmpF := fun a b _ => isIs a b
def cIsNot : CmpF := fun a b _ => match isIs a b with
  | some k => some (!k)
  | none => none
theorem isIs_ok {K : PySem.W.Frag} {neg : Bool} {ρ : Wn} {H : Hp} {a b : D} {x y : V} {k : Bool} {Q : VK} (ra : Rep K ρ H a x) (rb : Rep K ρ H b y) (e : isIs a b = some k) (q : Q (.bl (if neg then !k else k)) H) :
    (y = .non ∧ Q (.bl (if neg then !decide (x = .non) else decide (x = .non))) H) ∨ ∃ a b, x = .bl a ∧ y = .bl b ∧ Q (.bl (if neg then !decide (a = b) else decide (a = b))) H := by
  have f : ∀ (h : decide (x = .non) = k) (h' : y = .non), (y = .non ∧ Q (.bl (if neg then !decide (x = .non) else decide (x = .non))) H) := fun h h' => ⟨h', by rw [h]; exact q⟩
  unfold isIs at e
  split at e
  · cases e; exact .inl (f (by rw [show x = .non from ra]; rfl) rb)
  · cases e; exact .inl (f (by rw [show x = .bl _ from ra]; rfl) rb)
  · cases e; exact .inl (f (by rw [show x = .int _ from ra]; rfl) rb)
  · cases e; exact .inl (f (by rw [show x = .str _ from ra]; rfl) rb)
  · cases e; obtain ⟨a, vs, rfl, _⟩ := ra; exact .inl (f rfl rb)
  · cases e; obtain ⟨a, vs, rfl, _⟩ := ra; exact .inl (f rfl rb)
  · cases e; obtain ⟨a, vs, rfl, _⟩ := ra; exact .inl (f rfl rb)
  · cases e; obtain ⟨a, rfl, _⟩ := ra; exact .inl (f rfl rb)
  · rename_i a b
    cases e
    refine .inr ⟨a, b, ra, rb, ?_⟩
    have : decide (a = b) = (a == b) := by cases a <;> cases b <;> rfl
    rw [this]
    exact q
  · cases e
theorem c_is : CmpOk X .Is cIs := ⟨_, op_isN.or op_isBl, fun ρ H st a b x y k Q S ra rb e q => isIs_ok (neg := false) ra rb e q⟩
theorem c_isNot : CmpOk X .IsNot cIsNot := ⟨_, op_notN.or op_notBl, fun ρ H st a b x y k Q S ra rb e q => by
  unfold cIsNot at e
  split at e
  · rename_i k' e1
    cases e
    exact isIs_ok (neg := true) ra rb e1 q
  · cases e⟩
end
end Vm
namespace Vm
open PySem PySem.Spec PyProof.Rows L2
section
variable {X : Cx} {pos : Pos}

/-! ### truth -/
def tru (st : Store) : D → Option Bool
  | .non => some false
  | .bl b => some b
  | .int i => some (i != 0)
  | .str y => if y.length ≤ 16777216 then some ((y.length : Int) != 0) else none
  | .tup xs => some (!xs.isEmpty)
  | .tl xs => some (!xs.isEmpty)
  | .sl xs => some (!xs.isEmpty)
  | .ref n => match st[n]? with
    | some (.lst xs) => some (!xs.isEmpty)
    | some (.dic kvs) => some (!kvs.isEmpty)
    | _ => none
  | .ty _ => none
theorem reps_empty {K : PySem.W.Frag} {ρ : Wn} {H : Hp} {ds : List D} {vs : List V} (r : Reps K ρ H ds vs) : ds.isEmpty = vs.isEmpty := by
  have := r.length
  cases ds <;> cases vs <;> simp_all
theorem tru_rep {K : PySem.W.Frag} {ρ : Wn} {H : Hp} {st : Store} {d : D} {v : V} {k : Bool} (S : Sim K ρ st H) (r : Rep K ρ H d v) (e : tru st d = some k) : TruV K v H k := by
  unfold tru at e
  split at e
  · rw [show v = .non from r]; exact (Option.some.inj e).symm
  · rw [show v = .bl _ from r]; exact (Option.some.inj e).symm
  · rw [show v = .int _ from r]; exact (Option.some.inj e).symm
  · split at e
    · rename_i h
      rw [show v = .str _ from r]; exact ⟨by rw [sizeLine_eq]; exact h, (Option.some.inj e).symm⟩
    · cases e
  · obtain ⟨a, vs, rfl, hs, rr⟩ := r
    cases e
    exact .inr (.inl ⟨vs, hs, by rw [reps_empty rr]⟩)
  · obtain ⟨a, vs, rfl, ⟨_, hs⟩, rr⟩ := r
    cases e
    exact .inl ⟨vs, SqL.of hs, by rw [reps_empty rr]⟩
  · rename_i xs
    obtain ⟨a, vs, rfl, hs, rr⟩ := lsqOf_rep (ds := xs) S r rfl
    cases e
    exact .inl ⟨vs, hs, by rw [reps_empty rr]⟩
  · split at e
    · rename_i n _ xs e1
      obtain ⟨a, rfl, h⟩ := r
      obtain ⟨vs, h2, rr⟩ := S.obj n _ a e1 h
      cases e
      exact .inl ⟨vs, SqL.of h2, by rw [reps_empty rr]⟩
    · rename_i n _ kvs e1
      obtain ⟨a, rfl, h⟩ := r
      obtain ⟨us, h2, ek, rr⟩ := S.obj n _ a e1 h
      cases e
      refine .inr (.inr ⟨us, h2, ?_⟩)
      have := congrArg List.length ek
      cases us <;> cases kvs <;> simp_all
    · cases e
  · cases e
def tTru (F : FE) : FT := fun env st => match F env st with
  | some (d, st1) => match tru st1 d with
    | some k => some (k, st1)
    | none => none
  | none => none
theorem t_val {a : Expr} {F : FE} (ha : PE X a (tE X.K F)) (he : ∀ whole, isTrue a X.env whole = (do let v ← whole; standAt a.pos; holding [v] (truthy v)) := by intro _; rfl) : PT X a (tT X.K (tTru F)) := by
  refine ptConv (pt_truth ha he) fun σ H Q h => ?_
  obtain ⟨ρ, env, st, b, st', S, E, e, p⟩ := h
  unfold tTru at e
  split at e
  · rename_i d st1 e1
    split at e
    · rename_i k e2
      cases e
      exact tE_bind S E e1 fun ρ1 H1 v L1 S1 R1 E1 => ⟨b, tru_rep S1 R1 e2, p ρ1 H1 L1 S1⟩
    · cases e
  · cases e
def tAndF (F G : FT) : FT := fun env st => match F env st with
  | some (true, st1) => G env st1
  | some (false, st1) => some (false, st1)
  | none => none
def tOrF (F G : FT) : FT := fun env st => match F env st with
  | some (true, st1) => some (true, st1)
  | some (false, st1) => G env st1
  | none => none
def tNotF (F : FT) : FT := fun env st => match F env st with
  | some (b, st1) => some (!b, st1)
  | none => none
theorem w_and1 {a : Expr} {F : FT} (ha : PT X a (tT X.K F)) : PW X (.BoolOp .And [a] pos) (tT X.K F) := pw_and1 ha
theorem w_or1 {a : Expr} {F : FT} (ha : PT X a (tT X.K F)) : PW X (.BoolOp .Or [a] pos) (tT X.K F) := pw_or1 ha
theorem w_and {a b : Expr} {rest : List Expr} {F G : FT} (ha : PT X a (tT X.K F)) (hb : PW X (.BoolOp .And (b :: rest) pos) (tT X.K G)) : PW X (.BoolOp .And (a :: b :: rest) pos) (tT X.K (tAndF F G)) := by
  refine pwConv (pw_and ha hb) fun σ H Q h => ?_
  obtain ⟨ρ, env, st, k, st', S, E, e, p⟩ := h
  unfold tAndF at e
  split at e
  · rename_i st1 e1
    refine tT_bind S E e1 fun ρ1 H1 L1 S1 E1 => ?_
    rw [if_pos rfl]
    exact ⟨ρ1, env, st1, k, st', S1, E1, e, fun ρ2 H2 L2 S2 => p ρ2 H2 (L1.trans L2) S2⟩
  · rename_i st1 e1
    cases e
    refine tT_bind S E e1 fun ρ1 H1 L1 S1 E1 => ?_
    rw [if_neg (by decide)]
    exact p ρ1 H1 L1 S1
  · cases e
theorem w_or {a b : Expr} {rest : List Expr} {F G : FT} (ha : PT X a (tT X.K F)) (hb : PW X (.BoolOp .Or (b :: rest) pos) (tT X.K G)) : PW X (.BoolOp .Or (a :: b :: rest) pos) (tT X.K (tOrF F G)) := by
  refine pwConv (pw_or ha hb) fun σ H Q h => ?_
  obtain ⟨ρ, env, st, k, st', S, E, e, p⟩ := h
  unfold tOrF at e
  split at e
  · rename_i st1 e1
    cases e
    refine tT_bind S E e1 fun ρ1 H1 L1 S1 E1 => ?_
    rw [if_pos rfl]
    exact p ρ1 H1 L1 S1
  · rename_i st1 e1
    refine tT_bind S E e1 fun ρ1 H1 L1 S1 E1 => ?_
    rw [if_neg (by decide)]
    exact ⟨ρ1, env, st1, k, st', S1, E1, e, fun ρ2 H2 L2 S2 => p ρ2 H2 (L1.trans L2) S2⟩
  · cases e
theorem t_not {a : Expr} {F : FT} (ha : PT X a (tT X.K F)) : PT X (.UnaryOp .Not a pos) (tT X.K (tNotF F)) := by
  refine ptConv (pt_not ha) fun σ H Q h => ?_
  obtain ⟨ρ, env, st, k, st', S, E, e, p⟩ := h
  unfold tNotF at e
  split at e
  · rename_i b st1 e1
    cases e
    exact tT_bind S E e1 fun ρ1 H1 L1 S1 E1 => p ρ1 H1 L1 S1
  · cases e
/-- as values, by truth -/
def fOr (F G : FE) : FE := fun env st => match F env st with
  | some (d, st1) => match tru st1 d with
    | some true => some (d, st1)
    | some false => G env st1
    | none => none
  | none => none
def fAnd (F G : FE) : FE := fun env st => match F env st with
  | some (d, st1) => match tru st1 d with
    | some true => G env st1
    | some false => some (d, st1)
    | none => none
  | none => none
def fNot (F : FE) : FE := fun env st => match F env st with
  | some (d, st1) => match tru st1 d with
    | some k => some (.bl (!k), st1)
    | none => none
  | none => none
theorem e_one {op : BoolOp} {a : Expr} {F : FE} (h : PE X a (tE X.K F)) : PE X (.BoolOp op [a] pos) (tE X.K F) := pe_one h
theorem e_or {a b : Expr} {rest : List Expr} {F G : FE} (ha : PE X a (tE X.K F)) (hb : PE X (.BoolOp .Or (b :: rest) pos) (tE X.K G)) : PE X (.BoolOp .Or (a :: b :: rest) pos) (tE X.K (fOr F G)) := by
  refine peConv (pe_orT ha hb) fun σ H Q h => ?_
  obtain ⟨ρ, env, st, d, st', S, E, e, p⟩ := h
  unfold fOr at e
  split at e
  · rename_i d1 st1 e1
    refine tE_bind S E e1 fun ρ1 H1 v L1 S1 R1 E1 => ?_
    split at e
    · rename_i e2
      cases e
      refine ⟨true, tru_rep S1 R1 e2, ?_⟩
      rw [if_pos rfl]
      exact p ρ1 H1 _ L1 S1 R1
    · rename_i e2
      refine ⟨false, tru_rep S1 R1 e2, ?_⟩
      rw [if_neg (by decide)]
      exact ⟨ρ1, env, st1, d, st', S1, E1, e, p.mono L1⟩
    · cases e
  · cases e
theorem e_and {a b : Expr} {rest : List Expr} {F G : FE} (ha : PE X a (tE X.K F)) (hb : PE X (.BoolOp .And (b :: rest) pos) (tE X.K G)) : PE X (.BoolOp .And (a :: b :: rest) pos) (tE X.K (fAnd F G)) := by
  refine peConv (pe_andT ha hb) fun σ H Q h => ?_
  obtain ⟨ρ, env, st, d, st', S, E, e, p⟩ := h
  unfold fAnd at e
  split at e
  · rename_i d1 st1 e1
    refine tE_bind S E e1 fun ρ1 H1 v L1 S1 R1 E1 => ?_
    split at e
    · rename_i e2
      refine ⟨true, tru_rep S1 R1 e2, ?_⟩
      rw [if_pos rfl]
      exact ⟨ρ1, env, st1, d, st', S1, E1, e, p.mono L1⟩
    · rename_i e2
      cases e
      refine ⟨false, tru_rep S1 R1 e2, ?_⟩
      rw [if_neg (by decide)]
      exact p ρ1 H1 _ L1 S1 R1
    · cases e
  · cases e
theorem e_not {a : Expr} {F : FE} (ha : PE X a (tE X.K F)) : PE X (.UnaryOp .Not a pos) (tE X.K (fNot F)) := by
  refine peConv (pe_notT ha) fun σ H Q h => ?_
  obtain ⟨ρ, env, st, d, st', S, E, e, p⟩ := h
  unfold fNot at e
  split at e
  · rename_i d1 st1 e1
    refine tE_bind S E e1 fun ρ1 H1 v L1 S1 R1 E1 => ?_
    split at e
    · rename_i k e2
      cases e
      exact ⟨k, tru_rep S1 R1 e2, p ρ1 H1 _ L1 S1 rfl⟩
    · cases e
  · cases e
def fIte (C : FT) (F G : FE) : FE := fun env st => match C env st with
  | some (true, st1) => F env st1
  | some (false, st1) => G env st1
  | none => none
theorem e_ite {c a b : Expr} {C : FT} {F G : FE} (hc : PT X c (tT X.K C)) (ha : PE X a (tE X.K F)) (hb : PE X b (tE X.K G)) : PE X (.IfExp c a b pos) (tE X.K (fIte C F G)) := by
  refine peConv (pe_ifExp hc ha hb) fun σ H Q h => ?_
  obtain ⟨ρ, env, st, d, st', S, E, e, p⟩ := h
  unfold fIte at e
  split at e
  · rename_i st1 e1
    refine tT_bind S E e1 fun ρ1 H1 L1 S1 E1 => ?_
    rw [if_pos rfl]
    exact ⟨ρ1, env, st1, d, st', S1, E1, e, p.mono L1⟩
  · rename_i st1 e1
    refine tT_bind S E e1 fun ρ1 H1 L1 S1 E1 => ?_
    rw [if_neg (by decide)]
    exact ⟨ρ1, env, st1, d, st', S1, E1, e, p.mono L1⟩
  · cases e

/-! ### items, slices -/
theorem Reps.atI {K : PySem.W.Frag} {ρ : Wn} {H : Hp} {ds : List D} {vs : List V} {i : Int} {d : D} (r : Reps K ρ H ds vs) (e : L2.atI ds i = some d) : ∃ v, L2.atI vs i = some v ∧ Rep K ρ H d v := by
  unfold L2.atI at e ⊢
  rw [← r.length]
  cases h : ixN ds.length i with
  | none => rw [h] at e; cases e
  | some j =>
    rw [h] at e
    exact r.get e
def dIdx : D → D → Store → Option D := fun a b st => match b with
  | .int i => match a with
    | .tup xs => L2.atI xs i
    | .str z => if z.length ≤ 16777216 then (L2.atI z.cps.toList i).map fun c => .str ⟨#[c]⟩ else none
    | a => match lsqOf st a with
      | some xs => L2.atI xs i
      | none => none
  | _ => none
theorem od_idx {K : PySem.W.Frag} : OpD K dIdx (rIx K) := by
  intro ρ H st a b x y d Q S ra rb e p
  unfold dIdx at e
  split at e
  · rename_i i
    split at e
    · rename_i xs
      obtain ⟨a, vs, rfl, hs, r⟩ := ra
      obtain ⟨v, e1, r1⟩ := r.atI e
      exact .inr (.inl ⟨a, vs, i, v, rfl, rb, hs, e1, p ρ H _ Le.refl S r1⟩)
    · rename_i z
      split at e
      · rename_i hz
        cases h : L2.atI z.cps.toList i with
        | none => rw [h] at e; cases e
        | some c =>
          rw [h] at e
          cases e
          exact .inr (.inr ⟨z, i, c, ra, rb, by rw [sizeLine_eq]; exact hz, h, p ρ H _ Le.refl S rfl⟩)
      · cases e
    · split at e
      · rename_i xs e1
        obtain ⟨a, vs, rfl, hs, r⟩ := lsqOf_rep S ra e1
        obtain ⟨v, e2, r1⟩ := r.atI e
        exact .inl ⟨a, vs, i, v, rfl, rb, hs, e2, p ρ H _ Le.refl S r1⟩
      · cases e
  · cases e
theorem e_idx {a b : Expr} {F G : FE} (ha : PE X a (tE X.K F)) (hb : PE X b (tE X.K G)) (hs : PlainIx b := by exact fun _ _ => rfl) : PE X (.Subscript a b pos) (tE X.K (fBin dIdx F G)) :=
  peConv (pe_ix ix_seq ha hb hs) (tOp_conv od_idx)
abbrev FO := En → Store → Option (Option Int × Store)
def tO (K : PySem.W.Frag) (F : FO) : TO := fun σ H Q => ∃ ρ env st o st', Sim K ρ st H ∧ EnR K ρ H env σ ∧ F env st = some (o, st') ∧ PostT K ρ H st' (Q o)
theorem poConv {X : Cx} {e : Option Expr} {t t' : TO} (h : PO X e t) (c : ∀ σ H Q, t' σ H Q → t σ H Q) : PO X e t' := ⟨fun pins s σ H Q I q => h.run pins s σ H Q I (c _ _ _ q)⟩
def oNone : FO := fun _ st => some (none, st)
def oSome (F : FE) : FO := fun env st => match F env st with
  | some (.int i, st1) => some (some i, st1)
  | _ => none
theorem o_none : PO X none (tO X.K oNone) := by
  refine poConv po_none fun σ H Q h => ?_
  obtain ⟨ρ, env, st, d, st', S, E, e, p⟩ := h
  cases e
  exact p ρ H Le.refl S
theorem o_some {e : Expr} {F : FE} (h : PE X e (tE X.K F)) : PO X (some e) (tO X.K (oSome F)) := by
  refine poConv (po_some h) fun σ H Q h => ?_
  obtain ⟨ρ, env, st, d, st', S, E, e, p⟩ := h
  unfold oSome at e
  split at e
  · rename_i i st1 e1
    cases e
    exact tE_bind S E e1 fun ρ1 H1 v L1 S1 R1 E1 => ⟨i, R1, p ρ1 H1 L1 S1⟩
  · cases e
def cutD (xs : List D) (lo hi : Option Int) : List D := (xs.drop (HT.sIx xs.length 0 lo)).take (HT.sIx xs.length xs.length hi - HT.sIx xs.length 0 lo)
theorem Reps.cut {K : PySem.W.Frag} {ρ : Wn} {H : Hp} {ds : List D} {vs : List V} (r : Reps K ρ H ds vs) (lo hi : Option Int) : Reps K ρ H (cutD ds lo hi) (cutV vs lo hi) := by
  unfold cutD cutV
  rw [← r.length]
  exact (r.drop _).take _
def dCut : D → Option Int → Option Int → Store → Option D := fun a lo hi st => match a with
  | .tup xs => some (.tup (cutD xs lo hi))
  | .str z => if z.length ≤ 16777216 then some (.str (cutS z lo hi)) else none
  | a => match lsqOf st a with
    | some xs => some (.tl (cutD xs lo hi))
    | none => none
def fCut (F : FE) (lo hi : FO) : FE := fun env st => match F env st with
  | some (a, st1) => match lo env st1 with
    | some (l, st2) => match hi env st2 with
      | some (u, st3) => match dCut a l u st3 with
        | some d => some (d, st3)
        | none => none
      | none => none
    | none => none
  | none => none
theorem sl_any : SlR X (fun x lo hi H Q => rSlL X.K x lo hi H Q ∨ (rSlA X.K x lo hi H Q ∨ rSlS x lo hi H Q)) := sl_list.or (sl_tupA.or sl_str)
theorem e_cut {a : Expr} {lo hi : Option Expr} {p2 : Pos} {F : FE} {L U : FO} (ha : PE X a (tE X.K F)) (hl : PO X lo (tO X.K L)) (hu : PO X hi (tO X.K U)) : PE X (.Subscript a (.Slice lo hi none p2) pos) (tE X.K (fCut F L U)) := by
  refine peConv (pe_slice sl_any ha hl hu) fun σ H Q h => ?_
  obtain ⟨ρ, env, st, d, st', S, E, e, p⟩ := h
  unfold fCut at e
  split at e
  · rename_i a st1 e1
    split at e
    · rename_i l st2 e2
      split at e
      · rename_i u st3 e3
        split at e
        · rename_i d' e4
          cases e
          refine tE_bind S E e1 fun ρ1 H1 v L1 S1 R1 E1 => ?_
          refine ⟨ρ1, env, st1, l, st2, S1, E1, e2, fun ρ2 H2 L2 S2 => ?_⟩
          refine ⟨ρ2, env, st2, u, st', S2, E1.mono L2, e3, fun ρ3 H3 L3 S3 => ?_⟩
          have p3 := p.mono ((L1.trans L2).trans L3)
          have R3 := Rep.mono (L2.trans L3) _ _ R1
          unfold dCut at e4
          split at e4
          · rename_i xs
            cases e4
            obtain ⟨a, vs, rfl, hs, r⟩ := R3
            refine .inr (.inl ⟨a, vs, rfl, hs, fun hw => ?_, fun _ => p3.newTup S3 (r.cut l u)⟩)
            refine p3 ρ3 H3 _ Le.refl S3 ⟨a, vs, rfl, hs, ?_⟩
            have : cutD xs l u = xs := by
              unfold cutD
              rw [r.length, hw.1, hw.2]
              simp [← r.length]
            rw [this]
            exact r
          · rename_i z
            split at e4
            · rename_i hz
              cases e4
              exact .inr (.inr ⟨z, R3, by rw [sizeLine_eq]; exact hz, p3 ρ3 H3 _ Le.refl S3 rfl⟩)
            · cases e4
          · split at e4
            · rename_i xs e5
              cases e4
              obtain ⟨a, vs, rfl, hs, r⟩ := lsqOf_rep S3 R3 e5
              exact .inl ⟨a, vs, rfl, hs, p3.newTl S3 (r.cut l u)⟩
            · cases e4
        · cases e
      · cases e
    · cases e
  · cases e

/-! ### calls -/
abbrev FnF := List D → Store → Option (D × Store)
def spD (K : PySem.W.Frag) (n : Nat) (F : FnF) : Sp := fun vs H Q _ => vs.length = n ∧ ∃ ρ st ds d st', Sim K ρ st H ∧ Reps K ρ H ds vs ∧ F ds st = some (d, st') ∧ Post K ρ H st' d Q
/-- a def of n parameters, N names -/
def fnD (n N : Nat) (body : FS) : FnF := fun ds st => if ds.length = n then match body (ds.map some ++ List.replicate (N - n) none) st with
  | some (.rt d, st1) => some (d, st1)
  | some (.nx _, st1) => some (.non, st1)
  | _ => none
  else none
def fCall (n : Nat) (f : FnF) (A : FA) : FE := fun env st => match A env st with
  | some (ds, st1) => if ds.length = n then f ds st1 else none
  | none => none
theorem e_call {k n : Nat} {f : Addr} {fd : FuncData} {ps : List Str} {x : Str} {p : Pos} {e : Expr} {es : List Expr} {F : FnF} {A : FA} (G : FnOk X.prog X.w X.K X.mg X.base CX0 k f fd ps (spD X.K n F)) (hr : Room k X.A) (hg : Gl X x) (hm : X.mg x = some (.ref f)) (hk : PySem.W.keepIn X.K (.ref f) = true) (hb : Binds X.K fd ps [])
    (ha : PA X (e :: es) (tA X.K A)) (hdb : (x == ("__debug__" : Str)) = false := by decide) (he : starEach (e :: es) X.env = (false, eval e X.env) :: starEach es X.env := by rfl) (hpl : (backTo pos (starEach es X.env)).any (·.1) = false := by rfl) :
    PE X (.Call (.Name x p) (e :: es) [] pos) (tE X.K (fCall n F A)) := by
  refine peConv (pe_call G hr hg hm hk hb .nil (pass0 (X := X)) ha hdb he hpl) fun σ H Q h => ?_
  obtain ⟨ρ, env, st, d, st', S, E, e, p⟩ := h
  unfold fCall at e
  split at e
  · rename_i ds st1 e1
    split at e
    · rename_i hn
      refine ⟨ρ, env, st, ds, st1, S, E, e1, fun ρ1 H1 vs L1 S1 R1 => ?_⟩
      show spD X.K n F (vs ++ []) H1 Q E0
      rw [List.append_nil]
      exact ⟨by rw [← R1.length]; exact hn, ρ1, st1, ds, d, st', S1, R1, e, p.mono L1⟩
    · cases e
  · cases e
theorem en_start {K : PySem.W.Frag} {ρ : Wn} {H : Hp} : ∀ {ds : List D} {vs : List V} (n : Nat), Reps K ρ H ds vs → EnR K ρ H (ds.map some ++ List.replicate n none) (vs.map some ++ List.replicate n none) := by
  intro ds vs n r
  refine ⟨by simp [r.length], fun i d e => ?_⟩
  by_cases hi : i < ds.length
  · rw [List.getElem?_append_left (by simpa using hi), List.getElem?_map] at e
    cases h : ds[i]? with
    | none => rw [h] at e; cases e
    | some d' =>
      rw [h] at e
      cases e
      obtain ⟨v, e1, r1⟩ := r.get h
      exact ⟨v, by rw [List.getElem?_append_left (by simpa [← r.length] using hi), List.getElem?_map, e1]; rfl, r1⟩
  · rw [List.getElem?_append_right (by simpa using hi), List.getElem?_replicate] at e
    split at e <;> cases e
theorem fn_ok {P : Program} {w : World} {K : PySem.W.Frag} {mg : Str → Option Value} {base : Heap} {x qual : Str} {stm : Stmt} {f : Addr} {fd : FuncData} {N ps : List Str} {k : Nat} {body : FS} (F : Fun K x qual stm f fd) (S : FnScope N ps (defScope stm))
    (hbody : ∀ (cdv : Value) (A : Around) (outer : List PySem.Env) (s : Shared) (H : Hp) (E : XK), Room k (A.deeper (envOfC qual (defScope stm) s.heap.objs.size f cdv)) →
      PSs (cxOf CX0 P w K mg base N qual (defScope stm) f cdv A outer s H E).nox (defBody stm) (tS K body)) : FnOk P w K mg base CX0 (k + 1) f fd ps (spD K ps.length (fnD ps.length N.length body)) := by
  refine F.ok S (fun vs H Q E h => h.1) fun cdv A outer s H vs Q E hr h => ?_
  refine ⟨_, hbody cdv A outer s H E hr, ?_⟩
  obtain ⟨hl, ρ, st, ds, d, st', Sm, R, e, p⟩ := h
  unfold fnD at e
  split at e
  · rename_i hn
    have En := en_start (n := N.length - ps.length) R
    have hst : L2.start N vs = vs.map some ++ List.replicate (N.length - ps.length) none := by unfold L2.start; rw [hl]
    rw [hst]
    split at e
    · rename_i d' st1 e1
      cases e
      exact ⟨ρ, _, st, _, _, Sm, En, e1, fun ρ' H' v L S' R' => p ρ' H' v L S' R'⟩
    · rename_i e' st1 e1
      cases e
      exact ⟨ρ, _, st, _, _, Sm, En, e1, fun ρ' H' σ' L S' _ => p ρ' H' _ L S' rfl⟩
    · cases e
  · cases e
end
end Vm
namespace Vm
open PySem PySem.Spec PyProof.Rows L2
section
variable {X : Cx} {pos : Pos}

/-! ### targets -/
theorem wipe_set (σ : L2.St) (i : Nat) (x : Option V) : ∀ vs : List Nat, wipe (σ.set i x) vs = if i ∈ vs then wipe σ vs else (wipe σ vs).set i x
  | [] => by simp [wipe]
  | v :: vs => by
    show (wipe (σ.set i x) vs).set v none = if i ∈ v :: vs then (wipe σ vs).set v none else ((wipe σ vs).set v none).set i x
    rw [wipe_set σ i x vs]
    by_cases h : i ∈ vs
    · rw [if_pos h, if_pos (List.mem_cons_of_mem _ h)]
    · rw [if_neg h]
      by_cases e : i = v
      · subst e
        rw [if_pos List.mem_cons_self, List.set_set]
      · rw [if_neg (by simp [e, h]), List.set_comm _ _ e]
abbrev FG := D → En → Option En
abbrev FGs := List D → En → Option En
def tG (K : PySem.W.Frag) (vs : List Nat) (F : FG) : TG := fun v σ H Q => ∃ ρ env st d e', Sim K ρ st H ∧ EnR K ρ H env σ ∧ Rep K ρ H d v ∧ F d env = some e' ∧ ∀ σ', EnR K ρ H e' σ' → wipe σ' vs = wipe σ vs → Q σ' H
def tGs (K : PySem.W.Frag) (vs : List Nat) (F : FGs) : TGs := fun ws σ H Q => ∃ ρ env st ds e', Sim K ρ st H ∧ EnR K ρ H env σ ∧ Reps K ρ H ds ws ∧ F ds env = some e' ∧ ∀ σ', EnR K ρ H e' σ' → wipe σ' vs = wipe σ vs → Q σ' H
theorem pgConv {e : Expr} {t t' : TG} (h : PG X e t) (c : ∀ v σ H Q, t' v σ H Q → t v σ H Q) : PG X e t' := ⟨fun pins s σ H v u Q I r q => h.run pins s σ H v u Q I r (c _ _ _ _ q)⟩
theorem pgsConv {e : List Expr} {t t' : TGs} (h : PGs X e t) (c : ∀ v σ H Q, t' v σ H Q → t v σ H Q) : PGs X e t' := ⟨fun pins s σ H v u Q I r q => h.run pins s σ H v u Q I r (c _ _ _ _ q)⟩
def gSet (i : Nat) : FG := fun d env => some (env.set i (some d))
theorem g_name (vs : List Nat) {i : Nat} {x : Str} (hN : X.N.Nodup) (hi : X.N[i]? = some x) (hx : Loc X.env.scope x) (hv : i ∈ vs) (hf : X.fn x = true ∨ X.env.scope.names.lookup x = some .local := by first | exact .inl rfl | exact .inr rfl | assumption) : PG X (.Name x pos) (tG X.K vs (gSet i)) := by
  refine pgConv (pg_name hN hi hx hf) fun v σ H Q h => ?_
  obtain ⟨ρ, env, st, d, e', S, E, R, e, q⟩ := h
  cases e
  exact q _ (E.set R) (by rw [wipe_set, if_pos hv])
def gNilF : FGs := fun ds env => match ds with
  | [] => some env
  | _ => none
def gConsF (F : FG) (G : FGs) : FGs := fun ds env => match ds with
  | d :: r => match F d env with
    | some e1 => G r e1
    | none => none
  | [] => none
theorem gs_nil (vs : List Nat) : PGs X [] (tGs X.K vs gNilF) := by
  refine pgsConv pgs_nil fun v σ H Q h => ?_
  obtain ⟨ρ, env, st, ds, e', S, E, R, e, q⟩ := h
  unfold gNilF at e
  split at e
  · cases e
    exact ⟨R, q σ E rfl⟩
  · cases e
theorem gs_cons {vs : List Nat} {e : Expr} {es : List Expr} {F : FG} {G : FGs} (h1 : PG X e (tG X.K vs F)) (h2 : PGs X es (tGs X.K vs G))
    (hs : (assignEach (e :: es) X.env).map (·.2) = assign e X.env :: (assignEach es X.env).map (·.2) := by rfl) : PGs X (e :: es) (tGs X.K vs (gConsF F G)) := by
  refine pgsConv (pgs_cons h1 h2 hs) fun ws σ H Q h => ?_
  obtain ⟨ρ, env, st, ds, e', S, E, R, e, q⟩ := h
  unfold gConsF at e
  split at e
  · rename_i d r
    split at e
    · rename_i e1 he
      obtain ⟨w, wr, rfl, r1, r2⟩ := R
      exact ⟨w, wr, rfl, ρ, env, st, d, e1, S, E, r1, he, fun σ' E' hw => ⟨ρ, e1, st, r, e', S, E', r2, e, fun σ2 E2 hw2 => q σ2 E2 (hw2.trans hw)⟩⟩
    · cases e
  · cases e
def gTupF (n : Nat) (G : FGs) : FG := fun d env => match d with
  | .tup ds => if ds.length = n then G ds env else none
  | _ => none
theorem g_tup {vs : List Nat} {es : List Expr} {k n : Nat} {G : FGs} (hc : X.calm = true) (h : PGs X es (tGs X.K vs G)) (hn : (assignEach es X.env).length = n := by rfl) (hst : (assignEach es X.env).findIdx? (·.1) = none := by rfl) :
    PG X (.Tuple es k pos) (tG X.K vs (gTupF n G)) := by
  refine pgConv (pg_tup hc h hn hst) fun v σ H Q h => ?_
  obtain ⟨ρ, env, st, d, e', S, E, R, e, q⟩ := h
  unfold gTupF at e
  split at e
  · rename_i ds
    split at e
    · rename_i hl
      obtain ⟨a, ws, rfl, hs, r⟩ := R
      exact ⟨a, ws, rfl, hs, by rw [← r.length]; exact hl, ρ, env, st, ds, e', S, E, r, e, q⟩
    · cases e
  · cases e

/-! ### statements -/
def sNil : FS := fun env st => some (.nx env, st)
def sSeq (F G : FS) : FS := fun env st => match F env st with
  | some (.nx e1, st1) => G e1 st1
  | r => r
theorem ss_nil : PSs X [] (tS X.K sNil) := by
  refine pssConv pss_nil fun Dn σ H h => ?_
  obtain ⟨ρ, env, st, o, st', S, E, e, p⟩ := h
  cases e
  exact p ρ H σ Le.refl S E
theorem PostS.sw {K : PySem.W.Frag} {ρ : Wn} {H : Hp} {st : Store} {Dn Dm : Ends} {o : Out} (p : PostS K ρ H st Dn o) (h : ∀ e, o ≠ .nx e) (hr : Dn.rt = Dm.rt) (hb : Dn.bk = Dm.bk) (hc : Dn.ct = Dm.ct) : PostS K ρ H st Dm o := by
  cases o with
  | nx e => exact absurd rfl (h e)
  | rt d => exact fun ρ' H' v L S R => hr ▸ p ρ' H' v L S R
  | bk e => exact fun ρ' H' v L S R => hb ▸ p ρ' H' v L S R
  | ct e => exact fun ρ' H' v L S R => hc ▸ p ρ' H' v L S R
theorem ss_cons {a : Stmt} {rest : List Stmt} {F G : FS} (h1 : PS X a (tS X.K F)) (h2 : PSs X rest (tS X.K G)) : PSs X (a :: rest) (tS X.K (sSeq F G)) := by
  refine pssConv (pss_cons h1 h2) fun Dn σ H h => ?_
  obtain ⟨ρ, env, st, o, st', S, E, e, p⟩ := h
  unfold sSeq at e
  split at e
  · rename_i e1 st1 he
    exact ⟨ρ, env, st, _, st1, S, E, he, fun ρ1 H1 σ1 L1 S1 E1 => ⟨ρ1, e1, st1, o, st', S1, E1, e, p.mono L1⟩⟩
  · rename_i hne
    refine ⟨ρ, env, st, o, st', S, E, e, p.sw (fun e0 z => ?_) rfl rfl rfl⟩
    subst z
    exact hne e0 st' e
theorem ss_one {a : Stmt} {F : FS} (h1 : PS X a (tS X.K F)) : PSs X [a] (tS X.K F) := pss_one h1
def sPass : FS := fun env st => some (.nx env, st)
def sBrk : FS := fun env st => some (.bk env, st)
def sCnt : FS := fun env st => some (.ct env, st)
theorem s_pass : PS X (.Pass pos) (tS X.K sPass) := by
  refine psConv ps_pass fun Dn σ H h => ?_
  obtain ⟨ρ, env, st, o, st', S, E, e, p⟩ := h
  cases e
  exact p ρ H _ Le.refl S E
theorem s_brk : PS X (.Break pos) (tS X.K sBrk) := by
  refine psConv ps_break fun Dn σ H h => ?_
  obtain ⟨ρ, env, st, o, st', S, E, e, p⟩ := h
  cases e
  exact p ρ H _ Le.refl S E
theorem s_cnt : PS X (.Continue pos) (tS X.K sCnt) := by
  refine psConv ps_continue fun Dn σ H h => ?_
  obtain ⟨ρ, env, st, o, st', S, E, e, p⟩ := h
  cases e
  exact p ρ H _ Le.refl S E
def sRet (F : FE) : FS := fun env st => match F env st with
  | some (d, st1) => some (.rt d, st1)
  | none => none
theorem s_ret {e : Expr} {F : FE} (he : PE X e (tE X.K F)) : PS X (.Return (some e) pos) (tS X.K (sRet F)) := by
  refine psConv (ps_ret he) fun Dn σ H h => ?_
  obtain ⟨ρ, env, st, o, st', S, E, e, p⟩ := h
  unfold sRet at e
  split at e
  · rename_i d st1 e1
    cases e
    exact ⟨ρ, env, st, d, st', S, E, e1, p⟩
  · cases e
def sRetN : FS := fun env st => some (.rt .non, st)
theorem s_retN : PS X (.Return none pos) (tS X.K sRetN) := by
  refine psConv ps_retN fun Dn σ H h => ?_
  obtain ⟨ρ, env, st, o, st', S, E, e, p⟩ := h
  cases e
  exact p ρ H _ Le.refl S rfl
def sExpr (F : FE) : FS := fun env st => match F env st with
  | some (_, st1) => some (.nx env, st1)
  | none => none
theorem s_expr {e : Expr} {F : FE} (he : PE X e (tE X.K F)) (hs : swapsWith e none pos.line X.env = pure false := by rfl) : PS X (.Expr e pos) (tS X.K (sExpr F)) := by
  refine psConv (ps_expr he hs) fun Dn σ H h => ?_
  obtain ⟨ρ, env, st, o, st', S, E, e, p⟩ := h
  unfold sExpr at e
  split at e
  · rename_i d st1 e1
    cases e
    exact tE_bind S E e1 fun ρ1 H1 v L1 S1 R1 E1 => p ρ1 H1 σ L1 S1 E1
  · cases e
def sSet (i : Nat) (F : FE) : FS := fun env st => match F env st with
  | some (d, st1) => some (.nx (env.set i (some d)), st1)
  | none => none
theorem set_conv {K : PySem.W.Frag} {i : Nat} {F : FE} (Dn : Ends) (σ : L2.St) (H : Hp) (h : tS K (sSet i F) Dn σ H) : tAsg (tE K F) (gName i) Dn σ H := by
  obtain ⟨ρ, env, st, o, st', S, E, e, p⟩ := h
  unfold sSet at e
  split at e
  · rename_i d st1 e1
    cases e
    exact tE_bind S E e1 fun ρ1 H1 v L1 S1 R1 E1 => p ρ1 H1 _ L1 S1 (E1.set R1)
  · cases e
theorem s_set {i : Nat} {x : Str} {e : Expr} {F : FE} {pos' : Pos} (hN : X.N.Nodup) (hi : X.N[i]? = some x) (hx : Loc X.env.scope x) (he : PE X e (tE X.K F)) (hs : swapsWith e (some (.Name x pos')) pos.line X.env = pure false := by rfl)
    (hf : X.fn x = true ∨ X.env.scope.names.lookup x = some .local := by first | exact .inl rfl | exact .inr rfl | assumption) : PS X (.Assign [.Name x pos'] e pos) (tS X.K (sSet i F)) :=
  psConv (ps_set hN hi hx he hs hf) set_conv
/-- a, b = e -/
def sAsg (G : FG) (F : FE) : FS := fun env st => match F env st with
  | some (d, st1) => match G d env with
    | some e1 => some (.nx e1, st1)
    | none => none
  | none => none
theorem s_asg {vs : List Nat} {tg e : Expr} {F : FE} {G : FG} (he : PE X e (tE X.K F)) (hg : PG X tg (tG X.K vs G)) (hs : swapsWithSole [tg] e pos.line X.env = pure false := by rfl) (hw : swappedStores [tg] e X.env = pure none := by rfl)
    (h1 : (assignEach [tg] X.env).map (·.2) = [assign tg X.env] := by rfl) : PS X (.Assign [tg] e pos) (tS X.K (sAsg G F)) := by
  refine psConv (ps_asg he hg hs hw h1) fun Dn σ H h => ?_
  obtain ⟨ρ, env, st, o, st', S, E, e, p⟩ := h
  unfold sAsg at e
  split at e
  · rename_i d st1 e1
    split at e
    · rename_i en e2
      cases e
      exact tE_bind S E e1 fun ρ1 H1 v L1 S1 R1 E1 => ⟨ρ1, env, st', d, en, S1, E1, R1, e2, fun σ' E' _ => p ρ1 H1 σ' L1 S1 E'⟩
    · cases e
  · cases e
/-- a, b = x, y of plain names -/
def sPar (i j : Nat) (A : FA) : FS := fun env st => match A env st with
  | some ([a, b], st1) => some (.nx ((env.set i (some a)).set j (some b)), st1)
  | _ => none
theorem s_par {i j : Nat} {x y : Str} {a b : Expr} {A : FA} {px py pt : Pos} {kt k2 pt2} (hc : X.calm = true) (hN : X.N.Nodup) (hi : X.N[i]? = some x) (hj : X.N[j]? = some y) (hij : i ≠ j)
    (hx : X.env.scope.names.lookup x = some .local) (hy : X.env.scope.names.lookup y = some .local) (ha : PA X [a, b] (tA X.K A))
    (hw : swappedStores [.Tuple [.Name x px, .Name y py] kt pt] (.Tuple [a, b] k2 pt2) X.env = pure (some [x, y]))
    (hs : swapsWithSole [.Tuple [.Name x px, .Name y py] kt pt] (.Tuple [a, b] k2 pt2) pos.line X.env = pure false := by rfl) :
    PS X (.Assign [.Tuple [.Name x px, .Name y py] kt pt] (.Tuple [a, b] k2 pt2) pos) (tS X.K (sPar i j A)) := by
  refine psConv (ps_par hc hN hi hj hij hx hy ha hw hs) fun Dn σ H h => ?_
  obtain ⟨ρ, env, st, o, st', S, E, e, p⟩ := h
  unfold sPar at e
  split at e
  · rename_i d1 d2 st1 e1
    cases e
    refine ⟨ρ, env, st, _, st', S, E, e1, fun ρ1 H1 vs L1 S1 R1 => ?_⟩
    obtain ⟨v, r, rfl, r1, w, r', rfl, r2, r3⟩ := R1
    cases (show r' = [] from r3)
    exact ⟨v, w, rfl, p ρ1 H1 _ L1 S1 (((E.mono L1).set r1).set r2)⟩
  · cases e
def sIf (C : FT) (F G : FS) : FS := fun env st => match C env st with
  | some (true, st1) => F env st1
  | some (false, st1) => G env st1
  | none => none
theorem s_if {c : Expr} {a b : List Stmt} {C : FT} {F G : FS} (hc : PT X c (tT X.K C)) (ha : PSs X a (tS X.K F)) (hb : PSs X b (tS X.K G)) : PS X (.If c a b pos) (tS X.K (sIf C F G)) := by
  refine psConv (ps_if hc ha hb) fun Dn σ H h => ?_
  obtain ⟨ρ, env, st, o, st', S, E, e, p⟩ := h
  unfold sIf at e
  split at e
  · rename_i st1 e1
    refine tT_bind S E e1 fun ρ1 H1 L1 S1 E1 => ?_
    rw [if_pos rfl]
    exact ⟨ρ1, env, st1, o, st', S1, E1, e, p.mono L1⟩
  · rename_i st1 e1
    refine tT_bind S E e1 fun ρ1 H1 L1 S1 E1 => ?_
    rw [if_neg (by decide)]
    exact ⟨ρ1, env, st1, o, st', S1, E1, e, p.mono L1⟩
  · cases e
/-- xs[i] = e -/
def setAt (st : Store) (d : D) (j : Int) (x : D) : Option Store := match d with
  | .ref n => match st[n]? with
    | some (.lst xs) => match ixN xs.length j with
      | some m => some (st.set n (.lst (xs.set m x)))
      | none => none
    | _ => none
  | _ => none
def sPut (Fo Fi F : FE) : FS := fun env st => match F env st with
  | some (x, st1) => match Fo env st1 with
    | some (o, st2) => match Fi env st2 with
      | some (.int j, st3) => match setAt st3 o j x with
        | some st4 => some (.nx env, st4)
        | none => none
      | _ => none
    | none => none
  | none => none
theorem s_put {o i e : Expr} {Fo Fi F : FE} {spos : Pos} (he : PE X e (tE X.K F)) (ho : PE X o (tE X.K Fo)) (hi : PE X i (tE X.K Fi))
    (ha : ∀ v, assign (.Subscript o i spos) X.env v = (do
      let ov ← holding [v] (eval o X.env)
      let iv ← holding [v, ov] (eval i X.env)
      standAt spos
      holding [v, ov, iv] (setItem ov iv v)
      release [v, ov, iv] []) := by intro _; rfl)
    (hs : swapsWithSole [.Subscript o i spos] e pos.line X.env = pure false := by rfl) (hw : swappedStores [.Subscript o i spos] e X.env = pure none := by rfl)
    (h1 : (assignEach [.Subscript o i spos] X.env).map (·.2) = [assign (.Subscript o i spos) X.env] := by rfl) : PS X (.Assign [.Subscript o i spos] e pos) (tS X.K (sPut Fo Fi F)) := by
  refine psConv (ps_asg he (pg_sub ho hi set_list ha) hs hw h1) fun Dn σ H h => ?_
  obtain ⟨ρ, env, st, out, st', S, E, e, p⟩ := h
  unfold sPut at e
  split at e
  · rename_i x st1 e1
    split at e
    · rename_i od st2 e2
      split at e
      · rename_i j st3 e3
        split at e
        · rename_i st4 e4
          cases e
          refine tE_bind S E e1 fun ρ1 H1 v L1 S1 R1 E1 => ?_
          refine tE_bind S1 E1 e2 fun ρ2 H2 ov L2 S2 R2 E2 => ?_
          refine tE_bind S2 E2 e3 fun ρ3 H3 iv L3 S3 R3 E3 => ?_
          unfold setAt at e4
          split at e4
          · rename_i n
            split at e4
            · rename_i xs e5
              split at e4
              · rename_i m e6
                cases e4
                obtain ⟨a, rfl, hn⟩ := Rep.mono L3 _ _ R2
                obtain ⟨vs, h2, rr⟩ := S3.obj n _ a e5 hn
                refine ⟨a, vs, j, m, rfl, R3, h2, by rw [← rr.length]; exact e6, ?_⟩
                have LW := Le.write (u' := .lst (vs.set m v)) (List.mem_of_getElem? hn) h2 (fun _ z => by cases z) (fun _ _ z => by cases z)
                refine p ρ3 _ σ (((L1.trans L2).trans L3).trans LW) (S3.write hn h2 (fun _ z => by cases z) (fun _ _ z => by cases z) ⟨_, upd_same, ?_⟩) (E3.mono LW)
                exact Reps.mono LW _ _ (rr.set (Rep.mono (L2.trans L3) _ _ R1) m)
              · cases e4
            · cases e4
          · cases e4
        · cases e
      · cases e
    · cases e
  · cases e
/-- x += e -/
def sAug (i : Nat) (f : D → D → Store → Option D) (F : FE) : FS := fun env st => match env[i]? with
  | some (some a) => match F env st with
    | some (b, st1) => match f a b st1 with
      | some d => some (.nx (env.set i (some d)), st1)
      | none => none
    | none => none
  | _ => none
theorem s_aug {i : Nat} {x : Str} {e : Expr} {F : FE} {op : Operator} {f : D → D → Store → Option D} {r : TIp} {pos' : Pos} (hN : X.N.Nodup) (hi : X.N[i]? = some x) (hx : Loc X.env.scope x) (he : PE X e (tE X.K F)) (ho : PIp X op r) (hd : OpD X.K f r)
    (hf : X.fn x = true ∨ X.env.scope.names.lookup x = some .local := by first | exact .inl rfl | exact .inr rfl | assumption) : PS X (.AugAssign (.Name x pos') op e pos) (tS X.K (sAug i f F)) := by
  refine psConv (ps_aug hN hi hx he ho hf) fun Dn σ H h => ?_
  obtain ⟨ρ, env, st, out, st', S, E, e, p⟩ := h
  unfold sAug at e
  split at e
  · rename_i a ea
    split at e
    · rename_i b st1 e1
      split at e
      · rename_i d e2
        cases e
        obtain ⟨v, ev, ra⟩ := E.get i a ea
        refine ⟨v, ev, ?_⟩
        refine tE_bind S E e1 fun ρ1 H1 w L1 S1 R1 E1 => ?_
        exact hd ρ1 H1 st' a b v w d _ S1 (Rep.mono L1 _ _ ra) R1 e2 fun ρ2 H2 z L2 S2 R2 => p ρ2 H2 _ (L1.trans L2) S2 ((E1.mono L2).set R2)
      · cases e
    · cases e
  · cases e
theorem s_augAdd {i : Nat} {x : Str} {e : Expr} {F : FE} {pos' : Pos} (hN : X.N.Nodup) (hi : X.N[i]? = some x) (hx : Loc X.env.scope x) (he : PE X e (tE X.K F))
    (hf : X.fn x = true ∨ X.env.scope.names.lookup x = some .local := by first | exact .inl rfl | exact .inr rfl | assumption) : PS X (.AugAssign (.Name x pos') .Add e pos) (tS X.K (sAug i (dI (fun _ _ => true) (fun i j => i + j)) F)) :=
  s_aug (r := fun x y H Q => rI (fun _ _ => True) (fun i j => .int (i + j)) x y H Q) hN hi hx he (fun pins s σ H x y v u Q I r1 r2 h => by obtain ⟨a, b, e1, e2, _, q⟩ := h; exact ip_add pins s σ H x y v u Q I r1 r2 ⟨a, b, e1, e2, q⟩) (od_int fun _ _ _ => trivial) hf

/-! ### while -/
def whileN (C : FT) (B : FS) : Nat → En → Store → Option (Out × Store)
  | 0, _, _ => none
  | n + 1, env, st => match C env st with
    | some (true, st1) => match B env st1 with
      | some (.nx e1, st2) => whileN C B n e1 st2
      | some (.ct e1, st2) => whileN C B n e1 st2
      | some (.bk e1, st2) => some (.nx e1, st2)
      | some (.rt d, st2) => some (.rt d, st2)
      | none => none
    | some (false, st1) => some (.nx env, st1)
    | none => none
def sWhile (n : Nat) (C : FT) (B : FS) : FS := fun env st => whileN C B n env st
theorem s_while (n : Nat) {c : Expr} {body : List Stmt} {C : FT} {B : FS} (hp : PassesOwn (model X.prog X.w) X.A X.env X.xe) (hc : PT X c (tT X.K C)) (hb : PSs X body (tS X.K B)) : PS X (.While c body [] pos) (tS X.K (sWhile n C B)) := by
  refine psConv (ps_while hp hc hb) fun Dn σ H h => ?_
  obtain ⟨ρ, env, st, o, st', S, E, e, p⟩ := h
  refine ⟨fun m σ1 H1 => ∃ ρ1 e1 st1, Le ρ H ρ1 H1 ∧ Sim X.K ρ1 st1 H1 ∧ EnR X.K ρ1 H1 e1 σ1 ∧ whileN C B m e1 st1 = some (o, st'), ⟨n, ρ, env, st, Le.refl, S, E, e⟩, ?_⟩
  rintro m σ1 H1 ⟨ρ1, e1, st1, L1, S1, E1, hw⟩
  cases m with
  | zero => cases hw
  | succ m =>
    unfold whileN at hw
    split at hw
    · rename_i st2 ec
      refine tT_bind S1 E1 ec fun ρ2 H2 L2 S2 E2 => ?_
      rw [if_pos rfl]
      refine ⟨fun σ3 H3 => ∃ ρ3 e3 st3, Le ρ H ρ3 H3 ∧ Sim X.K ρ3 st3 H3 ∧ EnR X.K ρ3 H3 e3 σ3 ∧ whileN C B m e3 st3 = some (o, st'), fun σ3 H3 h3 => ⟨m, Nat.lt_succ_self m, h3⟩, ?_⟩
      split at hw
      · rename_i e3 st3 eb
        exact ⟨ρ2, e1, st2, _, st3, S2, E2, eb, fun ρ3 H3 σ3 L3 S3 E3 => ⟨ρ3, e3, st3, (L1.trans L2).trans L3, S3, E3, hw⟩⟩
      · rename_i e3 st3 eb
        exact ⟨ρ2, e1, st2, _, st3, S2, E2, eb, fun ρ3 H3 σ3 L3 S3 E3 => ⟨ρ3, e3, st3, (L1.trans L2).trans L3, S3, E3, hw⟩⟩
      · rename_i e3 st3 eb
        cases hw
        exact ⟨ρ2, e1, st2, _, st', S2, E2, eb, fun ρ3 H3 σ3 L3 S3 E3 => p ρ3 H3 σ3 ((L1.trans L2).trans L3) S3 E3⟩
      · rename_i d st3 eb
        cases hw
        exact ⟨ρ2, e1, st2, _, st', S2, E2, eb, fun ρ3 H3 v L3 S3 R3 => p ρ3 H3 v ((L1.trans L2).trans L3) S3 R3⟩
      · cases hw
    · rename_i st2 ec
      cases hw
      refine tT_bind S1 E1 ec fun ρ2 H2 L2 S2 E2 => ?_
      rw [if_neg (by decide)]
      exact p ρ2 H2 σ1 (L1.trans L2) S2 E2
    · cases hw

/-! ### what is walked -/
abbrev Gd := Store → Prop
abbrev FI := En → Store → Option ((List D × Gd) × Store)
def Src (K : PySem.W.Frag) (ρ : Wn) (H : Hp) (J : It) (ds : List D) (g : Gd) : Prop := ∃ (G : Hp → Prop) (Y : Nat → Hp → V → Hp → Prop), Walk J ds.length G Y ∧
  (∀ ρ' H' st', Le ρ H ρ' H' → Sim K ρ' st' H' → g st' → G H') ∧
  (∀ i ρ' H' st' x H'', i < ds.length → Le ρ H ρ' H' → Sim K ρ' st' H' → g st' → Y i H' x H'' → ∃ d, ds[i]? = some d ∧ Le ρ' H' ρ' H'' ∧ Sim K ρ' st' H'' ∧ Rep K ρ' H'' d x)
def tI (K : PySem.W.Frag) (F : FI) : TI := fun σ H R => ∃ ρ env st ds g st', Sim K ρ st H ∧ EnR K ρ H env σ ∧ F env st = some ((ds, g), st') ∧ g st' ∧
  ∀ ρ1 H1 J, Le ρ H ρ1 H1 → Sim K ρ1 st' H1 → Src K ρ1 H1 J ds g → R J H1
theorem piConv {tg e : Expr} {t t' : TI} (h : PI X tg e t) (c : ∀ σ H Q, t' σ H Q → t σ H Q) : PI X tg e t' := ⟨fun pins s σ H Q I q => h.run pins s σ H Q I (c _ _ _ q)⟩
theorem piOr {tg e : Expr} {t t' : TI} (h : PI X tg e t) (h' : PI X tg e t') : PI X tg e (fun σ H R => t σ H R ∨ t' σ H R) := ⟨fun pins s σ H R I q => by
  rcases q with q | q
  · exact h.run pins s σ H R I q
  · exact h'.run pins s σ H R I q⟩
def itemsOf (st : Store) : D → Option (List D × Gd)
  | .tup xs => some (xs, fun _ => True)
  | .tl xs => some (xs, fun _ => True)
  | .sl xs => some (xs, fun _ => True)
  | .str z => some (z.cps.toList.map fun c => .str ⟨#[c]⟩, fun _ => True)
  | .ref n => match st[n]? with
    | some (.lst xs) => some (xs, fun st' => st'[n]? = some (.lst xs))
    | _ => none
  | _ => none
def iVal (F : FE) : FI := fun env st => match F env st with
  | some (d, st1) => match itemsOf st1 d with
    | some r => some (r, st1)
    | none => none
  | none => none
theorem src_list {K : PySem.W.Frag} {ρ : Wn} {H : Hp} {a : Addr} {vs : List V} {ds : List D} {g : Gd} (r : Reps K ρ H ds vs) (hg : ∀ ρ' H' st', Le ρ H ρ' H' → Sim K ρ' st' H' → g st' → SqL K H' a vs) : Src K ρ H (Itl K a) ds g := by
  refine ⟨fun H => SqL K H a vs, YAt vs, by rw [r.length]; exact walk_list, hg, fun i ρ' H' st' x H'' hi L S q y => ?_⟩
  obtain ⟨rfl, hx⟩ := y
  obtain ⟨d, e, rd⟩ := (Reps.mono L _ _ r).getV hx
  exact ⟨d, e, Le.refl, S, rd⟩
theorem src_tup {K : PySem.W.Frag} {ρ : Wn} {H : Hp} {a : Addr} {vs : List V} {ds : List D} {g : Gd} (r : Reps K ρ H ds vs) (hs : SqT K H a vs) : Src K ρ H (Itt K a) ds g := by
  refine ⟨fun H => SqT K H a vs, YAt vs, by rw [r.length]; exact walk_tup, fun ρ' H' st' L _ _ => L.sqt hs, fun i ρ' H' st' x H'' hi L S q y => ?_⟩
  obtain ⟨rfl, hx⟩ := y
  obtain ⟨d, e, rd⟩ := (Reps.mono L _ _ r).getV hx
  exact ⟨d, e, Le.refl, S, rd⟩
theorem i_val {tg e : Expr} {F : FE} (he : PE X e (tE X.K F)) : PI X tg e (tI X.K (iVal F)) := by
  refine piConv (piOr (pi_list he) (piOr (pi_tup he) (pi_str he))) fun σ H R h => ?_
  obtain ⟨ρ, env, st, ds, g, st', S, E, e, hg, q⟩ := h
  unfold iVal at e
  split at e
  · rename_i d st1 e1
    split at e
    · rename_i r e2
      cases e
      unfold itemsOf at e2
      split at e2
      · cases e2
        refine .inr (.inl (tE_bind S E e1 fun ρ1 H1 v L1 S1 R1 E1 => ?_))
        obtain ⟨a, vs, rfl, hs, rr⟩ := R1
        exact ⟨a, rfl, ⟨vs, hs⟩, q ρ1 H1 _ L1 S1 (src_tup rr hs)⟩
      · cases e2
        refine .inl (tE_bind S E e1 fun ρ1 H1 v L1 S1 R1 E1 => ?_)
        obtain ⟨a, vs, rfl, ⟨hn, hs⟩, rr⟩ := R1
        exact ⟨a, rfl, ⟨vs, SqL.of hs⟩, q ρ1 H1 _ L1 S1 (src_list rr fun ρ' H' st'' L _ _ => SqL.of (L.keep _ _ hn.1 hs))⟩
      · cases e2
        refine .inl (tE_bind S E e1 fun ρ1 H1 v L1 S1 R1 E1 => ?_)
        obtain ⟨a, vs, rfl, hs, rr⟩ := R1
        have hq : ∀ ρ' H', Le ρ1 H1 ρ' H' → SqL X.K H' a vs := fun ρ' H' L => by
          rcases hs with ⟨hn, ob, hs⟩ | hs
          · exact .inl (.inr ⟨ob, L.keep _ _ hn hs⟩)
          · exact .inr hs
        exact ⟨a, rfl, ⟨vs, hq _ _ Le.refl⟩, q ρ1 H1 _ L1 S1 (src_list rr fun ρ' H' _ L _ _ => hq ρ' H' L)⟩
      · rename_i z
        cases e2
        refine .inr (.inr (tE_bind S E e1 fun ρ1 H1 v L1 S1 R1 E1 => ?_))
        refine ⟨z, R1, q ρ1 H1 _ L1 S1 ⟨fun _ => True, _, by have w := walk_str (z := z); rw [show (z.cps.toList.map fun c => D.str ⟨#[c]⟩).length = z.cps.size by simp]; exact w, fun _ _ _ _ _ _ => trivial, fun i ρ' H' st'' x H'' hi L S' _ y => ?_⟩⟩
        obtain ⟨rfl, c, hc, rfl⟩ := y
        exact ⟨.str ⟨#[c]⟩, by rw [List.getElem?_map, Array.getElem?_toList, hc]; rfl, Le.refl, S', rfl⟩
      · split at e2
        · rename_i n _ xs e3
          cases e2
          refine .inl (tE_bind S E e1 fun ρ1 H1 v L1 S1 R1 E1 => ?_)
          obtain ⟨a, rfl, ha⟩ := R1
          obtain ⟨vs, h2, rr⟩ := S1.obj n _ a e3 ha
          refine ⟨a, rfl, ⟨vs, SqL.of h2⟩, q ρ1 H1 _ L1 S1 ?_⟩
          refine ⟨fun H => ∃ ws, SqL X.K H a ws ∧ ws.length = vs.length ∧ ∀ (ρ' : Wn) , True, fun i H x H' => H' = H ∧ ∀ ws, SqL X.K H a ws → ws[i]? = some x, ?_, ?_, ?_⟩
          · rw [rr.length]
            refine ⟨fun i H hi hq => ?_, fun H hq => ?_, fun i H x H' hi _ y => y⟩
            · obtain ⟨ws, hw, hl, _⟩ := hq
              exact ⟨ws, ws[i]'(by omega), hw, by simp⟩
            · obtain ⟨ws, hw, hl, _⟩ := hq
              exact ⟨ws, hw, by omega⟩
          · intro ρ' H' st'' L S' g'
            have ha' : ρ'.r[n]? = some a := by
              obtain ⟨m, hs, rfl, _⟩ := L.pre
              rw [List.getElem?_append_left (List.getElem?_eq_some_iff.mp ha).1]
              exact ha
            obtain ⟨ws, hw, rw'⟩ := S'.obj n _ a g' ha'
            exact ⟨ws, SqL.of hw, by rw [← rw'.length, rr.length], fun _ => trivial⟩
          · intro i ρ' H' st'' x H'' hi L S' g' y
            obtain ⟨rfl, hx⟩ := y
            have ha' : ρ'.r[n]? = some a := by
              obtain ⟨m, hs, rfl, _⟩ := L.pre
              rw [List.getElem?_append_left (List.getElem?_eq_some_iff.mp ha).1]
              exact ha
            obtain ⟨ws, hw, rw'⟩ := S'.obj n _ a g' ha'
            obtain ⟨d, e4, rd⟩ := rw'.getV (hx ws (SqL.of hw))
            exact ⟨d, e4, Le.refl, S', rd⟩
        · cases e2
      · cases e2
    · cases e
  · cases e
/-- range(n), range(a, b) -/
def rangeD (lo : Int) (n : Nat) : List D := (List.range n).map fun i => .int (lo + (i : Nat))
theorem src_range {K : PySem.W.Frag} {ρ : Wn} {H : Hp} {lo : Int} {n : Nat} {g : Gd} : Src K ρ H (Itr lo n) (rangeD lo n) g := by
  refine ⟨fun _ => True, YFn fun i => .int (lo + i), by rw [show (rangeD lo n).length = n by simp [rangeD]]; exact walk_range, fun _ _ _ _ _ _ => trivial, fun i ρ' H' st' x H'' hi L S q y => ?_⟩
  obtain ⟨rfl, rfl⟩ := y
  have hi' : i < n := by simpa [rangeD] using hi
  exact ⟨.int (lo + (i : Nat)), by simp [rangeD, hi'], Le.refl, S, rfl⟩
def iRange1 (A : FA) : FI := fun env st => match A env st with
  | some ([.int j], st1) => if -4611686018427387904 ≤ j ∧ j < 4611686018427387904 then some ((rangeD 0 j.toNat, fun _ => True), st1) else none
  | _ => none
def iRange2 (A : FA) : FI := fun env st => match A env st with
  | some ([.int i, .int j], st1) => if (-4611686018427387904 ≤ i ∧ i < 4611686018427387904) ∧ -4611686018427387904 ≤ j ∧ j < 4611686018427387904 then some ((rangeD i (j - i).toNat, fun _ => True), st1) else none
  | _ => none
theorem i_range1 {tg a : Expr} {A : FA} {p : Pos} (hg : Gl X "range") (hm : X.mg "range" = none) (ha : PA X [a] (tA X.K A)) (hs : starEach [a] X.env = [(false, eval a X.env)] := by rfl) : PI X tg (.Call (.Name "range" p) [a] [] pos) (tI X.K (iRange1 A)) := by
  refine piConv (pi_range1 hg hm ha hs) fun σ H R h => ?_
  obtain ⟨ρ, env, st, ds, g, st', S, E, e, hgd, q⟩ := h
  unfold iRange1 at e
  split at e
  · rename_i j st1 e1
    split at e
    · rename_i hb
      cases e
      refine ⟨ρ, env, st, _, st', S, E, e1, fun ρ1 H1 vs L1 S1 R1 => ?_⟩
      obtain ⟨v, r, rfl, r1, r2⟩ := R1
      cases (show r = [] from r2)
      exact ⟨j, by rw [show v = .int j from r1], by omega, by omega, q ρ1 H1 _ L1 S1 src_range⟩
    · cases e
  · cases e
theorem i_range2 {tg a b : Expr} {A : FA} {p : Pos} (hg : Gl X "range") (hm : X.mg "range" = none) (ha : PA X [a, b] (tA X.K A)) (hs : starEach [a, b] X.env = [(false, eval a X.env), (false, eval b X.env)] := by rfl) (hs2 : starEach [b] X.env = [(false, eval b X.env)] := by rfl) : PI X tg (.Call (.Name "range" p) [a, b] [] pos) (tI X.K (iRange2 A)) := by
  refine piConv (pi_range2 hg hm ha hs hs2) fun σ H R h => ?_
  obtain ⟨ρ, env, st, ds, g, st', S, E, e, hgd, q⟩ := h
  unfold iRange2 at e
  split at e
  · rename_i i j st1 e1
    split at e
    · rename_i hb
      cases e
      refine ⟨ρ, env, st, _, st', S, E, e1, fun ρ1 H1 vs L1 S1 R1 => ?_⟩
      obtain ⟨v, r, rfl, r1, w, r', rfl, r2, r3⟩ := R1
      cases (show r' = [] from r3)
      exact ⟨i, j, by rw [show v = .int i from r1, show w = .int j from r2], ⟨by omega, by omega, by omega, by omega⟩, q ρ1 H1 _ L1 S1 src_range⟩
    · cases e
  · cases e

/-! ### for -/
open Classical in
noncomputable def forN (g : Gd) (T : FG) (B : FS) : List D → En → Store → Option (Out × Store)
  | [], env, st => if g st then some (.nx env, st) else none
  | d :: ds, env, st => if g st then match T d env with
      | some e1 => match B e1 st with
        | some (.nx e2, st2) => forN g T B ds e2 st2
        | some (.ct e2, st2) => forN g T B ds e2 st2
        | some (.bk e2, st2) => some (.nx e2, st2)
        | some (.rt v, st2) => some (.rt v, st2)
        | none => none
      | none => none
    else none
noncomputable def sFor (I : FI) (T : FG) (B : FS) : FS := fun env st => match I env st with
  | some ((ds, g), st1) => forN g T B ds env st1
  | none => none
theorem s_for {vs : List Nat} {tg iter : Expr} {body : List Stmt} {I : FI} {T : FG} {B : FS} (hp : PassesOwn (model X.prog X.w) X.A X.env X.xe) (hc : X.calm = true) (hi : PI X tg iter (tI X.K I)) (hg : PG X tg (tG X.K vs T)) (hb : PSs X body (tS X.K B))
    (hs : ∀ x, foldedSetIterable iter X.env x = pure x := by intro _; rfl) : PS X (.For tg iter body [] pos) (tS X.K (sFor I T B)) := by
  refine psConv (ps_for hp hc hi hg hb hs) fun Dn σ H h => ?_
  obtain ⟨ρ, env, st, o, st', S, E, e, p⟩ := h
  unfold sFor at e
  split at e
  · rename_i ds g st1 e1
    have g1 : g st1 := by
      cases ds <;> (unfold forN at e; split at e)
      · assumption
      · cases e
      · assumption
      · cases e
    refine ⟨ρ, env, st, ds, g, st1, S, E, e1, g1, fun ρ1 H1 J L1 S1 src => ?_⟩
    obtain ⟨G, Y, w, hG, hY⟩ := src
    have gOf : ∀ {i e2 st2}, forN g T B (ds.drop i) e2 st2 = some (o, st') → g st2 := fun {i e2 st2} h => by
      cases hd : ds.drop i <;> (rw [hd] at h; unfold forN at h; split at h)
      · assumption
      · cases h
      · assumption
      · cases h
    refine for_it w (Pv := fun i σ2 H2 => ∃ ρ2 e2 st2, Le ρ1 H1 ρ2 H2 ∧ Sim X.K ρ2 st2 H2 ∧ EnR X.K ρ2 H2 e2 σ2 ∧ forN g T B (ds.drop i) e2 st2 = some (o, st')) ⟨ρ1, env, st1, Le.refl, S1, E.mono L1, e⟩ ?_ ?_ ?_
    · rintro i σ2 H2 _ ⟨ρ2, e2, st2, L2, S2, E2, h2⟩
      exact hG ρ2 H2 st2 L2 S2 (gOf h2)
    · rintro i x σ2 H2 H3 hi ⟨ρ2, e2, st2, L2, S2, E2, h2⟩ y
      obtain ⟨d, hd, L3, S3, R3⟩ := hY i ρ2 H2 st2 x H3 hi L2 S2 (gOf h2) y
      have hdr : ds.drop i = d :: ds.drop (i + 1) := by
        obtain ⟨hlt, rfl⟩ := List.getElem?_eq_some_iff.mp hd
        exact List.drop_eq_getElem_cons hlt
      have g2 := gOf h2
      rw [hdr] at h2
      unfold forN at h2
      rw [if_pos g2] at h2
      split at h2
      · rename_i e3 ht
        refine ⟨ρ2, e2, st2, d, e3, S3, E2.mono L3, R3, ht, fun σ3 E3 _ => ?_⟩
        split at h2
        · rename_i e4 st4 hb
          exact ⟨ρ2, e3, st2, _, st4, S3, E3, hb, fun ρ5 H5 σ5 L5 S5 E5 => ⟨ρ5, e4, st4, (L2.trans L3).trans L5, S5, E5, h2⟩⟩
        · rename_i e4 st4 hb
          exact ⟨ρ2, e3, st2, _, st4, S3, E3, hb, fun ρ5 H5 σ5 L5 S5 E5 => ⟨ρ5, e4, st4, (L2.trans L3).trans L5, S5, E5, h2⟩⟩
        · rename_i e4 st4 hb
          cases h2
          exact ⟨ρ2, e3, st2, _, st', S3, E3, hb, fun ρ5 H5 σ5 L5 S5 E5 => p ρ5 H5 σ5 (L1.trans ((L2.trans L3).trans L5)) S5 E5⟩
        · rename_i v st4 hb
          cases h2
          exact ⟨ρ2, e3, st2, _, st', S3, E3, hb, fun ρ5 H5 v5 L5 S5 R5 => p ρ5 H5 v5 (L1.trans ((L2.trans L3).trans L5)) S5 R5⟩
        · cases h2
      · cases h2
    · rintro σ2 H2 ⟨ρ2, e2, st2, L2, S2, E2, h2⟩
      rw [List.drop_length] at h2
      unfold forN at h2
      split at h2
      · cases h2
        exact p ρ2 H2 σ2 (L1.trans L2) S2 E2
      · cases h2
  · cases e
end
end Vm
namespace Vm
open PySem PySem.Spec PyProof.Rows L2

/-! ### carrying over, in general -/
structure Tr (ρ : Wn) (H : Hp) (ρ' : Wn) (H' : Hp) : Prop where
  r : ∀ (n : Nat) (a : Addr), ρ.r[n]? = some a → ρ'.r[n]? = some a
  tup : ∀ a xs, Rd H a (.tup xs) → Rd H' a (.tup xs)
  lst : ∀ a vs, a ∉ ρ.r → a ∉ ρ.h → H a = some (.lst vs) → a ∉ ρ'.r ∧ a ∉ ρ'.h ∧ H' a = some (.lst vs)
  frz : ∀ a ob vs, a ∉ ρ.r → H a = some (.frz ob (.lst vs)) → a ∉ ρ'.r ∧ H' a = some (.frz ob (.lst vs))
section
variable {K : PySem.W.Frag} {ρ ρ' : Wn} {H H' : Hp}
mutual
theorem Rep.tr (L : Tr ρ H ρ' H') : ∀ (d : D) (v : V), Rep K ρ H d v → Rep K ρ' H' d v
  | .non, _, h => h
  | .bl _, _, h => h
  | .int _, _, h => h
  | .str _, _, h => h
  | .tup ds, v, h => by
    obtain ⟨a, vs, e, hs, hr⟩ := h
    refine ⟨a, vs, e, ?_, Reps.tr L ds vs hr⟩
    rcases hs with hs | hs
    · exact .inl (L.tup a vs hs)
    · exact .inr hs
  | .tl ds, v, h => by
    obtain ⟨a, vs, e, ⟨hn, hs⟩, hr⟩ := h
    obtain ⟨h1, h2, h3⟩ := L.lst a vs hn.1 hn.2 hs
    exact ⟨a, vs, e, ⟨⟨h1, h2⟩, h3⟩, Reps.tr L ds vs hr⟩
  | .sl ds, v, h => by
    obtain ⟨a, vs, e, h1, hr⟩ := h
    refine ⟨a, vs, e, ?_, Reps.tr L ds vs hr⟩
    rcases h1 with ⟨hn, ob, hs⟩ | h1
    · obtain ⟨h2, h3⟩ := L.frz a ob vs hn hs
      exact .inl ⟨h2, ob, h3⟩
    · exact .inr h1
  | .ref n, v, h => by
    obtain ⟨a, e, hr⟩ := h
    exact ⟨a, e, L.r n a hr⟩
  | .ty _, _, h => h
theorem Reps.tr (L : Tr ρ H ρ' H') : ∀ (ds : List D) (vs : List V), Reps K ρ H ds vs → Reps K ρ' H' ds vs
  | [], _, h => h
  | d :: ds, vs, h => by
    obtain ⟨v, r, e, h1, h2⟩ := h
    exact ⟨v, r, e, Rep.tr L d v h1, Reps.tr L ds r h2⟩
end
theorem EnR.tr {env : En} {σ : L2.St} (E : EnR K ρ H env σ) (L : Tr ρ H ρ' H') : EnR K ρ' H' env σ :=
  ⟨E.len, fun i d e => let ⟨v, e1, r⟩ := E.get i d e; ⟨v, e1, Rep.tr L d v r⟩⟩
theorem RepO.tr {o : O} {a : Addr} (h : RepO K ρ H o a) (L : Tr ρ H ρ' H') (e : H' a = H a) : RepO K ρ' H' o a := by
  cases o with
  | lst ds =>
    obtain ⟨vs, e1, r⟩ := h
    exact ⟨vs, e.trans e1, Reps.tr L _ _ r⟩
  | dic kvs =>
    obtain ⟨us, e1, ek, r⟩ := h
    exact ⟨us, e.trans e1, ek, Reps.tr L _ _ r⟩
/-- a new object, hidden -/
theorem Le.hide {p : Addr} {o : HO} (h : H p = none) : Le ρ H ⟨ρ.r, p :: ρ.h⟩ (upd H p o) := by
  have L := Le.new (ρ := ρ) (o := o) h
  exact ⟨⟨[], [p], by simp, by simp, fun a q => by rw [List.mem_singleton.mp q]; exact h⟩, L.keep, L.tup, L.live⟩
theorem Sim.hide {st : Store} (S : Sim K ρ st H) {p : Addr} {o : HO} (h : H p = none) : Sim K ⟨ρ.r, p :: ρ.h⟩ st (upd H p o) := by
  refine ⟨S.len, fun a q => ?_, S.inj, fun n x a e1 e2 => (S.obj n x a e1 e2).mono (Le.hide h) (upd_ne (fun q => S.fresh h (q ▸ List.mem_of_getElem? e2)))⟩
  rcases List.mem_cons.mp q with q | q
  · exact ⟨_, by rw [q]; exact upd_same⟩
  · exact (S.hid a q).imp fun o e => by rw [upd_ne (ne_of_none e h)]; exact e
/-- what is hidden changes -/
theorem Tr.upd {p : Addr} {u : List V} {o : HO} (hp : p ∈ ρ.h) (e : H p = some (.lst u)) : Tr ρ H ρ (upd H p o) := by
  refine ⟨fun _ _ q => q, fun a xs q => ?_, fun a vs h1 h2 q => ?_, fun a ob vs h1 q => ?_⟩
  · rcases q with q | ⟨ob, q⟩
    · exact .inl (by rw [upd_ne (fun z => by rw [z, e] at q; cases q)]; exact q)
    · exact .inr ⟨ob, by rw [upd_ne (fun z => by rw [z, e] at q; cases q)]; exact q⟩
  · exact ⟨h1, h2, by rw [upd_ne (fun z => h2 (by rw [z]; exact hp))]; exact q⟩
  · exact ⟨h1, by rw [upd_ne (fun z => by rw [z, e] at q; cases q)]; exact q⟩
theorem Sim.updH {st : Store} (S : Sim K ρ st H) {p : Addr} {u : List V} {o : HO} (hp : p ∈ ρ.h) (hn : p ∉ ρ.r) (e : H p = some (.lst u)) : Sim K ρ st (upd H p o) := by
  refine ⟨S.len, fun a q => ?_, S.inj, fun n x a e1 e2 => (S.obj n x a e1 e2).tr (Tr.upd hp e) (upd_ne (fun z => hn (z ▸ List.mem_of_getElem? e2)))⟩
  by_cases z : a = p
  · exact ⟨_, by rw [z]; exact upd_same⟩
  · exact (S.hid a q).imp fun o e => by rw [upd_ne z]; exact e
theorem Le.updN {p : Addr} {o : HO} (L : Le ρ H ρ' H') (h : H p = none) : Le ρ H ρ' (L2.upd H' p o) := by
  refine ⟨L.pre, fun a o' h1 q => by rw [upd_ne (ne_of_none q h)]; exact L.keep a o' h1 q, fun a xs q => ?_, fun a q => ?_⟩
  · have hne : a ≠ p := by
      rintro rfl
      rcases q with q | ⟨ob, q⟩
      · rw [h] at q; cases q
      · rw [h] at q; cases q
    rcases L.tup a xs q with q | ⟨ob, q⟩
    · exact .inl (by rw [upd_ne hne]; exact q)
    · exact .inr ⟨ob, by rw [upd_ne hne]; exact q⟩
  · by_cases z : a = p
    · rw [z, upd_same] at q; cases q
    · rw [upd_ne z] at q
      exact L.live a q
/-- nothing hidden any more -/
theorem Tr.show {h : List Addr} (hh : ∀ a ∈ h, a ∈ ρ.h) : Tr ρ H ⟨ρ.r, h⟩ H :=
  ⟨fun _ _ q => q, fun _ _ q => q, fun _ _ h1 h2 q => ⟨h1, fun z => h2 (hh _ z), q⟩, fun _ _ _ h1 q => ⟨h1, q⟩⟩
theorem Sim.show {st : Store} (S : Sim K ρ st H) {h : List Addr} (hh : ∀ a ∈ h, a ∈ ρ.h) : Sim K ⟨ρ.r, h⟩ st H :=
  ⟨S.len, fun a q => S.hid a (hh a q), S.inj, fun n x a e1 e2 => (S.obj n x a e1 e2).tr (Tr.show hh) rfl⟩
theorem Le.show {ρ₀ : Wn} {H₀ : Hp} (L : Le ρ₀ H₀ ρ H) : Le ρ₀ H₀ ⟨ρ.r, ρ₀.h⟩ H ∧ ∀ a ∈ ρ₀.h, a ∈ ρ.h := by
  obtain ⟨m, hs, rfl, h1, h2⟩ := L.pre
  exact ⟨⟨⟨m, [], rfl, h1, by simp⟩, L.keep, L.tup, L.live⟩, fun a q => List.mem_append_right _ q⟩
end

/-! ### comprehensions -/
def wipeE (env : En) : List Nat → En
  | [] => env
  | v :: vs => (wipeE env vs).set v none
theorem EnR.wipe {K : PySem.W.Frag} {ρ : Wn} {H : Hp} {env : En} {σ : L2.St} (E : EnR K ρ H env σ) : ∀ vs : List Nat, EnR K ρ H (wipeE env vs) (L2.wipe σ vs)
  | [] => E
  | v :: vs => by
    have E' := EnR.wipe E vs
    refine ⟨by show ((wipeE env vs).set v none).length = ((L2.wipe σ vs).set v none).length; rw [List.length_set, List.length_set]; exact E'.len, fun i d e => ?_⟩
    have e : ((wipeE env vs).set v none)[i]? = some (some d) := e
    by_cases h : v = i
    · subst h
      have hl : v < (wipeE env vs).length := by
        have q := (List.getElem?_eq_some_iff.mp e).1
        simpa using q
      rw [List.getElem?_set_self hl] at e
      cases e
    · rw [List.getElem?_set_ne h] at e
      obtain ⟨w, e1, r1⟩ := E'.get i d e
      exact ⟨w, by show ((L2.wipe σ vs).set v none)[i]? = _; rw [List.getElem?_set_ne h]; exact e1, r1⟩
open Classical in
noncomputable def compN (g : Gd) (T : FG) (C : FT) (F : FE) : List D → En → Store → Option (List D × Store)
  | [], _, st => if g st then some ([], st) else none
  | d :: ds, env, st => if g st then match T d env with
      | some e1 => match C e1 st with
        | some (true, st1) => match F e1 st1 with
          | some (y, st2) => match compN g T C F ds env st2 with
            | some (ys, st3) => some (y :: ys, st3)
            | none => none
          | none => none
        | some (false, st1) => compN g T C F ds env st1
        | none => none
      | none => none
    else none
noncomputable def fComp (vs : List Nat) (I : FI) (T : FG) (C : FT) (F : FE) : FE := fun env st => match I env st with
  | some ((ds, g), st1) => if ds.length ≤ 16777216 then match compN g T C F ds (wipeE env vs) st1 with
      | some (ys, st2) => some (.tl ys, st2)
      | none => none
    else none
  | none => none
noncomputable def fCompS (vs : List Nat) (I : FI) (T : FG) (C : FT) (F : FE) : FE := fun env st => match I env st with
  | some ((ds, g), st1) => if ds.length ≤ 16777216 then match compN g T C F ds (wipeE env vs) st1 with
      | some (ys, st2) => some (.ref st2.length, st2 ++ [.lst ys])
      | none => none
    else none
  | none => none
def tYesF : FT := fun _ st => some (true, st)
section
variable {X : Cx} {pos : Pos}
theorem compN_g {g : Gd} {T : FG} {C : FT} {F : FE} {ds : List D} {env : En} {st : Store} {r : List D × Store} (h : compN g T C F ds env st = some r) : g st := by
  cases ds <;> (unfold compN at h; split at h)
  · assumption
  · cases h
  · assumption
  · cases h
/-- the loop of a comprehension -/
theorem comp_core {K : PySem.W.Frag} {ρ1 : Wn} {H1 : Hp} {J : It} {ds : List D} {g : Gd} {vs : List Nat} {T : FG} {C : FT} {F : FE} {σ : L2.St} {env : En} {st1 stF : Store} {ys : List D} {Dd : Addr} {Qd : Hp → Prop}
    (S1 : Sim K ρ1 st1 H1) (E1 : EnR K ρ1 H1 env σ) (src : Src K ρ1 H1 J ds g) (hl : ds.length ≤ 16777216) (e : compN g T C F ds (wipeE env vs) st1 = some (ys, stF)) (hD : H1 Dd = none)
    (q : ∀ ρ2 H2 ws, Le ρ1 H1 ρ2 H2 → Dd ∈ ρ2.h → Dd ∉ ρ2.r → Sim K ρ2 stF H2 → Reps K ρ2 H2 ys ws → H2 Dd = some (.lst ws) → Qd H2) :
    ∃ W : Nat → Nat → Hp → Prop, (∃ m, W 0 m (upd H1 Dd (.lst []))) ∧ ∀ i m H, W i m H →
      (J.stop i H ∧ Qd H) ∨ (J.go i H ∧ ∃ Nx : Hp → Prop, (∀ H', Nx H' → ∃ m', m' < m ∧ W (i + 1) m' H') ∧ ∀ x H', J.yld i H x H' → tG K vs T x (L2.wipe σ vs) H' fun σ2 H2 => L2.wipe σ2 vs = L2.wipe σ vs ∧ tT K C σ2 H2 fun b H3 =>
        if b = true then tE K F σ2 H3 fun y H4 => ∃ acc, H4 Dd = some (.lst acc) ∧ acc.length < sizeLine ∧ Nx (upd H4 Dd (.lst (acc ++ [y]))) else Nx H3) := by
  obtain ⟨G, Y, w, hG, hY⟩ := src
  have wipe2 : ∀ (τ : L2.St) (us : List Nat), (∀ i ∈ us, i ∈ us) → L2.wipe (L2.wipe τ us) us = L2.wipe τ us := by
    intro τ us _
    have key : ∀ (us ws : List Nat), (∀ i ∈ ws, i ∈ us) → L2.wipe (L2.wipe τ us) ws = L2.wipe τ us := by
      intro us ws
      induction ws with
      | nil => intro _; rfl
      | cons v ws ih =>
        intro hh
        show (L2.wipe (L2.wipe τ us) ws).set v none = L2.wipe τ us
        rw [ih fun i hi => hh i (List.mem_cons_of_mem _ hi)]
        have hv := hh v List.mem_cons_self
        have : ∀ (us : List Nat), v ∈ us → (L2.wipe τ us).set v none = L2.wipe τ us := by
          intro us
          induction us with
          | nil => intro h; cases h
          | cons u us ih2 =>
            intro h
            show ((L2.wipe τ us).set u none).set v none = (L2.wipe τ us).set u none
            by_cases z : u = v
            · subst z; rw [List.set_set]
            · rcases List.mem_cons.mp h with h | h
              · exact absurd h.symm z
              · rw [List.set_comm _ _ z, ih2 h]
        exact this us hv
    exact key us us fun _ h => h
  refine lc_it w (Pv := fun i H => ∃ ρ2 st2 acc accV rest, Le ρ1 H1 ρ2 H ∧ Dd ∈ ρ2.h ∧ Dd ∉ ρ2.r ∧ Sim K ρ2 st2 H ∧ EnR K ρ2 H (wipeE env vs) (L2.wipe σ vs) ∧ H Dd = some (.lst accV) ∧ Reps K ρ2 H acc accV ∧ acc.length ≤ i ∧
      compN g T C F (ds.drop i) (wipeE env vs) st2 = some (rest, stF) ∧ acc ++ rest = ys) ?_ ?_ ?_ ?_
  · exact ⟨⟨ρ1.r, Dd :: ρ1.h⟩, st1, [], [], ys, Le.hide hD, List.mem_cons_self, S1.fresh hD, S1.hide hD, (E1.wipe vs).mono (Le.hide hD), upd_same, rfl, Nat.zero_le _, e, rfl⟩
  · rintro i H _ ⟨ρ2, st2, acc, accV, rest, L2', hDh, hDr, S2, E2, eD, R2, hal, h2, _⟩
    exact hG ρ2 H st2 L2' S2 (compN_g h2)
  · rintro i x H H3 hi ⟨ρ2, st2, acc, accV, rest, L2', hDh, hDr, S2, E2, eD, R2, hal, h2, hys⟩ y
    obtain ⟨d, hd, L3, S3, R3⟩ := hY i ρ2 H st2 x H3 hi L2' S2 (compN_g h2) y
    have hdr : ds.drop i = d :: ds.drop (i + 1) := by
      obtain ⟨hlt, rfl⟩ := List.getElem?_eq_some_iff.mp hd
      exact List.drop_eq_getElem_cons hlt
    have g2 := compN_g h2
    rw [hdr] at h2
    unfold compN at h2
    rw [if_pos g2] at h2
    split at h2
    · rename_i e3 ht
      refine ⟨ρ2, wipeE env vs, st2, d, e3, S3, E2.mono L3, R3, ht, fun σ3 E3 hw => ?_⟩
      have hw' : L2.wipe σ3 vs = L2.wipe σ vs := by rw [hw, wipe2 σ vs fun _ h => h]
      refine ⟨hw', ?_⟩
      have eD3 : H3 Dd = some (.lst accV) := L3.keep _ _ hDr eD
      split at h2
      · rename_i st4 hc
        refine tT_bind S3 E3 hc fun ρ4 H4 L4 S4 E4 => ?_
        rw [if_pos rfl]
        have eD4 : H4 Dd = some (.lst accV) := L4.keep _ _ hDr eD3
        have hDr4 := L4.notin hDr eD3
        split at h2
        · rename_i y st5 hf
          refine tE_bind S4 E4 hf fun ρ5 H5 yv L5 S5 R5 E5 => ?_
          have eD5 : H5 Dd = some (.lst accV) := L5.keep _ _ hDr4 eD4
          have hDr5 := L5.notin hDr4 eD4
          split at h2
          · rename_i ys3 st6 hr
            cases h2
            refine ⟨accV, eD5, by rw [← R2.length, sizeLine_eq]; omega, ?_⟩
            have L25 := (L3.trans L4).trans L5
            have hDh5 : Dd ∈ ρ5.h := by
              obtain ⟨m, hs, rfl, _⟩ := L25.pre
              exact List.mem_append_right _ hDh
            refine ⟨ρ5, st5, acc ++ [y], accV ++ [yv], ys3, (L2'.trans L25).updN hD, hDh5, hDr5, S5.updH hDh5 hDr5 eD5, (E2.mono L25).tr (Tr.upd hDh5 eD5), upd_same, ?_, ?_, hr, ?_⟩
            · exact Reps.tr (Tr.upd hDh5 eD5) _ _ ((Reps.mono L25 _ _ R2).snoc R5)
            · rw [List.length_append]; simp; omega
            · rw [List.append_assoc]; exact hys
          · cases h2
        · cases h2
      · rename_i st4 hc
        refine tT_bind S3 E3 hc fun ρ4 H4 L4 S4 E4 => ?_
        rw [if_neg (by decide)]
        have L24 := L3.trans L4
        refine ⟨ρ4, st4, acc, accV, rest, L2'.trans L24, ?_, L4.notin hDr eD3, S4, E2.mono L24, L4.keep _ _ hDr eD3, Reps.mono L24 _ _ R2, by omega, h2, hys⟩
        obtain ⟨m, hs, rfl, _⟩ := L24.pre
        exact List.mem_append_right _ hDh
      · cases h2
    · cases h2
  · rintro H ⟨ρ2, st2, acc, accV, rest, L2', hDh, hDr, S2, E2, eD, R2, hal, h2, hys⟩
    rw [List.drop_length] at h2
    unfold compN at h2
    split at h2
    · cases h2
      rw [List.append_nil] at hys
      subst hys
      exact q ρ2 H accV L2' hDh hDr S2 R2 eD
    · cases h2
def ptsConv {e : List Expr} {t t' : TT} (h : PTs X e t) (c : ∀ σ H Q, t' σ H Q → t σ H Q) : PTs X e t' := ⟨fun pins s σ H Q I q => h.run pins s σ H Q I (c _ _ _ q)⟩
theorem c_nil : PTs X [] (tT X.K tYesF) := by
  refine ptsConv pts_nil fun σ H Q h => ?_
  obtain ⟨ρ, env, st, b, st', S, E, e, p⟩ := h
  cases e
  exact p ρ H Le.refl S
theorem c_one {c : Expr} {C : FT} (h : PT X c (tT X.K C)) : PTs X [c] (tT X.K C) := pts_one h
theorem comp_conv {K : PySem.W.Frag} {vs : List Nat} {I : FI} {T : FG} {C : FT} {F : FE} (σ : L2.St) (H : Hp) (Q : VK) (h : tE K (fComp vs I T C F) σ H Q) : tLc (tI K I) (tG K vs T) (tT K C) (tE K F) vs σ H Q := by
  obtain ⟨ρ, env, st, d, st', S, E, e, p⟩ := h
  unfold fComp at e
  split at e
  · rename_i ds g st1 e1
    split at e
    · rename_i hl
      split at e
      · rename_i ys st2 e2
        cases e
        refine ⟨ρ, env, st, ds, g, st1, S, E, e1, compN_g e2, fun ρ1 H1 J L1 S1 src => ?_⟩
        intro Dd hD
        refine comp_core S1 (E.mono L1) src hl e2 hD fun ρ2 H2 ws L2' hDh hDr S2 R2 eD => ?_
        obtain ⟨L3, hh⟩ := L2'.show
        exact p _ H2 _ (L1.trans L3) (S2.show hh) ⟨Dd, ws, rfl, ⟨⟨hDr, S1.freshH hD⟩, eD⟩, Reps.tr (Tr.show hh) _ _ R2⟩
      · cases e
    · cases e
  · cases e
theorem comp_convS {K : PySem.W.Frag} {vs : List Nat} {I : FI} {T : FG} {C : FT} {F : FE} (σ : L2.St) (H : Hp) (Q : VK) (h : tE K (fCompS vs I T C F) σ H Q) : tLc (tI K I) (tG K vs T) (tT K C) (tE K F) vs σ H Q := by
  obtain ⟨ρ, env, st, d, st', S, E, e, p⟩ := h
  unfold fCompS at e
  split at e
  · rename_i ds g st1 e1
    split at e
    · rename_i hl
      split at e
      · rename_i ys st2 e2
        cases e
        refine ⟨ρ, env, st, ds, g, st1, S, E, e1, compN_g e2, fun ρ1 H1 J L1 S1 src => ?_⟩
        intro Dd hD
        refine comp_core S1 (E.mono L1) src hl e2 hD fun ρ2 H2 ws L2' hDh hDr S2 R2 eD => ?_
        obtain ⟨m, hs, rfl, hm, hh⟩ := L2'.pre
        have hl2 : (ρ1.r ++ m).length = st2.length := S2.len
        have T2 : Tr ⟨ρ1.r ++ m, hs ++ ρ1.h⟩ H2 ⟨ρ1.r ++ m ++ [Dd], ρ1.h⟩ H2 := by
          refine ⟨fun n a q => ?_, fun _ _ q => q, fun a vs h1 h2 q => ⟨fun z => ?_, fun z => h2 (List.mem_append_right _ z), q⟩, fun a ob vs h1 q => ⟨fun z => ?_, q⟩⟩
          · rw [List.getElem?_append_left (List.getElem?_eq_some_iff.mp q).1]; exact q
          · rcases List.mem_append.mp z with z | z
            · exact h1 z
            · rw [List.mem_singleton.mp z] at h2; exact h2 hDh
          · rcases List.mem_append.mp z with z | z
            · exact h1 z
            · rw [List.mem_singleton.mp z, eD] at q; cases q
        have L3 : Le ρ1 H1 ⟨ρ1.r ++ m ++ [Dd], ρ1.h⟩ H2 := by
          refine ⟨⟨m ++ [Dd], [], by simp, fun a q => ?_, by simp⟩, L2'.keep, L2'.tup, L2'.live⟩
          rcases List.mem_append.mp q with q | q
          · exact hm a q
          · rw [List.mem_singleton.mp q]; exact hD
        refine p _ H2 _ (L1.trans L3) ⟨by simp only [List.length_append, List.length_singleton] at hl2 ⊢; omega, fun a q => S2.hid a (List.mem_append_right _ q), fun i j a q1 q2 => ?_, fun n x a q1 q2 => ?_⟩ ⟨Dd, rfl, ?_⟩
        · have hDr : Dd ∉ ρ1.r ++ m := hDr
          have key : ∀ (i : Nat), (ρ1.r ++ m ++ [Dd])[i]? = some a → ((ρ1.r ++ m)[i]? = some a) ∨ (i = (ρ1.r ++ m).length ∧ a = Dd) := by
            intro i q
            rcases Nat.lt_or_ge i (ρ1.r ++ m).length with hi | hi
            · rw [List.getElem?_append_left hi] at q; exact .inl q
            · rw [List.getElem?_append_right hi] at q
              have h1 := (List.getElem?_eq_some_iff.mp q).1
              have h2 := List.mem_of_getElem? q
              simp only [List.length_singleton] at h1
              exact .inr ⟨by omega, by simpa using h2⟩
          rcases key i q1 with q1 | ⟨q1, z1⟩ <;> rcases key j q2 with q2 | ⟨q2, z2⟩
          · exact S2.inj i j a q1 q2
          · rw [z2] at q1; exact absurd (List.mem_of_getElem? q1) hDr
          · rw [z1] at q2; exact absurd (List.mem_of_getElem? q2) hDr
          · omega
        · rcases Nat.lt_or_ge n (ρ1.r ++ m).length with hi | hi
          · have q2 : (ρ1.r ++ m ++ [Dd])[n]? = some a := q2
            rw [List.getElem?_append_left hi] at q2
            rw [List.getElem?_append_left (by omega)] at q1
            exact (S2.obj n x a q1 q2).tr T2 rfl
          · have q2 : (ρ1.r ++ m ++ [Dd])[n]? = some a := q2
            rw [List.getElem?_append_right hi] at q2
            rw [List.getElem?_append_right (by omega)] at q1
            have z1 := List.mem_of_getElem? q1
            have z2 := List.mem_of_getElem? q2
            simp at z1 z2
            subst z1 z2
            exact ⟨ws, eD, Reps.tr T2 _ _ R2⟩
        · show (ρ1.r ++ m ++ [Dd])[st2.length]? = some Dd
          rw [← hl2, List.getElem?_append_right (Nat.le_refl _)]
          simp
      · cases e
    · cases e
  · cases e
theorem e_comp {elt tg iter : Expr} {ifs : List Expr} {scope : Scope} {own : List (Str × Nat)} {I : FI} {T : FG} {C : FT} {F : FE} (hc : X.calm = true) (hN : X.N.Nodup) (hi : PI X tg iter (tI X.K I)) (ok : BlkOk X.N X.env.scope scope own)
    (hg : ∀ (s : Shared) (H : Hp) (C' : Addr) (cl : List (Str × Addr)) (fp : List Addr), PG (X.blk s H scope (compEnvC scope cl C' X.env) fp) tg (tG X.K (own.map (·.2)) T)) (ht : ∀ (s : Shared) (H : Hp) (C' : Addr) (cl : List (Str × Addr)) (fp : List Addr), PTs (X.blk s H scope (compEnvC scope cl C' X.env) fp) ifs (tT X.K C))
    (he : ∀ (s : Shared) (H : Hp) (C' : Addr) (cl : List (Str × Addr)) (fp : List Addr), PE (X.blk s H scope (compEnvC scope cl C' X.env) fp) elt (tE X.K F)) (hs : ∀ x, foldedSetIterable iter X.env x = pure x := by intro _; rfl) :
    PE X (.ListComp elt [⟨tg, iter, ifs, 0⟩] scope pos) (tE X.K (fComp (own.map (·.2)) I T C F)) := peConv (pe_lc hc hN hi ok hg ht he hs) comp_conv
theorem e_compS {elt tg iter : Expr} {ifs : List Expr} {scope : Scope} {own : List (Str × Nat)} {I : FI} {T : FG} {C : FT} {F : FE} (hc : X.calm = true) (hN : X.N.Nodup) (hi : PI X tg iter (tI X.K I)) (ok : BlkOk X.N X.env.scope scope own)
    (hg : ∀ (s : Shared) (H : Hp) (C' : Addr) (cl : List (Str × Addr)) (fp : List Addr), PG (X.blk s H scope (compEnvC scope cl C' X.env) fp) tg (tG X.K (own.map (·.2)) T)) (ht : ∀ (s : Shared) (H : Hp) (C' : Addr) (cl : List (Str × Addr)) (fp : List Addr), PTs (X.blk s H scope (compEnvC scope cl C' X.env) fp) ifs (tT X.K C))
    (he : ∀ (s : Shared) (H : Hp) (C' : Addr) (cl : List (Str × Addr)) (fp : List Addr), PE (X.blk s H scope (compEnvC scope cl C' X.env) fp) elt (tE X.K F)) (hs : ∀ x, foldedSetIterable iter X.env x = pure x := by intro _; rfl) :
    PE X (.ListComp elt [⟨tg, iter, ifs, 0⟩] scope pos) (tE X.K (fCompS (own.map (·.2)) I T C F)) := peConv (pe_lc hc hN hi ok hg ht he hs) comp_convS
theorem s_setComp {i : Nat} {y : Str} {py : Pos} {elt tg iter : Expr} {ifs : List Expr} {scope : Scope} {own : List (Str × Nat)} {lpos : Pos} {I : FI} {T : FG} {C : FT} {F : FE} (hc : X.calm = true) (hN : X.N.Nodup) (hy : X.N[i]? = some y) (hyl : X.env.scope.names.lookup y = some .local)
    (hsw : swapsWith (.ListComp elt [⟨tg, iter, ifs, 0⟩] scope lpos) (some (.Name y py)) pos.line X.env = pure true) (hi : PI X tg iter (tI X.K I)) (ok : BlkOk X.N X.env.scope scope own)
    (hg : ∀ (s : Shared) (H : Hp) (C' : Addr) (cl : List (Str × Addr)) (fp : List Addr), PG (X.blk s H scope (compEnvC scope cl C' X.env) fp) tg (tG X.K (own.map (·.2)) T)) (ht : ∀ (s : Shared) (H : Hp) (C' : Addr) (cl : List (Str × Addr)) (fp : List Addr), PTs (X.blk s H scope (compEnvC scope cl C' X.env) fp) ifs (tT X.K C))
    (he : ∀ (s : Shared) (H : Hp) (C' : Addr) (cl : List (Str × Addr)) (fp : List Addr), PE (X.blk s H scope (compEnvC scope cl C' X.env) fp) elt (tE X.K F)) (hs : ∀ x, foldedSetIterable iter X.env x = pure x := by intro _; rfl) :
    PS X (.Assign [.Name y py] (.ListComp elt [⟨tg, iter, ifs, 0⟩] scope lpos) pos) (tS X.K (sSet i (fComp (own.map (·.2)) I T C F))) := by
  refine psConv (ps_setLc hc hN hy hyl hsw hi ok hg ht he hs) fun Dn σ H h => ?_
  have h2 := set_conv Dn σ H h
  exact comp_conv σ H _ h2
theorem s_setCompS {i : Nat} {y : Str} {py : Pos} {elt tg iter : Expr} {ifs : List Expr} {scope : Scope} {own : List (Str × Nat)} {lpos : Pos} {I : FI} {T : FG} {C : FT} {F : FE} (hc : X.calm = true) (hN : X.N.Nodup) (hy : X.N[i]? = some y) (hyl : X.env.scope.names.lookup y = some .local)
    (hsw : swapsWith (.ListComp elt [⟨tg, iter, ifs, 0⟩] scope lpos) (some (.Name y py)) pos.line X.env = pure true) (hi : PI X tg iter (tI X.K I)) (ok : BlkOk X.N X.env.scope scope own)
    (hg : ∀ (s : Shared) (H : Hp) (C' : Addr) (cl : List (Str × Addr)) (fp : List Addr), PG (X.blk s H scope (compEnvC scope cl C' X.env) fp) tg (tG X.K (own.map (·.2)) T)) (ht : ∀ (s : Shared) (H : Hp) (C' : Addr) (cl : List (Str × Addr)) (fp : List Addr), PTs (X.blk s H scope (compEnvC scope cl C' X.env) fp) ifs (tT X.K C))
    (he : ∀ (s : Shared) (H : Hp) (C' : Addr) (cl : List (Str × Addr)) (fp : List Addr), PE (X.blk s H scope (compEnvC scope cl C' X.env) fp) elt (tE X.K F)) (hs : ∀ x, foldedSetIterable iter X.env x = pure x := by intro _; rfl) :
    PS X (.Assign [.Name y py] (.ListComp elt [⟨tg, iter, ifs, 0⟩] scope lpos) pos) (tS X.K (sSet i (fCompS (own.map (·.2)) I T C F))) := by
  refine psConv (ps_setLc hc hN hy hyl hsw hi ok hg ht he hs) fun Dn σ H h => ?_
  have h2 := set_conv Dn σ H h
  exact comp_convS σ H _ h2
end
end Vm
namespace Vm
open PySem PySem.Spec PyProof.Rows L2

/-! ### built-in functions by values -/
abbrev BF := List D → Store → Option (D × Store)
def CallD (K : PySem.W.Frag) (f : BF) (r : List V → Hp → VK → Prop) : Prop := ∀ (ρ : Wn) (H : Hp) (st : Store) (ds : List D) (vs : List V) (d : D) (st' : Store) (Q : VK), Sim K ρ st H → Reps K ρ H ds vs → f ds st = some (d, st') → Post K ρ H st' d Q → r vs H Q
structure CallOk (X : Cx) (u : Value) (f : BF) : Prop where
  ok : ∃ r, CallR X u r ∧ CallD X.K f r
def fBlt (f : BF) (A : FA) : FE := fun env st => match A env st with
  | some (ds, st1) => f ds st1
  | none => none
section
variable {X : Cx} {pos : Pos}
theorem blt_conv {K : PySem.W.Frag} {f : BF} {r : List V → Hp → VK → Prop} {A : FA} (hd : CallD K f r) (σ : L2.St) (H : Hp) (Q : VK) (h : tE K (fBlt f A) σ H Q) : tCB r (tA K A) σ H Q := by
  obtain ⟨ρ, env, st, d, st', S, E, e, p⟩ := h
  unfold fBlt at e
  split at e
  · rename_i ds st1 e1
    exact ⟨ρ, env, st, ds, st1, S, E, e1, fun ρ1 H1 vs L1 S1 R1 => hd ρ1 H1 st1 ds vs d st' Q S1 R1 e (p.mono L1)⟩
  · cases e
theorem e_callB {id : String} {x : Str} {p : Pos} {e : Expr} {es : List Expr} {f : BF} {A : FA} (hc : CallOk X (.builtin id) f) (hg : Gl X x) (hm : X.mg x = none) (hv : bootBuiltins x = some (.builtin id)) (ha : PA X (e :: es) (tA X.K A)) (hn : x ≠ "__name__" := by decide) (hdb : (x == ("__debug__" : Str)) = false := by decide)
    (he : starEach (e :: es) X.env = (false, eval e X.env) :: starEach es X.env := by rfl) (hpl : (backTo pos (starEach es X.env)).any (·.1) = false := by rfl) : PE X (.Call (.Name x p) (e :: es) [] pos) (tE X.K (fBlt f A)) := by
  obtain ⟨r, h1, h2⟩ := hc.ok
  exact peConv (pe_callB h1 hg hm hv ha hn hdb he hpl) (blt_conv h2)
theorem e_callTy {T : String} {x : Str} {p : Pos} {e : Expr} {es : List Expr} {f : BF} {A : FA} (hc : CallOk X (.type T) f) (hg : Gl X x) (hm : X.mg x = none) (hv : bootBuiltins x = some (.type T)) (ha : PA X (e :: es) (tA X.K A)) (hn : x ≠ "__name__" := by decide) (hdb : (x == ("__debug__" : Str)) = false := by decide)
    (he : starEach (e :: es) X.env = (false, eval e X.env) :: starEach es X.env := by rfl) (hpl : (backTo pos (starEach es X.env)).any (·.1) = false := by rfl) : PE X (.Call (.Name x p) (e :: es) [] pos) (tE X.K (fBlt f A)) := by
  obtain ⟨r, h1, h2⟩ := hc.ok
  exact peConv (pe_callTy h1 hg hm hv ha hn hdb he hpl) (blt_conv h2)
theorem reps1 {K : PySem.W.Frag} {ρ : Wn} {H : Hp} {d : D} {vs : List V} (r : Reps K ρ H [d] vs) : ∃ v, vs = [v] ∧ Rep K ρ H d v := by
  obtain ⟨v, w, rfl, r1, r2⟩ := r
  exact ⟨v, by rw [show w = [] from r2], r1⟩
theorem reps2 {K : PySem.W.Frag} {ρ : Wn} {H : Hp} {d e : D} {vs : List V} (r : Reps K ρ H [d, e] vs) : ∃ v w, vs = [v, w] ∧ Rep K ρ H d v ∧ Rep K ρ H e w := by
  obtain ⟨v, w, rfl, r1, r2⟩ := r
  obtain ⟨u, rfl, r3⟩ := reps1 r2
  exact ⟨v, u, rfl, r1, r3⟩
/-- len -/
def lenOf (st : Store) : D → Option Nat
  | .str y => if y.length ≤ 16777216 then some y.length else none
  | .tup xs => some xs.length
  | .tl xs => some xs.length
  | .sl xs => some xs.length
  | .ref n => match st[n]? with
    | some (.lst xs) => some xs.length
    | some (.dic kvs) => some kvs.length
    | _ => none
  | _ => none
def bLen : BF
  | [d], st => match lenOf st d with
    | some n => some (.int n, st)
    | none => none
  | _, _ => none
theorem callR_or {u : Value} {r r' : List V → Hp → VK → Prop} (h : CallR X u r) (h' : CallR X u r') : CallR X u (fun vs H Q => r vs H Q ∨ r' vs H Q) := by
  intro pins s σ H xs us Q I rv q
  rcases q with q | q
  · exact h pins s σ H xs us Q I rv q
  · exact h' pins s σ H xs us Q I rv q
theorem b_len : CallOk X (.builtin "len") bLen := ⟨_, callR_or call_len call_lenD, by
  intro ρ H st ds vs d st' Q S R e p
  unfold bLen at e
  split at e
  · rename_i a
    split at e
    · rename_i n e1
      cases e
      obtain ⟨v, rfl, r⟩ := reps1 R
      have q := p ρ H _ Le.refl S rfl
      have seqL : ∀ {b : Addr} {ws : List V} {xs : List D}, SqL X.K H b ws → Reps X.K ρ H xs ws → xs.length = n → LenV X.K (.ref b) H n := fun {b ws xs} hs rr hn => .inl ⟨ws, hs, by rw [← rr.length, hn]⟩
      unfold lenOf at e1
      split at e1
      · split at e1
        · rename_i hy
          cases e1
          exact .inl ⟨v, _, rfl, by rw [show v = .str _ from r]; exact ⟨by rw [sizeLine_eq]; exact hy, rfl⟩, q⟩
        · cases e1
      · obtain ⟨b, ws, rfl, hs, rr⟩ := r
        cases e1
        exact .inl ⟨_, _, rfl, .inr ⟨ws, hs, rr.length⟩, q⟩
      · rename_i xs
        obtain ⟨b, ws, rfl, hs, rr⟩ := lsqOf_rep (ds := xs) S r rfl
        cases e1
        exact .inl ⟨_, _, rfl, seqL hs rr rfl, q⟩
      · rename_i xs
        obtain ⟨b, ws, rfl, hs, rr⟩ := lsqOf_rep (ds := xs) S r rfl
        cases e1
        exact .inl ⟨_, _, rfl, seqL hs rr rfl, q⟩
      · split at e1
        · rename_i n' _ xs e2
          cases e1
          obtain ⟨b, rfl, hb⟩ := r
          obtain ⟨ws, hs, rr⟩ := S.obj n' _ b e2 hb
          exact .inl ⟨_, _, rfl, seqL (SqL.of hs) rr rfl, q⟩
        · rename_i n' _ kvs e2
          cases e1
          obtain ⟨b, rfl, hb⟩ := r
          obtain ⟨us, hs, ek, rr⟩ := S.obj n' _ b e2 hb
          have hl := congrArg List.length ek
          simp only [List.length_map] at hl
          exact .inr ⟨b, us, rfl, hs, by rw [hl]; exact q⟩
        · cases e1
      · cases e1
    · cases e
  · cases e⟩
def bAbs : BF
  | [.int i], st => some (.int (if i < 0 then -i else i), st)
  | _, _ => none
theorem b_abs : CallOk X (.builtin "abs") bAbs := ⟨_, call_abs, by
  intro ρ H st ds vs d st' Q S R e p
  unfold bAbs at e
  split at e
  · cases e
    obtain ⟨v, rfl, r⟩ := reps1 R
    exact ⟨_, by rw [show v = .int _ from r], p ρ H _ Le.refl S rfl⟩
  · cases e⟩
def bMax : BF
  | [.int i, .int j], st => some (.int (if j > i then j else i), st)
  | _, _ => none
def bMin : BF
  | [.int i, .int j], st => some (.int (if j < i then j else i), st)
  | _, _ => none
theorem b_max (hc : X.calm = true) : CallOk X (.builtin "max") bMax := ⟨_, call_max2 hc, by
  intro ρ H st ds vs d st' Q S R e p
  unfold bMax at e
  split at e
  · cases e
    obtain ⟨v, w, rfl, r, r'⟩ := reps2 R
    exact ⟨_, _, by rw [show v = .int _ from r, show w = .int _ from r'], p ρ H _ Le.refl S rfl⟩
  · cases e⟩
theorem b_min (hc : X.calm = true) : CallOk X (.builtin "min") bMin := ⟨_, call_min2 hc, by
  intro ρ H st ds vs d st' Q S R e p
  unfold bMin at e
  split at e
  · cases e
    obtain ⟨v, w, rfl, r, r'⟩ := reps2 R
    exact ⟨_, _, by rw [show v = .int _ from r, show w = .int _ from r'], p ρ H _ Le.refl S rfl⟩
  · cases e⟩
/-- all, any of truths -/
def boolsOf : List D → Option (List Bool)
  | [] => some []
  | .bl b :: r => match boolsOf r with
    | some bs => some (b :: bs)
    | none => none
  | _ :: _ => none
theorem boolsOf_rep {K : PySem.W.Frag} {ρ : Wn} {H : Hp} : ∀ {ds : List D} {vs : List V} {bs : List Bool}, Reps K ρ H ds vs → boolsOf ds = some bs → vs = bs.map V.bl
  | [], vs, bs, r, e => by cases e; exact r
  | d :: ds, vs, bs, r, e => by
    obtain ⟨v, w, rfl, r1, r2⟩ := r
    unfold boolsOf at e
    split at e
    · rename_i h; cases h
    · rename_i b ds' h
      cases h
      split at e
      · rename_i bs' e1
        cases e
        rw [show v = .bl b from r1, boolsOf_rep r2 e1]
        rfl
      · cases e
    · cases e
def bAll : BF
  | [d], st => match lsqOf st d with
    | some ds => match boolsOf ds with
      | some bs => some (.bl (bs.all id), st)
      | none => none
    | none => none
  | _, _ => none
def bAny : BF
  | [d], st => match lsqOf st d with
    | some ds => match boolsOf ds with
      | some bs => some (.bl (bs.any id), st)
      | none => none
    | none => none
  | _, _ => none
theorem b_all (hc : X.calm = true) : CallOk X (.builtin "all") bAll := ⟨_, cr_all hc, by
  intro ρ H st ds vs d st' Q S R e p
  unfold bAll at e
  split at e
  · split at e
    · rename_i xs e1
      split at e
      · rename_i bs e2
        cases e
        obtain ⟨v, rfl, r⟩ := reps1 R
        obtain ⟨a, ws, rfl, hs, rr⟩ := lsqOf_rep S r e1
        exact ⟨a, bs, rfl, by rw [← boolsOf_rep rr e2]; exact hs, p ρ H _ Le.refl S rfl⟩
      · cases e
    · cases e
  · cases e⟩
theorem b_any (hc : X.calm = true) : CallOk X (.builtin "any") bAny := ⟨_, cr_any hc, by
  intro ρ H st ds vs d st' Q S R e p
  unfold bAny at e
  split at e
  · split at e
    · rename_i xs e1
      split at e
      · rename_i bs e2
        cases e
        obtain ⟨v, rfl, r⟩ := reps1 R
        obtain ⟨a, ws, rfl, hs, rr⟩ := lsqOf_rep S r e1
        exact ⟨a, bs, rfl, by rw [← boolsOf_rep rr e2]; exact hs, p ρ H _ Le.refl S rfl⟩
      · cases e
    · cases e
  · cases e⟩
/-- tuple(x), list(x) -/
def seqOf (st : Store) : D → Option (List D)
  | .tup xs => some xs
  | d => lsqOf st d
theorem seqOf_rep {K : PySem.W.Frag} {ρ : Wn} {H : Hp} {st : Store} {d : D} {v : V} {ds : List D} (S : Sim K ρ st H) (r : Rep K ρ H d v) (e : seqOf st d = some ds) : ∃ a vs, v = .ref a ∧ (SqL K H a vs ∨ SqT K H a vs) ∧ Reps K ρ H ds vs := by
  unfold seqOf at e
  split at e
  · cases e
    obtain ⟨a, vs, rfl, hs, rr⟩ := r
    exact ⟨a, vs, rfl, .inr hs, rr⟩
  · obtain ⟨a, vs, rfl, hs, rr⟩ := lsqOf_rep S r e
    exact ⟨a, vs, rfl, .inl hs, rr⟩
def bTuple : BF
  | [d], st => match seqOf st d with
    | some ds => some (.tup ds, st)
    | none => none
  | _, _ => none
def bList : BF
  | [d], st => match seqOf st d with
    | some ds => some (.tl ds, st)
    | none => none
  | _, _ => none
def bListS : BF
  | [d], st => match seqOf st d with
    | some ds => some (.ref st.length, st ++ [.lst ds])
    | none => none
  | _, _ => none
theorem b_tuple : CallOk X (.type "tuple") bTuple := ⟨_, call_tuple_of, by
  intro ρ H st ds vs d st' Q S R e p
  unfold bTuple at e
  split at e
  · split at e
    · rename_i xs e1
      cases e
      obtain ⟨v, rfl, r⟩ := reps1 R
      obtain ⟨a, ws, rfl, hs, rr⟩ := seqOf_rep S r e1
      rcases hs with hs | hs
      · exact ⟨a, ws, rfl, .inl ⟨hs, p.newTup S rr⟩⟩
      · exact ⟨a, ws, rfl, .inr ⟨hs, p ρ H _ Le.refl S ⟨a, ws, rfl, hs, rr⟩⟩⟩
    · cases e
  · cases e⟩
theorem b_list : CallOk X (.type "list") bList := ⟨_, call_list_of, by
  intro ρ H st ds vs d st' Q S R e p
  unfold bList at e
  split at e
  · split at e
    · rename_i xs e1
      cases e
      obtain ⟨v, rfl, r⟩ := reps1 R
      obtain ⟨a, ws, rfl, hs, rr⟩ := seqOf_rep S r e1
      exact ⟨a, ws, rfl, hs, p.newTl S rr⟩
    · cases e
  · cases e⟩
theorem b_listS : CallOk X (.type "list") bListS := ⟨_, call_list_of, by
  intro ρ H st ds vs d st' Q S R e p
  unfold bListS at e
  split at e
  · split at e
    · rename_i xs e1
      cases e
      obtain ⟨v, rfl, r⟩ := reps1 R
      obtain ⟨a, ws, rfl, hs, rr⟩ := seqOf_rep S r e1
      exact ⟨a, ws, rfl, hs, p.newRef S rr⟩
    · cases e
  · cases e⟩

/-! ### isinstance -/
inductive Tag where
  | non | bl | int | str | tup | lst | dic
  deriving DecidableEq
def Tag.nm : Tag → String
  | .non => "NoneType" | .bl => "bool" | .int => "int" | .str => "str" | .tup => "tuple" | .lst => "list" | .dic => "dict"
def tagOf (st : Store) : D → Option Tag
  | .non => some .non
  | .bl _ => some .bl
  | .int _ => some .int
  | .str _ => some .str
  | .tup _ => some .tup
  | .tl _ => some .lst
  | .sl _ => some .lst
  | .ref n => match st[n]? with
    | some (.lst _) => some .lst
    | some (.dic _) => some .dic
    | _ => none
  | .ty _ => none
def isTag : Tag → Tag → Bool
  | .bl, .int => true
  | a, b => decide (a = b)
theorem kit_tag (a b : Tag) : kitB a.nm b.nm = some (isTag a b) := by
  cases a <;> cases b <;> decide +kernel
theorem tagOf_rep {K : PySem.W.Frag} {ρ : Wn} {H : Hp} {st : Store} {d : D} {v : V} {t : Tag} (S : Sim K ρ st H) (r : Rep K ρ H d v) (e : tagOf st d = some t) : TyX K H v (.type t.nm) := by
  unfold tagOf at e
  split at e
  · cases e; rw [show v = .non from r]; exact .base .non
  · cases e; rw [show v = .bl _ from r]; exact .base (.bl _)
  · cases e; rw [show v = .int _ from r]; exact .base (.int _)
  · cases e; rw [show v = .str _ from r]; exact .base (.str _)
  · cases e
    obtain ⟨a, vs, rfl, hs, rr⟩ := r
    rcases hs with (hs | ⟨ob, hs⟩) | ⟨o, its, n, h1, h2, _⟩
    · exact .base (.tup hs)
    · exact .fTuple hs
    · exact .kTuple h1 h2
  · cases e
    obtain ⟨a, vs, rfl, ⟨_, hs⟩, rr⟩ := r
    exact .base (.lst hs)
  · cases e
    obtain ⟨a, vs, rfl, hs, rr⟩ := r
    rcases hs with ⟨_, ob, hs⟩ | ⟨o, its, n, h1, h2, _⟩
    · exact .base (.frz hs)
    · exact .kList h1 h2
  · split at e
    · rename_i n _ xs e1
      cases e
      obtain ⟨a, rfl, h⟩ := r
      obtain ⟨vs, h2, rr⟩ := S.obj n _ a e1 h
      exact .base (.lst h2)
    · rename_i n _ xs e1
      cases e
      obtain ⟨a, rfl, h⟩ := r
      obtain ⟨vs, h2, _, rr⟩ := S.obj n _ a e1 h
      exact .base (.dK h2)
    · cases e
  · cases e
def fIsi (c : Tag) (F : FE) : FE := fun env st => match F env st with
  | some (d, st1) => match tagOf st1 d with
    | some t => some (.bl (isTag t c), st1)
    | none => none
  | none => none
theorem e_isi (c : Tag) {x : Str} {a : Expr} {p p2 : Pos} {F : FE} (hg : Gl X "isinstance") (hm : X.mg "isinstance" = none) (hg2 : Gl X x) (hm2 : X.mg x = none) (hb : bootBuiltins x = some (.type c.nm)) (ha : PE X a (tE X.K F)) (hn : x ≠ "__name__" := by decide) (hd : (x == ("__debug__" : Str)) = false := by decide)
    (he : starEach [a, .Name x p2] X.env = (false, eval a X.env) :: starEach [.Name x p2] X.env := by rfl) :
    PE X (.Call (.Name "isinstance" p) [a, .Name x p2] [] pos) (tE X.K (fIsi c F)) := by
  refine peConv (pe_callB call_isi hg hm boot_isinstance (a_cons ha (a_cons (e_ty hg2 hm2 hb hn hd) a_nil) he) (he := he)) fun σ H Q h => ?_
  obtain ⟨ρ, env, st, d, st', S, E, e, p⟩ := h
  unfold fIsi at e
  split at e
  · rename_i d1 st1 e1
    split at e
    · rename_i t e2
      cases e
      refine ⟨ρ, env, st, [d1, .ty c.nm], st', S, E, by simp [fCons, fNil, fCon, e1], fun ρ1 H1 vs L1 S1 R1 => ?_⟩
      obtain ⟨v, w, rfl, r1, r2⟩ := reps2 R1
      exact ⟨v, w, .type t.nm, .type c.nm, isTag t c, rfl, by rw [show w = .ty c.nm from r2]; exact .ty _, tagOf_rep S1 r1 e2, kit_ty (kit_tag t c), p ρ1 H1 _ L1 S1 rfl⟩
    · cases e
  · cases e

/-! ### methods of lists -/
theorem ty_list {K : PySem.W.Frag} {ρ : Wn} {H : Hp} {st : Store} {n : Nat} {v : V} {xs : List D} (S : Sim K ρ st H) (r : Rep K ρ H (.ref n) v) (e : st[n]? = some (.lst xs)) : tyV K "list" v H := by
  obtain ⟨a, rfl, h⟩ := r
  obtain ⟨vs, h2, _⟩ := S.obj n _ a e h
  exact .inl ⟨rfl, vs, SqL.of h2⟩
/-- o.append(e), a statement -/
def sApp (Fo F : FE) : FS := fun env st => match Fo env st with
  | some (.ref n, st1) => match st1[n]? with
    | some (.lst _) => match F env st1 with
      | some (x, st2) => match st2[n]? with
        | some (.lst xs) => if xs.length < 16777216 then some (.nx env, st2.set n (.lst (xs ++ [x]))) else none
        | _ => none
      | none => none
    | _ => none
  | _ => none
theorem s_app {o e : Expr} {Fo F : FE} {apos cpos : Pos} (ho : PE X o (tE X.K Fo)) (he : PE X e (tE X.K F))
    (hbase : attributeBase o "append" X.env (eval o X.env) = eval o X.env := by rfl)
    (hfew : ((backTo cpos (starEach [e] X.env)).all (fun x => !x.1) && (backToKw cpos (keywordEach [] X.env)).all (fun x => x.1.isSome)
      && decide ([e].length + ([] : List Keyword).length + (if ([] : List Keyword).isEmpty then 0 else 1) < 30)) = true := by rfl)
    (hline : (apos.endLine == cpos.line) = true := by rfl) (hs : starEach [e] X.env = (false, eval e X.env) :: starEach [] X.env := by rfl) (hplain : (backTo cpos (starEach [] X.env)).any (·.1) = false := by rfl)
    (hsw : swapsWith (.Call (.Attribute o "append" apos) [e] [] cpos) none pos.line X.env = pure false := by rfl) :
    PS X (.Expr (.Call (.Attribute o "append" apos) [e] [] cpos) pos) (tS X.K (sApp Fo F)) := by
  refine psConv (ps_expr (pe_bm PySem.F.plainAttrs_list PySem.F.slot_list_append PySem.F.type_list_append mt_append ho (a_cons he a_nil hs) hbase hfew hline hs hplain) hsw) fun Dn σ H h => ?_
  obtain ⟨ρ, env, st, out, st', S, E, e, p⟩ := h
  unfold sApp at e
  split at e
  · rename_i n st1 e1
    split at e
    · rename_i ys e2
      split at e
      · rename_i x st2 e3
        split at e
        · rename_i xs e4
          split at e
          · rename_i hl
            cases e
            refine tE_bind S E e1 fun ρ1 H1 v L1 S1 R1 E1 => ?_
            refine ⟨ty_list S1 R1 e2, ρ1, env, st1, [x], st2, S1, E1, by simp [fCons, fNil, e3], fun ρ2 H2 vs L2 S2 R2 => ?_⟩
            obtain ⟨w, rfl, rw'⟩ := reps1 R2
            obtain ⟨a, rfl, hn⟩ := Rep.mono L2 _ _ R1
            obtain ⟨us, h2, rr⟩ := S2.obj n _ a e4 hn
            refine ⟨a, us, w, rfl, rfl, h2, by rw [← rr.length, sizeLine_eq]; exact hl, ?_⟩
            have LW := Le.write (u' := .lst (us ++ [w])) (List.mem_of_getElem? hn) h2 (fun _ z => by cases z) (fun _ _ z => by cases z)
            exact p ρ2 _ σ ((L1.trans L2).trans LW) (S2.write hn h2 (fun _ z => by cases z) (fun _ _ z => by cases z) ⟨_, upd_same, Reps.mono LW _ _ (rr.snoc rw')⟩) ((E1.mono L2).mono LW)
          · cases e
        · cases e
      · cases e
    · cases e
  · cases e
/-- enumerate(xs), zip(xs, ys): new pairs -/
theorem src_pair {K : PySem.W.Frag} {ρ : Wn} {H : Hp} {J : It} {ds : List D} {g : Gd} {G : Hp → Prop} {xs ys : Nat → Option V} {fs : Nat → D × D} (w : Walk J ds.length G (YPair xs ys)) (hG : ∀ ρ' H' st', Le ρ H ρ' H' → Sim K ρ' st' H' → g st' → G H')
    (hd : ∀ i ρ' H' x y, i < ds.length → Le ρ H ρ' H' → xs i = some x → ys i = some y → ∃ a b, ds[i]? = some (.tup [a, b]) ∧ Rep K ρ' H' a x ∧ Rep K ρ' H' b y) : Src K ρ H J ds g := by
  refine ⟨G, _, w, hG, fun i ρ' H' st' v H'' hi L S q y => ?_⟩
  obtain ⟨T, x, z, rfl, hT, rfl, h1, h2⟩ := y
  obtain ⟨a, b, e, r1, r2⟩ := hd i ρ' H' x z hi L h1 h2
  refine ⟨_, e, Le.new hT, S.new hT, T, [x, z], rfl, .inl (.inl upd_same), x, [z], rfl, Rep.mono (Le.new hT) _ _ r1, z, [], rfl, Rep.mono (Le.new hT) _ _ r2, rfl⟩
end
end Vm
namespace Vm
open PySem PySem.Spec PyProof.Rows L2

/-- a def of the text as it stands behind the top -/
structure Df (K : PySem.W.Frag) (mg : Str → Option Value) (x : Str) (stm : Stmt) (ps : List Str) : Prop where
  ex : ∃ f fd, Fun K x x stm f fd ∧ mg x = some (.ref f) ∧ Binds K fd ps []
/-- a def keeps its promise -/
structure Ok (P : Program) (w : World) (K : PySem.W.Frag) (mg : Str → Option Value) (base : Heap) (k : Nat) (x : Str) (n : Nat) (F : FnF) : Prop where
  ex : ∃ f fd ps, FnOk P w K mg base CX0 k f fd ps (spD K n F) ∧ mg x = some (.ref f) ∧ PySem.W.keepIn K (.ref f) = true ∧ Binds K fd ps []
theorem Df.mk' {K : PySem.W.Frag} {mg : Str → Option Value} {x : Str} {stm : Stmt} {ps : List Str} {f : Addr} {fd : FuncData} (u : Fun K x x stm f fd) (m : mg x = some (.ref f)) (b : Binds K fd ps []) : Df K mg x stm ps := ⟨f, fd, u, m, b⟩
theorem fn_okO {P : Program} {w : World} {K : PySem.W.Frag} {mg : Str → Option Value} {base : Heap} {x : Str} {stm : Stmt} {N ps : List Str} {k : Nat} {body : FS} (Dd : Df K mg x stm ps) (S : FnScope N ps (defScope stm))
    (hbody : ∀ (cdv : Value) (A : Around) (outer : List PySem.Env) (s : Shared) (H : Hp) (E : XK) (f : Addr), Room k (A.deeper (envOfC x (defScope stm) s.heap.objs.size f cdv)) →
      PSs (cxOf CX0 P w K mg base N x (defScope stm) f cdv A outer s H E).nox (defBody stm) (tS K body)) : Ok P w K mg base (k + 1) x ps.length (fnD ps.length N.length body) := by
  obtain ⟨f, fd, u, m, b⟩ := Dd.ex
  exact ⟨f, fd, ps, fn_ok u S fun cdv A outer s H E hr => hbody cdv A outer s H E f hr, m, u.kp, b⟩
theorem ok_fn {P : Program} {w : World} {K : PySem.W.Frag} {mg : Str → Option Value} {base : Heap} {x : Str} {stm : Stmt} {k n : Nat} {f : Addr} {fd : FuncData} {ps : List Str} {F : FnF} (u : Fun K x x stm f fd) (m : mg x = some (.ref f)) (o : FnOk P w K mg base CX0 k f fd ps (spD K n F)) : FnOk P w K mg base CX0 k f fd ps (spD K n F) := o
section
variable {X : Cx} {pos : Pos}
theorem e_callO {j k n : Nat} {x : Str} {p : Pos} {e : Expr} {es : List Expr} {F : FnF} {A : FA} (o : Ok X.prog X.w X.K X.mg X.base j x n F) (hr : Room k X.A) (hj : j ≤ k) (hg : Gl X x)
    (ha : PA X (e :: es) (tA X.K A)) (hdb : (x == ("__debug__" : Str)) = false := by decide) (he : starEach (e :: es) X.env = (false, eval e X.env) :: starEach es X.env := by rfl) (hpl : (backTo pos (starEach es X.env)).any (·.1) = false := by rfl) :
    PE X (.Call (.Name x p) (e :: es) [] pos) (tE X.K (fCall n F A)) := by
  obtain ⟨f, fd, ps, G, m, kp, b⟩ := o.ex
  exact e_call G (hr.mono hj) hg m kp b ha hdb he hpl
theorem e_globI {x : Str} {i : Int} (hg : Gl X x) (h : ∃ t, X.mg x = some (.int i t)) (hd : (x == ("__debug__" : Str)) = false := by decide) : PE X (.Name x pos) (tE X.K (fCon (.int i))) := by
  obtain ⟨t, h⟩ := h
  exact e_glob (v := .int i) hg h ⟨t, rfl⟩ (fun _ _ => rfl) hd
theorem e_globS {x : Str} {i : Str} (hg : Gl X x) (h : ∃ t, X.mg x = some (.str i t)) (hd : (x == ("__debug__" : Str)) = false := by decide) : PE X (.Name x pos) (tE X.K (fCon (.str i))) := by
  obtain ⟨t, h⟩ := h
  exact e_glob (v := .str i) hg h ⟨t, rfl⟩ (fun _ _ => rfl) hd
def tIteF (C F G : FT) : FT := fun env st => match C env st with
  | some (true, st1) => F env st1
  | some (false, st1) => G env st1
  | none => none
theorem t_ite {c a b : Expr} {C F G : FT} (hc : PT X c (tT X.K C)) (ha : PT X a (tT X.K F)) (hb : PT X b (tT X.K G)) : PT X (.IfExp c a b pos) (tT X.K (tIteF C F G)) := by
  refine ⟨fun pins s σ H Q I h => ?_⟩
  obtain ⟨ρ, env, st, k, st', S, E, e, p⟩ := h
  refine PyProof.Rows.isTrue_IfExp ?_
  unfold tIteF at e
  split at e
  · rename_i st1 e1
    refine thn (hc.run pins s σ H (fun d H1 => d = true ∧ tT X.K F σ H1 Q) I (tT_bind S E e1 fun ρ1 H1 L1 S1 E1 => ⟨rfl, ρ1, env, st1, k, st', S1, E1, e, fun ρ2 H2 L2 S2 => p ρ2 H2 (L1.trans L2) S2⟩)) fun d s1 hd => ?_
    obtain ⟨H1, I1, rfl, q1⟩ := hd
    exact ha.run pins s1 σ H1 Q I1 q1
  · rename_i st1 e1
    refine thn (hc.run pins s σ H (fun d H1 => d = false ∧ tT X.K G σ H1 Q) I (tT_bind S E e1 fun ρ1 H1 L1 S1 E1 => ⟨rfl, ρ1, env, st1, k, st', S1, E1, e, fun ρ2 H2 L2 S2 => p ρ2 H2 (L1.trans L2) S2⟩)) fun d s1 hd => ?_
    obtain ⟨H1, I1, rfl, q1⟩ := hd
    exact hb.run pins s1 σ H1 Q I1 q1
  · cases e
end
end Vm
namespace Vm
open PySem PySem.Spec PyProof.Rows L2

/-- it ends, and then -/
def Wp {α : Type} (r : Option (α × Store)) (Q : α → Store → Prop) : Prop := ∃ a st, r = some (a, st) ∧ Q a st
section
variable {α : Type} {Q : α → Store → Prop}
theorem Wp.mono {r : Option (α × Store)} {Q' : α → Store → Prop} (h : Wp r Q) (m : ∀ a st, Q a st → Q' a st) : Wp r Q' := by
  obtain ⟨a, st, e, q⟩ := h
  exact ⟨a, st, e, m a st q⟩
@[simp] theorem wp_some {a : α} {st : Store} : Wp (some (a, st)) Q ↔ Q a st := ⟨fun ⟨_, _, e, q⟩ => by cases e; exact q, fun q => ⟨a, st, rfl, q⟩⟩
@[simp] theorem wp_noneR : Wp (none : Option (α × Store)) Q ↔ False := ⟨fun h => (by obtain ⟨_, _, e, _⟩ := h; cases e), fun h => False.elim h⟩
end
section
variable {env : En} {st : Store} {Q : D → Store → Prop} {F G J : FE} {A : FA} {C : FT}
@[simp] theorem wp_var {i : Nat} : Wp (fVar i env st) Q ↔ ∃ d, env[i]? = some (some d) ∧ Q d st := by
  unfold fVar
  constructor
  · intro h
    split at h
    · rename_i d e; exact ⟨d, e, wp_some.mp h⟩
    · exact (wp_noneR.mp h).elim
  · rintro ⟨d, e, q⟩
    simp [e, q]
@[simp] theorem wp_con {d : D} : Wp (fCon d env st) Q ↔ Q d st := wp_some
@[simp] theorem wp_bin {f : D → D → Store → Option D} : Wp (fBin f F G env st) Q ↔ Wp (F env st) fun a st1 => Wp (G env st1) fun b st2 => ∃ d, f a b st2 = some d ∧ Q d st2 := by
  unfold fBin
  constructor
  · intro h
    split at h
    · rename_i a st1 e1
      split at h
      · rename_i b st2 e2
        split at h
        · rename_i d e3
          exact ⟨a, st1, e1, b, st2, e2, d, e3, wp_some.mp h⟩
        · exact (wp_noneR.mp h).elim
      · exact (wp_noneR.mp h).elim
    · exact (wp_noneR.mp h).elim
  · rintro ⟨a, st1, e1, b, st2, e2, d, e3, q⟩
    simp [e1, e2, e3, q]
@[simp] theorem wp_cmp {c : CmpF} : Wp (fCmp c F G env st) Q ↔ Wp (F env st) fun a st1 => Wp (G env st1) fun b st2 => ∃ k, c a b st2 = some k ∧ Q (.bl k) st2 := by
  unfold fCmp
  constructor
  · intro h
    split at h
    · rename_i a st1 e1
      split at h
      · rename_i b st2 e2
        split at h
        · rename_i d e3
          exact ⟨a, st1, e1, b, st2, e2, d, e3, wp_some.mp h⟩
        · exact (wp_noneR.mp h).elim
      · exact (wp_noneR.mp h).elim
    · exact (wp_noneR.mp h).elim
  · rintro ⟨a, st1, e1, b, st2, e2, d, e3, q⟩
    simp [e1, e2, e3, q]
@[simp] theorem wp_chain {c c' : CmpF} : Wp (fChain c c' F G J env st) Q ↔ Wp (F env st) fun a st1 => Wp (G env st1) fun b st2 => ∃ k, c a b st2 = some k ∧
    if k = true then Wp (J env st2) fun d st3 => ∃ k', c' b d st3 = some k' ∧ Q (.bl k') st3 else Q (.bl false) st2 := by
  unfold fChain
  constructor
  · intro h
    split at h
    · rename_i a st1 e1
      split at h
      · rename_i b st2 e2
        split at h
        · rename_i e3
          refine ⟨a, st1, e1, b, st2, e2, true, e3, ?_⟩
          rw [if_pos rfl]
          split at h
          · rename_i d st3 e4
            split at h
            · rename_i k e5
              exact ⟨d, st3, e4, k, e5, wp_some.mp h⟩
            · exact (wp_noneR.mp h).elim
          · exact (wp_noneR.mp h).elim
        · rename_i e3
          refine ⟨a, st1, e1, b, st2, e2, false, e3, ?_⟩
          rw [if_neg (by decide)]
          exact wp_some.mp h
        · exact (wp_noneR.mp h).elim
      · exact (wp_noneR.mp h).elim
    · exact (wp_noneR.mp h).elim
  · rintro ⟨a, st1, e1, b, st2, e2, k, e3, q⟩
    cases k with
    | true =>
      rw [if_pos rfl] at q
      obtain ⟨d, st3, e4, k', e5, q⟩ := q
      simp [e1, e2, e3, e4, e5, q]
    | false =>
      rw [if_neg (by decide)] at q
      simp [e1, e2, e3, q]
@[simp] theorem wp_nil {Q : List D → Store → Prop} : Wp (fNil env st) Q ↔ Q [] st := wp_some
@[simp] theorem wp_cons {Q : List D → Store → Prop} : Wp (fCons F A env st) Q ↔ Wp (F env st) fun d st1 => Wp (A env st1) fun ds st2 => Q (d :: ds) st2 := by
  unfold fCons
  constructor
  · intro h
    split at h
    · rename_i a st1 e1
      split at h
      · rename_i b st2 e2
        exact ⟨a, st1, e1, b, st2, e2, wp_some.mp h⟩
      · exact (wp_noneR.mp h).elim
    · exact (wp_noneR.mp h).elim
  · rintro ⟨a, st1, e1, b, st2, e2, q⟩
    simp [e1, e2, q]
@[simp] theorem wp_tup : Wp (fTup A env st) Q ↔ Wp (A env st) fun ds st1 => ds.length ≤ 16777216 ∧ Q (.tup ds) st1 := by
  unfold fTup
  constructor
  · intro h
    split at h
    · rename_i a st1 e1
      split at h
      · rename_i hl; exact ⟨a, st1, e1, hl, wp_some.mp h⟩
      · exact (wp_noneR.mp h).elim
    · exact (wp_noneR.mp h).elim
  · rintro ⟨a, st1, e1, hl, q⟩
    simp [e1, hl, q]
@[simp] theorem wp_lst : Wp (fLst A env st) Q ↔ Wp (A env st) fun ds st1 => ds.length ≤ 16777216 ∧ Q (.tl ds) st1 := by
  unfold fLst
  constructor
  · intro h
    split at h
    · rename_i a st1 e1
      split at h
      · rename_i hl; exact ⟨a, st1, e1, hl, wp_some.mp h⟩
      · exact (wp_noneR.mp h).elim
    · exact (wp_noneR.mp h).elim
  · rintro ⟨a, st1, e1, hl, q⟩
    simp [e1, hl, q]
@[simp] theorem wp_lstS : Wp (fLstS A env st) Q ↔ Wp (A env st) fun ds st1 => ds.length ≤ 16777216 ∧ Q (.ref st1.length) (st1 ++ [.lst ds]) := by
  unfold fLstS
  constructor
  · intro h
    split at h
    · rename_i a st1 e1
      split at h
      · rename_i hl; exact ⟨a, st1, e1, hl, wp_some.mp h⟩
      · exact (wp_noneR.mp h).elim
    · exact (wp_noneR.mp h).elim
  · rintro ⟨a, st1, e1, hl, q⟩
    simp [e1, hl, q]
@[simp] theorem wp_neg : Wp (fNeg F env st) Q ↔ Wp (F env st) fun d st1 => ∃ i, d = .int i ∧ Q (.int (-i)) st1 := by
  unfold fNeg
  constructor
  · intro h
    split at h
    · rename_i i st1 e1; exact ⟨_, st1, e1, i, rfl, wp_some.mp h⟩
    · exact (wp_noneR.mp h).elim
  · rintro ⟨a, st1, e1, i, rfl, q⟩
    simp [e1, q]
@[simp] theorem wp_or : Wp (fOr F G env st) Q ↔ Wp (F env st) fun d st1 => ∃ k, tru st1 d = some k ∧ if k = true then Q d st1 else Wp (G env st1) Q := by
  unfold fOr
  constructor
  · intro h
    split at h
    · rename_i a st1 e1
      refine ⟨a, st1, e1, ?_⟩
      split at h
      · rename_i e2; exact ⟨true, e2, by simp only [if_true]; exact wp_some.mp h⟩
      · rename_i e2; exact ⟨false, e2, by simp only [Bool.false_eq_true, if_false]; exact h⟩
      · exact (wp_noneR.mp h).elim
    · exact (wp_noneR.mp h).elim
  · rintro ⟨a, st1, e1, k, e2, q⟩
    cases k <;> simp_all
@[simp] theorem wp_and : Wp (fAnd F G env st) Q ↔ Wp (F env st) fun d st1 => ∃ k, tru st1 d = some k ∧ if k = true then Wp (G env st1) Q else Q d st1 := by
  unfold fAnd
  constructor
  · intro h
    split at h
    · rename_i a st1 e1
      refine ⟨a, st1, e1, ?_⟩
      split at h
      · rename_i e2; exact ⟨true, e2, by simp only [if_true]; exact h⟩
      · rename_i e2; exact ⟨false, e2, by simp only [Bool.false_eq_true, if_false]; exact wp_some.mp h⟩
      · exact (wp_noneR.mp h).elim
    · exact (wp_noneR.mp h).elim
  · rintro ⟨a, st1, e1, k, e2, q⟩
    cases k <;> simp_all
@[simp] theorem wp_not : Wp (fNot F env st) Q ↔ Wp (F env st) fun d st1 => ∃ k, tru st1 d = some k ∧ Q (.bl (!k)) st1 := by
  unfold fNot
  constructor
  · intro h
    split at h
    · rename_i a st1 e1
      refine ⟨a, st1, e1, ?_⟩
      split at h
      · rename_i k e2; exact ⟨k, e2, wp_some.mp h⟩
      · exact (wp_noneR.mp h).elim
    · exact (wp_noneR.mp h).elim
  · rintro ⟨a, st1, e1, k, e2, q⟩
    simp [e1, e2, q]
@[simp] theorem wp_ite : Wp (fIte C F G env st) Q ↔ Wp (C env st) fun k st1 => if k = true then Wp (F env st1) Q else Wp (G env st1) Q := by
  unfold fIte
  constructor
  · intro h
    split at h
    · rename_i st1 e1; exact ⟨true, st1, e1, by simp only [if_true]; exact h⟩
    · rename_i st1 e1; exact ⟨false, st1, e1, by simp only [Bool.false_eq_true, if_false]; exact h⟩
    · exact (wp_noneR.mp h).elim
  · rintro ⟨a, st1, e1, q⟩
    cases a <;> simp_all
@[simp] theorem wp_oNone {Q : Option Int → Store → Prop} : Wp (oNone env st) Q ↔ Q none st := wp_some
@[simp] theorem wp_oSome {Q : Option Int → Store → Prop} : Wp (oSome F env st) Q ↔ Wp (F env st) fun d st1 => ∃ i, d = .int i ∧ Q (some i) st1 := by
  unfold oSome
  constructor
  · intro h
    split at h
    · rename_i i st1 e1; exact ⟨_, st1, e1, i, rfl, wp_some.mp h⟩
    · exact (wp_noneR.mp h).elim
  · rintro ⟨a, st1, e1, i, rfl, q⟩
    simp [e1, q]
@[simp] theorem wp_cut {L U : FO} : Wp (fCut F L U env st) Q ↔ Wp (F env st) fun a st1 => Wp (L env st1) fun l st2 => Wp (U env st2) fun u st3 => ∃ d, dCut a l u st3 = some d ∧ Q d st3 := by
  unfold fCut
  constructor
  · intro h
    split at h
    · rename_i a st1 e1
      split at h
      · rename_i l st2 e2
        split at h
        · rename_i u st3 e3
          split at h
          · rename_i d e4; exact ⟨a, st1, e1, l, st2, e2, u, st3, e3, d, e4, wp_some.mp h⟩
          · exact (wp_noneR.mp h).elim
        · exact (wp_noneR.mp h).elim
      · exact (wp_noneR.mp h).elim
    · exact (wp_noneR.mp h).elim
  · rintro ⟨a, st1, e1, l, st2, e2, u, st3, e3, d, e4, q⟩
    simp [e1, e2, e3, e4, q]
@[simp] theorem wp_call {n : Nat} {f : FnF} : Wp (fCall n f A env st) Q ↔ Wp (A env st) fun ds st1 => ds.length = n ∧ Wp (f ds st1) Q := by
  unfold fCall
  constructor
  · intro h
    split at h
    · rename_i ds st1 e1
      split at h
      · rename_i hn; exact ⟨ds, st1, e1, hn, h⟩
      · exact (wp_noneR.mp h).elim
    · exact (wp_noneR.mp h).elim
  · rintro ⟨ds, st1, e1, hn, q⟩
    simp [e1, hn, q]
@[simp] theorem wp_blt {f : BF} : Wp (fBlt f A env st) Q ↔ Wp (A env st) fun ds st1 => Wp (f ds st1) Q := by
  unfold fBlt
  constructor
  · intro h
    split at h
    · rename_i ds st1 e1; exact ⟨ds, st1, e1, h⟩
    · exact (wp_noneR.mp h).elim
  · rintro ⟨ds, st1, e1, q⟩
    simp [e1, q]
@[simp] theorem wp_isi {c : Tag} : Wp (fIsi c F env st) Q ↔ Wp (F env st) fun d st1 => ∃ t, tagOf st1 d = some t ∧ Q (.bl (isTag t c)) st1 := by
  unfold fIsi
  constructor
  · intro h
    split at h
    · rename_i d st1 e1
      split at h
      · rename_i t e2; exact ⟨d, st1, e1, t, e2, wp_some.mp h⟩
      · exact (wp_noneR.mp h).elim
    · exact (wp_noneR.mp h).elim
  · rintro ⟨d, st1, e1, t, e2, q⟩
    simp [e1, e2, q]
/-- a def's body -/
theorem wp_fn {n N : Nat} {body : FS} {ds : List D} : Wp (fnD n N body ds st) Q ↔ ds.length = n ∧ Wp (body (ds.map some ++ List.replicate (N - n) none) st) fun o st1 => match o with
    | .rt d => Q d st1
    | .nx _ => Q .non st1
    | _ => False := by
  unfold fnD
  constructor
  · intro h
    split at h
    · rename_i hn
      refine ⟨hn, ?_⟩
      split at h
      · rename_i d st1 e1; exact ⟨_, st1, e1, wp_some.mp h⟩
      · rename_i d st1 e1; exact ⟨_, st1, e1, wp_some.mp h⟩
      · exact (wp_noneR.mp h).elim
    · exact (wp_noneR.mp h).elim
  · rintro ⟨hn, o, st1, e1, q⟩
    rw [if_pos hn]
    cases o <;> simp_all
end
section
variable {env : En} {st : Store} {Q : Bool → Store → Prop} {F G J : FE} {C C' C2 : FT}
@[simp] theorem wpt_cmp {c : CmpF} : Wp (tCmpF c F G env st) Q ↔ Wp (F env st) fun a st1 => Wp (G env st1) fun b st2 => ∃ k, c a b st2 = some k ∧ Q k st2 := by
  unfold tCmpF
  constructor
  · intro h
    split at h
    · rename_i a st1 e1
      split at h
      · rename_i b st2 e2
        split at h
        · rename_i d e3
          exact ⟨a, st1, e1, b, st2, e2, d, e3, wp_some.mp h⟩
        · exact (wp_noneR.mp h).elim
      · exact (wp_noneR.mp h).elim
    · exact (wp_noneR.mp h).elim
  · rintro ⟨a, st1, e1, b, st2, e2, d, e3, q⟩
    simp [e1, e2, e3, q]
@[simp] theorem wpt_chain {c c' : CmpF} : Wp (tChainF c c' F G J env st) Q ↔ Wp (fChain c c' F G J env st) fun d st1 => ∃ k, d = .bl k ∧ Q k st1 := by
  unfold tChainF
  constructor
  · intro h
    split at h
    · rename_i k st1 e1; exact ⟨_, st1, e1, k, rfl, wp_some.mp h⟩
    · exact (wp_noneR.mp h).elim
  · rintro ⟨d, st1, e1, k, rfl, q⟩
    simp [e1, q]
@[simp] theorem wpt_tru : Wp (tTru F env st) Q ↔ Wp (F env st) fun d st1 => ∃ k, tru st1 d = some k ∧ Q k st1 := by
  unfold tTru
  constructor
  · intro h
    split at h
    · rename_i a st1 e1
      refine ⟨a, st1, e1, ?_⟩
      split at h
      · rename_i k e2; exact ⟨k, e2, wp_some.mp h⟩
      · exact (wp_noneR.mp h).elim
    · exact (wp_noneR.mp h).elim
  · rintro ⟨a, st1, e1, k, e2, q⟩
    simp [e1, e2, q]
@[simp] theorem wpt_and : Wp (tAndF C C' env st) Q ↔ Wp (C env st) fun k st1 => if k = true then Wp (C' env st1) Q else Q false st1 := by
  unfold tAndF
  constructor
  · intro h
    split at h
    · rename_i st1 e1; exact ⟨true, st1, e1, by simp only [if_true]; exact h⟩
    · rename_i st1 e1; exact ⟨false, st1, e1, by simp only [Bool.false_eq_true, if_false]; exact wp_some.mp h⟩
    · exact (wp_noneR.mp h).elim
  · rintro ⟨a, st1, e1, q⟩
    cases a <;> simp_all
@[simp] theorem wpt_or : Wp (tOrF C C' env st) Q ↔ Wp (C env st) fun k st1 => if k = true then Q true st1 else Wp (C' env st1) Q := by
  unfold tOrF
  constructor
  · intro h
    split at h
    · rename_i st1 e1; exact ⟨true, st1, e1, by simp only [if_true]; exact wp_some.mp h⟩
    · rename_i st1 e1; exact ⟨false, st1, e1, by simp only [Bool.false_eq_true, if_false]; exact h⟩
    · exact (wp_noneR.mp h).elim
  · rintro ⟨a, st1, e1, q⟩
    cases a <;> simp_all
@[simp] theorem wpt_not : Wp (tNotF C env st) Q ↔ Wp (C env st) fun k st1 => Q (!k) st1 := by
  unfold tNotF
  constructor
  · intro h
    split at h
    · rename_i k st1 e1; exact ⟨k, st1, e1, wp_some.mp h⟩
    · exact (wp_noneR.mp h).elim
  · rintro ⟨a, st1, e1, q⟩
    simp [e1, q]
@[simp] theorem wpt_ite : Wp (tIteF C C' C2 env st) Q ↔ Wp (C env st) fun k st1 => if k = true then Wp (C' env st1) Q else Wp (C2 env st1) Q := by
  unfold tIteF
  constructor
  · intro h
    split at h
    · rename_i st1 e1; exact ⟨true, st1, e1, by simp only [if_true]; exact h⟩
    · rename_i st1 e1; exact ⟨false, st1, e1, by simp only [Bool.false_eq_true, if_false]; exact h⟩
    · exact (wp_noneR.mp h).elim
  · rintro ⟨a, st1, e1, q⟩
    cases a <;> simp_all
@[simp] theorem wpt_yes : Wp (tYesF env st) Q ↔ Q true st := wp_some
end
section
variable {env : En} {st : Store} {Q : Out → Store → Prop} {F G : FE} {A : FA} {C : FT} {B B2 : FS} {T : FG} {I : FI}
@[simp] theorem wps_nil : Wp (sNil env st) Q ↔ Q (.nx env) st := wp_some
@[simp] theorem wps_pass : Wp (sPass env st) Q ↔ Q (.nx env) st := wp_some
@[simp] theorem wps_brk : Wp (sBrk env st) Q ↔ Q (.bk env) st := wp_some
@[simp] theorem wps_cnt : Wp (sCnt env st) Q ↔ Q (.ct env) st := wp_some
@[simp] theorem wps_retN : Wp (sRetN env st) Q ↔ Q (.rt .non) st := wp_some
@[simp] theorem wps_seq : Wp (sSeq B B2 env st) Q ↔ Wp (B env st) fun o st1 => match o with
    | .nx e => Wp (B2 e st1) Q
    | o => Q o st1 := by
  unfold sSeq
  constructor
  · intro h
    split at h
    · rename_i e1 st1 e; exact ⟨_, st1, e, h⟩
    · rename_i hne
      obtain ⟨o, st1, e, q⟩ := h
      refine ⟨o, st1, e, ?_⟩
      cases o with
      | nx e0 => exact absurd e (hne e0 st1)
      | rt d => exact q
      | bk d => exact q
      | ct d => exact q
  · rintro ⟨o, st1, e, q⟩
    cases o <;> simp_all
@[simp] theorem wps_ret : Wp (sRet F env st) Q ↔ Wp (F env st) fun d st1 => Q (.rt d) st1 := by
  unfold sRet
  constructor
  · intro h
    split at h
    · rename_i d st1 e; exact ⟨d, st1, e, wp_some.mp h⟩
    · exact (wp_noneR.mp h).elim
  · rintro ⟨a, st1, e1, q⟩
    simp [e1, q]
@[simp] theorem wps_expr : Wp (sExpr F env st) Q ↔ Wp (F env st) fun d st1 => Q (.nx env) st1 := by
  unfold sExpr
  constructor
  · intro h
    split at h
    · rename_i d st1 e; exact ⟨d, st1, e, wp_some.mp h⟩
    · exact (wp_noneR.mp h).elim
  · rintro ⟨a, st1, e1, q⟩
    simp [e1, q]
@[simp] theorem wps_set {i : Nat} : Wp (sSet i F env st) Q ↔ Wp (F env st) fun d st1 => Q (.nx (env.set i (some d))) st1 := by
  unfold sSet
  constructor
  · intro h
    split at h
    · rename_i d st1 e; exact ⟨d, st1, e, wp_some.mp h⟩
    · exact (wp_noneR.mp h).elim
  · rintro ⟨a, st1, e1, q⟩
    simp [e1, q]
@[simp] theorem wps_asg : Wp (sAsg T F env st) Q ↔ Wp (F env st) fun d st1 => ∃ e, T d env = some e ∧ Q (.nx e) st1 := by
  unfold sAsg
  constructor
  · intro h
    split at h
    · rename_i d st1 e
      split at h
      · rename_i e2 h2; exact ⟨d, st1, e, e2, h2, wp_some.mp h⟩
      · exact (wp_noneR.mp h).elim
    · exact (wp_noneR.mp h).elim
  · rintro ⟨a, st1, e1, e2, h2, q⟩
    simp [e1, h2, q]
@[simp] theorem wps_if : Wp (sIf C B B2 env st) Q ↔ Wp (C env st) fun k st1 => if k = true then Wp (B env st1) Q else Wp (B2 env st1) Q := by
  unfold sIf
  constructor
  · intro h
    split at h
    · rename_i st1 e1; exact ⟨true, st1, e1, by simp only [if_true]; exact h⟩
    · rename_i st1 e1; exact ⟨false, st1, e1, by simp only [Bool.false_eq_true, if_false]; exact h⟩
    · exact (wp_noneR.mp h).elim
  · rintro ⟨a, st1, e1, q⟩
    cases a <;> simp_all
@[simp] theorem wps_put {Fo Fi : FE} : Wp (sPut Fo Fi F env st) Q ↔ Wp (F env st) fun x st1 => Wp (Fo env st1) fun o st2 => Wp (Fi env st2) fun i st3 => ∃ j st4, i = .int j ∧ setAt st3 o j x = some st4 ∧ Q (.nx env) st4 := by
  unfold sPut
  constructor
  · intro h
    split at h
    · rename_i x st1 e1
      split at h
      · rename_i o st2 e2
        split at h
        · rename_i j st3 e3
          split at h
          · rename_i st4 e4; exact ⟨x, st1, e1, o, st2, e2, _, st3, e3, j, st4, rfl, e4, wp_some.mp h⟩
          · exact (wp_noneR.mp h).elim
        · exact (wp_noneR.mp h).elim
      · exact (wp_noneR.mp h).elim
    · exact (wp_noneR.mp h).elim
  · rintro ⟨x, st1, e1, o, st2, e2, i, st3, e3, j, st4, rfl, e4, q⟩
    simp [e1, e2, e3, e4, q]
@[simp] theorem wps_aug {i : Nat} {f : D → D → Store → Option D} : Wp (sAug i f F env st) Q ↔ ∃ a, env[i]? = some (some a) ∧ Wp (F env st) fun b st1 => ∃ d, f a b st1 = some d ∧ Q (.nx (env.set i (some d))) st1 := by
  unfold sAug
  constructor
  · intro h
    split at h
    · rename_i a ea
      refine ⟨a, ea, ?_⟩
      split at h
      · rename_i b st1 e1
        split at h
        · rename_i d e2; exact ⟨b, st1, e1, d, e2, wp_some.mp h⟩
        · exact (wp_noneR.mp h).elim
      · exact (wp_noneR.mp h).elim
    · exact (wp_noneR.mp h).elim
  · rintro ⟨a, ea, b, st1, e1, d, e2, q⟩
    simp [ea, e1, e2, q]
@[simp] theorem wps_app {Fo : FE} : Wp (sApp Fo F env st) Q ↔ Wp (Fo env st) fun o st1 => ∃ n ys, o = .ref n ∧ st1[n]? = some (.lst ys) ∧ Wp (F env st1) fun x st2 => ∃ xs, st2[n]? = some (.lst xs) ∧ xs.length < 16777216 ∧ Q (.nx env) (st2.set n (.lst (xs ++ [x]))) := by
  unfold sApp
  constructor
  · intro h
    split at h
    · rename_i n st1 e1
      split at h
      · rename_i ys e2
        split at h
        · rename_i x st2 e3
          split at h
          · rename_i xs e4
            split at h
            · rename_i hl; exact ⟨_, st1, e1, n, ys, rfl, e2, x, st2, e3, xs, e4, hl, wp_some.mp h⟩
            · exact (wp_noneR.mp h).elim
          · exact (wp_noneR.mp h).elim
        · exact (wp_noneR.mp h).elim
      · exact (wp_noneR.mp h).elim
    · exact (wp_noneR.mp h).elim
  · rintro ⟨o, st1, e1, n, ys, rfl, e2, x, st2, e3, xs, e4, hl, q⟩
    simp [e1, e2, e3, e4, hl, q]
@[simp] theorem wps_par {i j : Nat} : Wp (sPar i j A env st) Q ↔ Wp (A env st) fun ds st1 => ∃ a b, ds = [a, b] ∧ Q (.nx ((env.set i (some a)).set j (some b))) st1 := by
  unfold sPar
  constructor
  · intro h
    split at h
    · rename_i a b st1 e1; exact ⟨_, st1, e1, a, b, rfl, wp_some.mp h⟩
    · exact (wp_noneR.mp h).elim
  · rintro ⟨ds, st1, e1, a, b, rfl, q⟩
    simp [e1, q]
@[simp] theorem wps_for : Wp (sFor I T B env st) Q ↔ Wp (I env st) fun r st1 => Wp (forN r.2 T B r.1 env st1) Q := by
  unfold sFor
  constructor
  · intro h
    split at h
    · rename_i ds g st1 e1; exact ⟨(ds, g), st1, e1, h⟩
    · exact (wp_noneR.mp h).elim
  · rintro ⟨⟨ds, g⟩, st1, e1, q⟩
    simp [e1, q]
theorem wpf_nil {g : Gd} : Wp (forN g T B [] env st) Q ↔ g st ∧ Q (.nx env) st := by
  unfold forN
  constructor
  · intro h
    split at h
    · rename_i hg; exact ⟨hg, wp_some.mp h⟩
    · exact (wp_noneR.mp h).elim
  · rintro ⟨hg, q⟩
    simp [hg, q]
theorem wpf_cons {g : Gd} {d : D} {ds : List D} : Wp (forN g T B (d :: ds) env st) Q ↔ g st ∧ ∃ e1, T d env = some e1 ∧ Wp (B e1 st) fun o st1 => match o with
    | .nx e2 => Wp (forN g T B ds e2 st1) Q
    | .ct e2 => Wp (forN g T B ds e2 st1) Q
    | .bk e2 => Q (.nx e2) st1
    | .rt v => Q (.rt v) st1 := by
  constructor
  · intro h
    unfold forN at h
    split at h
    · rename_i hg
      refine ⟨hg, ?_⟩
      split at h
      · rename_i e1 ht
        refine ⟨e1, ht, ?_⟩
        split at h
        · rename_i e2 st1 hb; exact ⟨_, st1, hb, h⟩
        · rename_i e2 st1 hb; exact ⟨_, st1, hb, h⟩
        · rename_i e2 st1 hb; exact ⟨_, st1, hb, wp_some.mp h⟩
        · rename_i e2 st1 hb; exact ⟨_, st1, hb, wp_some.mp h⟩
        · exact (wp_noneR.mp h).elim
      · exact (wp_noneR.mp h).elim
    · exact (wp_noneR.mp h).elim
  · rintro ⟨hg, e1, ht, o, st1, hb, q⟩
    unfold forN
    rw [if_pos hg]
    cases o <;> simp_all
/-- a loop by its invariant -/
theorem wp_forI {g : Gd} (Iv : Nat → En → Store → Prop) : ∀ (ds : List D) (i : Nat) (env : En) (st : Store) (Q : Out → Store → Prop), Iv i env st →
    (∀ j d e s, ds[j]? = some d → Iv (i + j) e s → g s ∧ ∃ e1, T d e = some e1 ∧ Wp (B e1 s) fun o s1 => match o with
      | .nx e2 => Iv (i + j + 1) e2 s1
      | .ct e2 => Iv (i + j + 1) e2 s1
      | .bk e2 => Q (.nx e2) s1
      | .rt v => Q (.rt v) s1) →
    (∀ e s, Iv (i + ds.length) e s → g s ∧ Q (.nx e) s) → Wp (forN g T B ds env st) Q
  | [], i, env, st, Q, h0, _, hd => wpf_nil.mpr (hd env st h0)
  | d :: ds, i, env, st, Q, h0, hs, hd => by
    rw [wpf_cons]
    obtain ⟨hg, e1, ht, hb⟩ := hs 0 d env st rfl h0
    refine ⟨hg, e1, ht, hb.mono fun o s1 ho => ?_⟩
    have again : ∀ e2, Iv (i + 1) e2 s1 → Wp (forN g T B ds e2 s1) Q := fun e2 h2 => by
      refine wp_forI Iv ds (i + 1) e2 s1 Q h2 (fun j d' e s hj hI => ?_) fun e s hI => hd e s (by rw [List.length_cons, show i + (ds.length + 1) = i + 1 + ds.length by omega]; exact hI)
      have := hs (j + 1) d' e s (by simpa using hj) (by rw [show i + (j + 1) = i + 1 + j by omega]; exact hI)
      rw [show i + (j + 1) + 1 = i + 1 + j + 1 by omega] at this
      exact this
    cases o with
    | nx e2 => exact again e2 ho
    | ct e2 => exact again e2 ho
    | bk e2 => exact ho
    | rt v => exact ho
end
section
variable {env : En} {st : Store} {F : FE} {A : FA}
@[simp] theorem wpi_val {Q : (List D × Gd) → Store → Prop} : Wp (iVal F env st) Q ↔ Wp (F env st) fun d st1 => ∃ r, itemsOf st1 d = some r ∧ Q r st1 := by
  unfold iVal
  constructor
  · intro h
    split at h
    · rename_i d st1 e
      split at h
      · rename_i r e2; exact ⟨d, st1, e, r, e2, wp_some.mp h⟩
      · exact (wp_noneR.mp h).elim
    · exact (wp_noneR.mp h).elim
  · rintro ⟨a, st1, e1, r, e2, q⟩
    simp [e1, e2, q]
@[simp] theorem wpi_range1 {Q : (List D × Gd) → Store → Prop} : Wp (iRange1 A env st) Q ↔ Wp (A env st) fun ds st1 => ∃ j, ds = [.int j] ∧ (-4611686018427387904 ≤ j ∧ j < 4611686018427387904) ∧ Q (rangeD 0 j.toNat, fun _ => True) st1 := by
  unfold iRange1
  constructor
  · intro h
    split at h
    · rename_i j st1 e
      split at h
      · rename_i hb; exact ⟨_, st1, e, j, rfl, hb, wp_some.mp h⟩
      · exact (wp_noneR.mp h).elim
    · exact (wp_noneR.mp h).elim
  · rintro ⟨a, st1, e1, j, rfl, hb, q⟩
    simp [e1, hb, q]
end
/-- a comprehension by what each turn gives -/
theorem wp_compI {g : Gd} {T : FG} {C : FT} {F : FE} {env : En} (Iv : Nat → List D → Store → Prop) : ∀ (ds : List D) (i : Nat) (acc : List D) (st : Store) (Q : List D → Store → Prop), Iv i acc st →
    (∀ j d ac s, ds[j]? = some d → Iv (i + j) ac s → g s ∧ ∃ e1, T d env = some e1 ∧ Wp (C e1 s) fun k s1 => if k = true then Wp (F e1 s1) fun y s2 => Iv (i + j + 1) (ac ++ [y]) s2 else Iv (i + j + 1) ac s1) →
    (∀ ac s, Iv (i + ds.length) ac s → g s ∧ ∀ ys, ac = acc ++ ys → Q ys s) → (∀ j ac s, Iv j ac s → ∃ ys, ac = acc ++ ys) → Wp (compN g T C F ds env st) Q
  | [], i, acc, st, Q, h0, _, hd, _ => by
    obtain ⟨hg, hq⟩ := hd acc st h0
    unfold compN
    rw [if_pos hg]
    exact wp_some.mpr (hq [] (by simp))
  | d :: ds, i, acc, st, Q, h0, hs, hd, hx => by
    obtain ⟨hg, e1, ht, k, s1, ec, hk⟩ := hs 0 d acc st rfl h0
    unfold compN
    rw [if_pos hg]
    simp only [ht, ec]
    cases k with
    | true =>
      rw [if_pos rfl] at hk
      obtain ⟨y, s2, ef, h2⟩ := hk
      simp only [ef]
      have := wp_compI (g := g) (T := T) (C := C) (F := F) (env := env) (fun j ac s => Iv j ac s ∧ ∃ ys, ac = (acc ++ [y]) ++ ys) ds (i + 1) (acc ++ [y]) s2 (fun ys s => Q (y :: ys) s) ⟨h2, [], by simp⟩ (fun j d' ac s hj hI => ?_) (fun ac s hI => ?_) fun j ac s hI => hI.2
      · obtain ⟨ys, s3, e3, q⟩ := this
        simp only [e3]
        exact wp_some.mpr q
      · obtain ⟨hI, ys, hy⟩ := hI
        obtain ⟨hg', e1', ht', hw⟩ := hs (j + 1) d' ac s (by simpa using hj) (by rw [show i + (j + 1) = i + 1 + j by omega]; exact hI)
        refine ⟨hg', e1', ht', hw.mono fun k s1 hk => ?_⟩
        rw [show i + (j + 1) + 1 = i + 1 + j + 1 by omega] at hk
        cases k with
        | true =>
          rw [if_pos rfl] at hk ⊢
          exact hk.mono fun z s2 hz => ⟨hz, ys ++ [z], by rw [hy]; simp⟩
        | false =>
          rw [if_neg (by decide)] at hk ⊢
          exact ⟨hk, ys, hy⟩
      · obtain ⟨hI, ys, hy⟩ := hI
        obtain ⟨hg', hq⟩ := hd ac s (by rw [List.length_cons, show i + (ds.length + 1) = i + 1 + ds.length by omega]; exact hI)
        exact ⟨hg', fun zs hz => hq (y :: zs) (by rw [hz]; simp)⟩
    | false =>
      rw [if_neg (by decide)] at hk
      simp only
      refine wp_compI Iv ds (i + 1) acc s1 Q hk (fun j d' ac s hj hI => ?_) (fun ac s hI => ?_) hx
      · have := hs (j + 1) d' ac s (by simpa using hj) (by rw [show i + (j + 1) = i + 1 + j by omega]; exact hI)
        rw [show i + (j + 1) + 1 = i + 1 + j + 1 by omega] at this
        exact this
      · exact hd ac s (by rw [List.length_cons, show i + (ds.length + 1) = i + 1 + ds.length by omega]; exact hI)
/-- a comprehension without ifs whose elements are values of a function and leave the store -/
theorem compN_map {T : FG} {F : FE} {env : En} {st : Store} {f : D → D} : ∀ (ds : List D), (∀ d ∈ ds, ∃ e1, T d env = some e1 ∧ F e1 st = some (f d, st)) → compN (fun _ => True) T tYesF F ds env st = some (ds.map f, st)
  | [], _ => by unfold compN; simp
  | d :: ds, h => by
    obtain ⟨e1, h1, h2⟩ := h d List.mem_cons_self
    unfold compN
    rw [if_pos trivial]
    simp only [h1, h2, tYesF, compN_map ds fun x hx => h x (List.mem_cons_of_mem _ hx), List.map_cons]
theorem compN_filter {T : FG} {C : FT} {F : FE} {env : En} {st : Store} {f : D → D} {p : D → Bool} : ∀ (ds : List D), (∀ d ∈ ds, ∃ e1, T d env = some e1 ∧ C e1 st = some (p d, st) ∧ (p d = true → F e1 st = some (f d, st))) → compN (fun _ => True) T C F ds env st = some ((ds.filter p).map f, st)
  | [], _ => by unfold compN; simp
  | d :: ds, h => by
    obtain ⟨e1, h1, h2, h3⟩ := h d List.mem_cons_self
    have ih := compN_filter ds fun x hx => h x (List.mem_cons_of_mem _ hx)
    unfold compN
    rw [if_pos trivial]
    cases hp : p d with
    | true => simp only [h1, h2, hp, h3 hp, ih, List.filter_cons, if_true, List.map_cons]
    | false => simp only [h1, h2, hp, ih, List.filter_cons]; rfl
theorem wp_comp {vs : List Nat} {I : FI} {T : FG} {C : FT} {F : FE} {env : En} {st : Store} {Q : D → Store → Prop} : Wp (fComp vs I T C F env st) Q ↔ Wp (I env st) fun r st1 => r.1.length ≤ 16777216 ∧ Wp (compN r.2 T C F r.1 (wipeE env vs) st1) fun ys st2 => Q (.tl ys) st2 := by
  unfold fComp
  constructor
  · intro h
    split at h
    · rename_i ds g st1 e1
      refine ⟨(ds, g), st1, e1, ?_⟩
      split at h
      · rename_i hl
        refine ⟨hl, ?_⟩
        split at h
        · rename_i ys st2 e2; exact ⟨ys, st2, e2, wp_some.mp h⟩
        · exact (wp_noneR.mp h).elim
      · exact (wp_noneR.mp h).elim
    · exact (wp_noneR.mp h).elim
  · rintro ⟨⟨ds, g⟩, st1, e1, hl, ys, st2, e2, q⟩
    simp only at hl e2
    simp [e1, hl, e2, q]
end Vm
namespace Vm
open PySem PySem.Spec PyProof.Rows L2

/-! ### the laws' feed -/
def Fd (n : Nat) (st : Store) : Prop := ∃ a b : Int, st[n]? = some (.lst [.int a, .int b]) ∧ 0 ≤ a ∧ 0 ≤ b
structure Fr (n : Nat) (st st' : Store) : Prop where
  fd : Fd n st'
  keep : ∀ (m : Nat) (o : O), m ≠ n → st[m]? = some o → st'[m]? = some o
theorem Fr.trans {n : Nat} {a b c : Store} (h : Fr n a b) (h' : Fr n b c) : Fr n a c := ⟨h'.fd, fun m o hm e => h'.keep m o hm (h.keep m o hm e)⟩
theorem Fr.refl {n : Nat} {a : Store} (h : Fd n a) : Fr n a a := ⟨h, fun _ _ _ e => e⟩
theorem Fr.set {n : Nat} {st : Store} {o : O} {a b : Int} (h : st[n]? = some o) (ha : 0 ≤ a) (hb : 0 ≤ b) : Fr n st (st.set n (.lst [.int a, .int b])) := by
  have hl := (List.getElem?_eq_some_iff.mp h).1
  exact ⟨⟨a, b, by rw [List.getElem?_set_self hl], ha, hb⟩, fun m o hm e => by rw [List.getElem?_set_ne (Ne.symm hm)]; exact e⟩
@[simp] theorem atI0 {α : Type} {x : α} {xs : List α} : L2.atI (x :: xs) 0 = some x := by simp [L2.atI, ixN]
@[simp] theorem atI1 {α : Type} {x y : α} {xs : List α} : L2.atI (x :: y :: xs) 1 = some y := by
  have : (1 : Int) < (xs.length : Int) + 1 + 1 := by omega
  simp [L2.atI, ixN, this]
@[simp] theorem atI2 {α : Type} {x y z : α} {xs : List α} : L2.atI (x :: y :: z :: xs) 2 = some z := by
  have : (2 : Int) < (xs.length : Int) + 1 + 1 + 1 := by omega
  simp [L2.atI, ixN, this]
theorem atI_of {α : Type} {xs : List α} {i : Int} (h0 : 0 ≤ i) (h1 : i < xs.length) : ∃ x, L2.atI xs i = some x ∧ x ∈ xs := by
  have hl : i.toNat < xs.length := by omega
  refine ⟨xs[i.toNat], ?_, List.getElem_mem hl⟩
  unfold L2.atI ixN
  rw [if_pos h0, if_pos (by omega)]
  exact List.getElem?_eq_getElem hl

def L_feed : FnF := fnD 2 5 (sSeq (sSet 2 (fIte (tCmpF cLt (fVar 1) (fBlt bLen (fCons (fVar 0) (fNil)))) (fBin dIdx (fVar 0) (fVar 1)) (fBin dAdd (fBin dMul (fCon (.int 71)) (fVar 1)) (fCon (.int 23)))))
  (sSeq (sSet 3 (fBlt bMax (fCons (fCon (.int 0)) (fCons (fBin dSub (fBlt bAbs (fCons (fVar 2) (fNil))) (fBin dPow (fCon (.int 10)) (fCon (.int 18)))) (fNil)))))
  (sSeq (sSet 4 (fBin dMod (fBin dAdd (fBin dAdd (fBin dMul (fVar 2) (fCon (.int 6364136223846793005))) (fBin dMul (fCon (.int 9973)) (fVar 1))) (fCon (.int 1442695040888963407))) (fCon (.int 2305843009213693951))))
  (sRet (fLstS (fCons (fVar 3) (fCons (fVar 4) (fNil))))))))
def L_take : FnF := fnD 2 3 (sSeq (sIf (tCmpF cGt (fBin dIdx (fVar 0) (fCon (.int 0))) (fCon (.int 0))) (sSeq (sSet 2 (fBin dMod (fBin dIdx (fVar 0) (fCon (.int 0))) (fVar 1)))
  (sSeq (sPut (fVar 0) (fCon (.int 0)) (fBin dFdiv (fBin dIdx (fVar 0) (fCon (.int 0))) (fVar 1)))
  (sRet (fVar 2)))) (sNil))
  (sSeq (sPut (fVar 0) (fCon (.int 1)) (fBin dMod (fBin dAdd (fBin dMul (fBin dIdx (fVar 0) (fCon (.int 1))) (fCon (.int 6364136223846793005))) (fCon (.int 1442695040888963407))) (fCon (.int 2305843009213693951))))
  (sRet (fBin dMod (fBin dFdiv (fBin dIdx (fVar 0) (fCon (.int 1))) (fCon (.int 65536))) (fVar 1)))))
def L_pick : FnF := fnD 2 2 (sRet (fBin dIdx (fVar 1) (fCall 2 L_take (fCons (fVar 0) (fCons (fBlt bLen (fCons (fVar 1) (fNil))) (fNil))))))

theorem cMul_r (i : Int) {j : Int} (h1 : -(2 ^ 64) < j) (h2 : j < 2 ^ 64) : cMul i j = true := by
  unfold cMul
  rw [decide_eq_true h1, decide_eq_true h2]
  simp
@[simp] theorem cMul_lcg (i : Int) : cMul i 6364136223846793005 = true := cMul_r i (by omega) (by omega)
@[simp] theorem dMul_int (i j : Int) (st : Store) : dMul (.int i) (.int j) st = if cMul i j = true then some (.int (i * j)) else none := rfl
@[simp] theorem dAdd_int (i j : Int) (st : Store) : dAdd (.int i) (.int j) st = some (.int (i + j)) := rfl
@[simp] theorem dSub_int (i j : Int) (st : Store) : dSub (.int i) (.int j) st = some (.int (i - j)) := rfl
theorem dPow_int {i j : Int} (h : cPow i j = true) (st : Store) : dPow (.int i) (.int j) st = some (.int (i ^ j.toNat)) := by
  show (if cPow i j = true then some (D.int (i ^ j.toNat)) else none) = _
  rw [if_pos h]
theorem dMod_int {i j : Int} (h : 0 < j) (st : Store) : dMod (.int i) (.int j) st = some (.int (i % j)) := by
  have h0 : decide (j ≠ 0) = true := decide_eq_true (by omega)
  show (if decide (j ≠ 0) = true then some (D.int (i.fmod j)) else none) = _
  rw [if_pos h0, Int.fmod_eq_emod_of_nonneg _ (by omega)]
theorem dFdiv_int {i j : Int} (h : 0 < j) (h2 : j < 1073741824) (st : Store) : dFdiv (.int i) (.int j) st = some (.int (i / j)) := by
  have h0 : cDiv i j = true := by
    unfold cDiv
    rw [decide_eq_true (show j ≠ 0 by omega), decide_eq_true (show j.natAbs < 1073741824 by omega)]
    rfl
  show (if cDiv i j = true then some (D.int (i.fdiv j)) else none) = _
  rw [if_pos h0, Int.fdiv_eq_ediv_of_nonneg _ (by omega)]
theorem take_ok {st : Store} {n : Nat} {m : Int} (h : Fd n st) (hm : 0 < m) (hm2 : m < 1073741824) :
    Wp (L_take [.ref n, .int m] st) (fun d st' => ∃ r, d = .int r ∧ 0 ≤ r ∧ r < m ∧ Fr n st st') := by
  obtain ⟨a, b, h1, h2, h3⟩ := h
  have hl := (List.getElem?_eq_some_iff.mp h1).1
  unfold L_take
  rw [wp_fn]
  refine ⟨rfl, ?_⟩
  simp only [wps_seq, wps_if, wpt_cmp, wp_bin, wp_var, wp_con, wps_set, wps_put, wps_ret, wps_nil]
  have hm0 : m ≠ 0 := by omega
  by_cases ha : 0 < a
  · simp [dIdx, lsqOf, h1, cGt, cI, ha, dMod_int hm, dFdiv_int hm hm2, setAt, ixN]
    exact ⟨Int.emod_nonneg _ hm0, Int.emod_lt_of_pos _ hm, Fr.set h1 (Int.ediv_nonneg h2 (by omega)) h3⟩
  · simp [dIdx, lsqOf, h1, cGt, cI, ha, dMod_int hm, dMod_int (show (0 : Int) < 2305843009213693951 by omega), dFdiv_int (show (0 : Int) < 65536 by omega) (by omega), setAt, ixN, List.getElem?_set_self hl]
    exact ⟨Int.emod_nonneg _ hm0, Int.emod_lt_of_pos _ hm, Fr.set h1 h2 (Int.emod_nonneg _ (by omega))⟩

theorem pick_ok {st : Store} {n : Nat} {L : D} {xs : List D} (h : Fd n st) (hL : lsqOf st L = some xs) (hL2 : ∀ st', Fr n st st' → lsqOf st' L = some xs) (hl : lenOf st L = some xs.length) (hi : ∀ (i : Int) st', dIdx L (.int i) st' = (match lsqOf st' L with | some xs => L2.atI xs i | none => none))
    (h0 : 0 < xs.length) (h1 : xs.length < 1073741824) :
    Wp (L_pick [.ref n, L] st) (fun d st' => d ∈ xs ∧ Fr n st st') := by
  unfold L_pick
  rw [wp_fn]
  refine ⟨rfl, ?_⟩
  simp only [wps_ret, wp_bin, wp_var, wp_call, wp_cons, wp_nil, wp_blt]
  simp [bLen, hl]
  refine (take_ok h (m := (xs.length : Int)) (by omega) (by omega)).mono fun d st1 hd => ?_
  obtain ⟨r, rfl, h2, h3, hf⟩ := hd
  rw [hi, hL2 st1 hf]
  obtain ⟨x, e, hx⟩ := atI_of h2 h3
  exact ⟨x, e, hx, hf⟩
/-- a pick among the items of a list by value -/
theorem pick_tl {st : Store} {n : Nat} {xs : List D} (h : Fd n st) (h0 : 0 < xs.length) (h1 : xs.length < 1073741824) : Wp (L_pick [.ref n, .tl xs] st) (fun d st' => d ∈ xs ∧ Fr n st st') :=
  pick_ok h rfl (fun _ _ => rfl) rfl (fun _ _ => rfl) h0 h1
theorem feed_ok {st : Store} {script : D} {ns : List Int} {k : Nat} (hs : lsqOf st script = some (ns.map D.int)) (hlen : lenOf st script = some ns.length) (hi : ∀ (i : Int) st', dIdx script (.int i) st' = (match lsqOf st' script with | some xs => L2.atI xs i | none => none)) (hk : k < 1000) :
    Wp (L_feed [script, .int k] st) (fun d st' => d = .ref st.length ∧ ∃ a b : Int, st' = st ++ [.lst [.int a, .int b]] ∧ 0 ≤ a ∧ 0 ≤ b) := by
  unfold L_feed
  rw [wp_fn]
  refine ⟨rfl, ?_⟩
  have tail : ∀ (cell : Int), Wp (sSeq (sSet 3 (fBlt bMax (fCons (fCon (.int 0)) (fCons (fBin dSub (fBlt bAbs (fCons (fVar 2) (fNil))) (fBin dPow (fCon (.int 10)) (fCon (.int 18)))) (fNil)))))
      (sSeq (sSet 4 (fBin dMod (fBin dAdd (fBin dAdd (fBin dMul (fVar 2) (fCon (.int 6364136223846793005))) (fBin dMul (fCon (.int 9973)) (fVar 1))) (fCon (.int 1442695040888963407))) (fCon (.int 2305843009213693951))))
      (sRet (fLstS (fCons (fVar 3) (fCons (fVar 4) (fNil)))))) [some script, some (.int k), some (.int cell), none, none] st) (fun o st1 => match o with
        | .rt d => d = .ref st.length ∧ ∃ a b : Int, st1 = st ++ [.lst [.int a, .int b]] ∧ 0 ≤ a ∧ 0 ≤ b
        | .nx _ => D.non = .ref st.length ∧ ∃ a b : Int, st1 = st ++ [.lst [.int a, .int b]] ∧ 0 ≤ a ∧ 0 ≤ b
        | _ => False) := by
    intro cell
    have hp : dPow (.int 10) (.int 18) st = some (.int 1000000000000000000) := dPow_int (by decide) st
    have hm : cMul 9973 (k : Int) = true := by
      unfold cMul
      rw [decide_eq_true (show -(2 ^ 64 : Int) < 9973 by omega), decide_eq_true (show (9973 : Int) < 2 ^ 64 by omega)]
      rfl
    simp only [wps_seq, wps_set, wp_blt, wp_cons, wp_con, wp_bin, wp_var, wp_nil, wps_ret, wp_lstS]
    simp [bAbs, bMax, hp, hm, dMod_int (show (0 : Int) < 2305843009213693951 by omega)]
    refine ⟨_, _, ⟨rfl, rfl⟩, ?_, Int.emod_nonneg _ (by omega)⟩
    repeat' split
    all_goals omega
  have hB : (fnD 2 5 : FS → FnF) = fnD 2 5 := rfl
  simp only [wps_seq (B := sSet 2 _), wps_set, wp_ite, wpt_cmp, wp_var, wp_blt, wp_cons, wp_nil]
  simp [bLen, hlen, cLt, cI, -Bool.exists_bool]
  by_cases hkl : (k : Int) < ns.length
  · have hk2 : k < ns.length := by omega
    simp [hk2, hi, hs]
    have : L2.atI (ns.map D.int) (k : Int) = some (.int ns[k]) := by
      unfold L2.atI ixN
      simp [hk2]
    rw [this]
    simpa using tail _
  · have hk2 : ¬ k < ns.length := by omega
    have hm2 : cMul 71 (k : Int) = true := by
      unfold cMul
      rw [decide_eq_true (show -(2 ^ 64 : Int) < 71 by omega), decide_eq_true (show (71 : Int) < 2 ^ 64 by omega)]
      rfl
    simp [hk2, hm2]
    simpa using tail _
end Vm
namespace Vm
open PySem PySem.Spec PyProof.Rows L2

/-! ### data of a fair size -/
mutual
def small : D → Bool
  | .non => true
  | .bl _ => true
  | .int _ => true
  | .str x => PyData.strOk x && decide (x.length ≤ 1000)
  | .tup ds => smalls ds && decide (ds.length ≤ 1000)
  | .tl ds => smalls ds && decide (ds.length ≤ 1000)
  | .sl ds => smalls ds && decide (ds.length ≤ 1000)
  | .ref _ => false
  | .ty _ => false
def smalls : List D → Bool
  | [] => true
  | d :: ds => small d && smalls ds
end
mutual
theorem okd_small : ∀ d : D, small d = true → okd d = true
  | .non, _ => rfl
  | .bl _, _ => rfl
  | .int _, _ => rfl
  | .str x, h => by simp only [small, Bool.and_eq_true] at h; exact h.1
  | .tup ds, h => by simp only [small, Bool.and_eq_true] at h; simp only [okd]; exact okds_small ds h.1
  | .tl ds, h => by simp only [small, Bool.and_eq_true] at h; simp only [okd]; exact okds_small ds h.1
  | .sl ds, h => by simp only [small, Bool.and_eq_true] at h; simp only [okd]; exact okds_small ds h.1
  | .ref _, h => by simp [small] at h
  | .ty _, h => by simp [small] at h
theorem okds_small : ∀ ds : List D, smalls ds = true → okds ds = true
  | [], _ => rfl
  | d :: ds, h => by
    simp only [smalls, Bool.and_eq_true] at h
    simp only [okds, okd_small d h.1, okds_small ds h.2, Bool.and_self]
end
theorem smalls_mem : ∀ {ds : List D} {d : D}, smalls ds = true → d ∈ ds → small d = true
  | e :: ds, d, h, hm => by
    simp only [smalls, Bool.and_eq_true] at h
    rcases List.mem_cons.mp hm with rfl | hm
    · exact h.1
    · exact smalls_mem h.2 hm
theorem smalls_of : ∀ {ds : List D}, (∀ d ∈ ds, small d = true) → smalls ds = true
  | [], _ => rfl
  | d :: ds, h => by
    simp only [smalls, h d List.mem_cons_self, smalls_of fun x hx => h x (List.mem_cons_of_mem _ hx), Bool.and_self]
theorem deps_mem : ∀ {ds : List D} {d : D}, d ∈ ds → dep d ≤ deps ds
  | e :: ds, d, hm => by
    simp only [deps]
    rcases List.mem_cons.mp hm with rfl | hm
    · omega
    · have := deps_mem hm; omega
theorem deps_of {n : Nat} : ∀ {ds : List D}, (∀ d ∈ ds, dep d ≤ n) → deps ds ≤ n
  | [], _ => Nat.zero_le _
  | d :: ds, h => by
    simp only [deps]
    have h1 := h d List.mem_cons_self
    have h2 := deps_of fun x hx => h x (List.mem_cons_of_mem _ hx)
    omega
theorem wp_eq {α : Type} {r : Option (α × Store)} {x : α} {st : Store} (h : Wp r fun a s => a = x ∧ s = st) : r = some (x, st) := by
  obtain ⟨a, s, e, rfl, rfl⟩ := h
  exact e
@[simp] theorem deref_small {st : Store} {d : D} (h : small d = true) : deref st d = d := by
  cases d <;> simp_all [deref, small]
/-! texts -/
def isS (s : Str) : D → Bool
  | .str x => x == s
  | _ => false
theorem deq_str (d : D) (s : Str) : deq d (.str s) = isS s d := by
  cases d <;> simp [deq, pd, PyData.eqv, isS]
theorem str_deq (d : D) (s : Str) : deq (.str s) d = isS s d := by
  cases d <;> simp [deq, pd, PyData.eqv, isS]
  rename_i x
  exact Bool.beq_comm

/-! ### names -/
def azS (c : Nat) : Bool := decide (97 ≤ c) && decide (c ≤ 122)
def isNm : D → Bool
  | .str x => decide (1 ≤ x.length) && decide (x.length ≤ 8) && x.cps.toList.all azS
  | _ => false
def isWh : D → Bool
  | .int _ => true
  | _ => false
def isTm : D → Bool
  | .int i => decide (-999999999 ≤ i) && decide (i ≤ 999999999)
  | d => isNm d
def L_is_whole : FnF := fnD 1 1 (sRet (fAnd (fIsi .int (fVar 0)) (fNot (fIsi .bl (fVar 0)))))
noncomputable def L_is_name : FnF := fnD 1 2 (sSeq (sIf (tOrF (tNotF (tTru (fIsi .str (fVar 0)))) (tNotF (tChainF cLe cLe (fCon (.int 1)) (fBlt bLen (fCons (fVar 0) (fNil))) (fCon (.int 8))))) (sRet (fCon (.bl false))) (sNil))
  (sRet (fBlt bAll (fCons (fComp [1] (iVal (fVar 0)) (gSet 1) (tYesF) (fChain cLe cLe (fCon (.str "a")) (fVar 1) (fCon (.str "z")))) (fNil)))))
noncomputable def L_is_term : FnF := fnD 1 1 (sRet (fOr (fCall 1 L_is_name (fCons (fVar 0) (fNil))) (fAnd (fCall 1 L_is_whole (fCons (fVar 0) (fNil))) (fChain cLe cLe (fNeg (fCon (.int 999999999))) (fVar 0) (fCon (.int 999999999))))))
theorem is_whole_eq {d : D} {st : Store} (h : small d = true) : L_is_whole [d] st = some (.bl (isWh d), st) := by
  apply wp_eq
  unfold L_is_whole
  rw [wp_fn]
  refine ⟨rfl, ?_⟩
  cases d <;> simp [small] at h <;> simp [tagOf, isTag, tru, isWh, -Bool.exists_bool]
theorem lt1 (a b : Nat) : ([a] < [b]) ↔ a < b := by
  rw [List.cons_lt_cons_iff]
  simp
theorem az_le (c : Nat) : (!decide ([c] < [97])) = decide (97 ≤ c) ∧ (!decide ([122] < [c])) = decide (c ≤ 122) := by
  constructor
  · rw [decide_eq_decide.mpr (lt1 c 97), ← decide_not]
    exact decide_eq_decide.mpr (by omega)
  · rw [decide_eq_decide.mpr (lt1 122 c), ← decide_not]
    exact decide_eq_decide.mpr (by omega)
theorem chain_az (c : Nat) (env : En) (st : Store) (h : env[1]? = some (some (.str ⟨#[c]⟩))) : fChain cLe cLe (fCon (.str "a")) (fVar 1) (fCon (.str "z")) env st = some (.bl (azS c), st) := by
  apply wp_eq
  have e1 : ("a" : Str).cps.toList = [97] := by decide
  have e2 : ("z" : Str).cps.toList = [122] := by decide
  simp only [wp_chain, wp_con, wp_var, h, Option.some.injEq, exists_eq_left', cLe, cI, e1, e2, (az_le c).1, (az_le c).2]
  unfold azS
  by_cases h1 : 97 ≤ c <;> simp [h1]
theorem boolsOf_map {α : Type} (f : α → Bool) : ∀ xs : List α, boolsOf (xs.map fun x => .bl (f x)) = some (xs.map f)
  | [] => rfl
  | x :: xs => by simp [boolsOf, boolsOf_map f xs]
theorem all_id {α : Type} (f : α → Bool) (xs : List α) : (xs.map f).all id = xs.all f := by
  rw [List.all_map]
  rfl
theorem name_loop {z : Str} {st : Store} {env : En} (hz : z.cps.size ≤ 16777216) (he : env[1]? ≠ none) (h0 : env[0]? = some (some (.str z))) :
    fBlt bAll (fCons (fComp [1] (iVal (fVar 0)) (gSet 1) (tYesF) (fChain cLe cLe (fCon (.str "a")) (fVar 1) (fCon (.str "z")))) (fNil)) env st = some (.bl (z.cps.toList.all azS), st) := by
  apply wp_eq
  simp only [wp_blt, wp_cons, wp_nil, wp_comp, wpi_val, wp_var, h0, Option.some.injEq, exists_eq_left', itemsOf]
  refine ⟨by simpa using hz, ?_⟩
  have hl : 1 < env.length := by
    rcases Nat.lt_or_ge 1 env.length with h | h
    · exact h
    · exact absurd (List.getElem?_eq_none h) he
  rw [compN_map (f := fun d => match d with | .str x => .bl (azS (x.cps.getD 0 0)) | _ => .non)]
  · simp only [wp_some, bAll, lsqOf]
    rw [List.map_map]
    have : (z.cps.toList.map ((fun d => match d with | .str x => D.bl (azS (x.cps.getD 0 0)) | _ => .non) ∘ fun c => D.str ⟨#[c]⟩)) = z.cps.toList.map fun c => .bl (azS c) := by
      apply List.map_congr_left
      intro c _
      rfl
    rw [this, boolsOf_map]
    simp only [all_id, wp_some, and_self]
  · intro d hd
    obtain ⟨c, _, rfl⟩ := List.mem_map.mp hd
    refine ⟨(wipeE env [1]).set 1 (some (.str ⟨#[c]⟩)), rfl, ?_⟩
    have : ((wipeE env [1]).set 1 (some (D.str ⟨#[c]⟩)))[1]? = some (some (.str ⟨#[c]⟩)) := by
      simp [wipeE, hl]
    rw [chain_az c _ st this]
    rfl
theorem is_name_eq {d : D} {st : Store} (h : small d = true) : L_is_name [d] st = some (.bl (isNm d), st) := by
  apply wp_eq
  unfold L_is_name
  rw [wp_fn]
  refine ⟨rfl, ?_⟩
  cases d with
  | str z =>
    simp only [small, Bool.and_eq_true, decide_eq_true_eq] at h
    have hz : z.cps.size ≤ 16777216 := by have := h.2; unfold Str.length at this; omega
    have hz2 : z.length ≤ 16777216 := by have := h.2; omega
    have key := name_loop (z := z) (st := st) (env := [some (.str z), none]) hz (by simp) rfl
    generalize fBlt bAll (fCons (fComp [1] (iVal (fVar 0)) (gSet 1) (tYesF) (fChain cLe cLe (fCon (.str "a")) (fVar 1) (fCon (.str "z")))) (fNil)) = Fx at key ⊢
    simp only [wps_seq, wps_if, wpt_or, wpt_not, wpt_tru, wp_isi, wp_var, wpt_chain, wp_chain, wp_con, wp_blt, wp_cons, wp_nil, wps_ret, wps_nil]
    simp [tagOf, isTag, tru, bLen, lenOf, hz2, cLe, cI, key, -Bool.exists_bool]
    by_cases h1 : 1 ≤ z.length
    · by_cases h2 : z.length ≤ 8
      · simp [h1, h2, show (z.length : Int) ≤ 8 by omega, show (1 : Int) ≤ z.length by omega, isNm, key]
      · simp [h1, h2, show ¬ (z.length : Int) ≤ 8 by omega, show (1 : Int) ≤ z.length by omega, isNm]
    · simp [h1, show ¬ (1 : Int) ≤ z.length by omega, isNm]
  | _ => simp [small] at h <;> simp [tagOf, isTag, tru, isNm, -Bool.exists_bool]
end Vm
namespace Vm
open PySem PySem.Spec PyProof.Rows L2
theorem is_term_eq {d : D} {st : Store} (h : small d = true) : L_is_term [d] st = some (.bl (isTm d), st) := by
  apply wp_eq
  unfold L_is_term
  rw [wp_fn]
  refine ⟨rfl, ?_⟩
  have e1 := is_name_eq (st := st) h
  have e2 := is_whole_eq (st := st) h
  cases d with
  | int i =>
    simp [e1, e2, tru, isNm, isWh, cLe, cI, isTm, -Bool.exists_bool]
    by_cases h1 : -999999999 ≤ i <;> simp [h1]
  | str x =>
    simp [e1, e2, tru, isWh, isTm, -Bool.exists_bool]
  | _ => simp [small] at h <;> simp [e1, e2, tru, isNm, isWh, isTm, -Bool.exists_bool]
def isPc : D → Bool
  | .tup [k, t] => if isS "one" k = true then isTm t else (isS "row" k || isS "back" k) && isNm t
  | _ => false
def isWd : D → Bool
  | .tup ps => decide (ps.length ≤ 6) && ps.all isPc
  | _ => false
noncomputable def L_is_piece : FnF := fnD 1 3 (sSeq (sIf (tOrF (tNotF (tTru (fIsi .tup (fVar 0)))) (tCmpF cNe (fBlt bLen (fCons (fVar 0) (fNil))) (fCon (.int 2)))) (sRet (fCon (.bl false))) (sNil))
  (sSeq (sAsg (gTupF 2 (gConsF (gSet 1) (gConsF (gSet 2) (gNilF)))) (fVar 0))
  (sSeq (sIf (tCmpF cEq (fVar 1) (fCon (.str "one"))) (sRet (fCall 1 L_is_term (fCons (fVar 2) (fNil)))) (sNil))
  (sRet (fAnd (fCmp cIn (fVar 1) (fTup (fCons (fCon (.str "row")) (fCons (fCon (.str "back")) (fNil))))) (fCall 1 L_is_name (fCons (fVar 2) (fNil))))))))
theorem okEq_str {d : D} (h : small d = true) (s : Str) (hs : PyData.strOk s = true) : okEq d (.str s) = true := by
  unfold okEq
  simp [okd_small d h, okd, hs, dep]
theorem cEq_str {d : D} {st : Store} (h : small d = true) (s : Str) (hs : PyData.strOk s = true) : cEq d (.str s) st = some (isS s d) := by
  unfold cEq
  rw [deref_small h]
  show (if okEq d (.str s) = true then some (deq d (.str s)) else none) = _
  rw [if_pos (okEq_str h s hs), deq_str]
theorem cIn_strs {d : D} {st : Store} (h : small d = true) (ss : List Str) (hs : ∀ s ∈ ss, PyData.strOk s = true) : cIn d (.tup (ss.map D.str)) st = some (ss.any fun s => isS s d) := by
  have hok : okds (ss.map D.str) = true := by
    induction ss with
    | nil => rfl
    | cons s ss ih => simp [okds, okd, hs s List.mem_cons_self, ih fun x hx => hs x (List.mem_cons_of_mem _ hx)]
  have hdp : deps (ss.map D.str) = 0 := by
    have := deps_of (n := 0) (ds := ss.map D.str) (by intro x hx; obtain ⟨s, _, rfl⟩ := List.mem_map.mp hx; simp [dep])
    omega
  have e := deref_small (st := st) h
  unfold cIn isIn
  rw [show deref st (.tup (ss.map D.str)) = .tup (ss.map D.str) from rfl]
  simp only [e, hok, okd_small d h, hdp]
  simp [str_deq, Function.comp_def]
theorem is_piece_eq {d : D} {st : Store} (h : small d = true) : L_is_piece [d] st = some (.bl (isPc d), st) := by
  apply wp_eq
  unfold L_is_piece
  rw [wp_fn]
  refine ⟨rfl, ?_⟩
  cases d with
  | tup xs =>
    have hi : ∀ a b : Int, cNe (.int a) (.int b) st = some (!decide (a = b)) := by
      intro a b
      unfold cNe
      show (if okEq (.int a) (.int b) = true then some (!deq (.int a) (.int b)) else none) = _
      have : okEq (.int a) (.int b) = true := by simp [okEq, okd, dep]
      rw [if_pos this]
      congr 1
    by_cases hl : xs.length = 2
    · obtain ⟨k, t, rfl⟩ : ∃ k t, xs = [k, t] := by
        match xs, hl with
        | [k, t], _ => exact ⟨k, t, rfl⟩
      simp only [small, smalls, Bool.and_eq_true] at h
      obtain ⟨⟨hk, ht, _⟩, _⟩ := h
      have e1 := cEq_str (st := st) hk "one" (by decide +kernel)
      have e2 := cIn_strs (st := st) hk ["row", "back"] (by decide +kernel)
      simp [tagOf, isTag, tru, bLen, lenOf, hi, gTupF, gConsF, gSet, gNilF, e1, is_term_eq ht, is_name_eq ht, -Bool.exists_bool]
      by_cases h1 : isS "one" k = true
      · simp [h1, isPc]
      · simp only [List.map_cons, List.map_nil] at e2
        simp [h1, isPc, e2, -Bool.exists_bool]
        by_cases h2 : isS "row" k = true
        · simp [h2]
        · by_cases h3 : isS "back" k = true
          · simp [h2, h3]
          · simp [h2, h3]
    · have hl2 : ¬ ((xs.length : Int) = 2) := by omega
      have : isPc (.tup xs) = false := by
        unfold isPc
        split
        · rename_i e; cases e; exact absurd rfl hl
        · rfl
      simp [tagOf, isTag, tru, bLen, lenOf, hi, hl2, this, -Bool.exists_bool]
  | _ => simp [small] at h <;> simp [tagOf, isTag, tru, isPc, -Bool.exists_bool]
noncomputable def L_is_word : FnF := fnD 1 2 (sSeq (sIf (tOrF (tNotF (tTru (fIsi .tup (fVar 0)))) (tCmpF cGt (fBlt bLen (fCons (fVar 0) (fNil))) (fCon (.int 6)))) (sRet (fCon (.bl false))) (sNil))
  (sRet (fBlt bAll (fCons (fComp [1] (iVal (fVar 0)) (gSet 1) (tYesF) (fCall 1 L_is_piece (fCons (fVar 1) (fNil)))) (fNil)))))
/-- all([f(x) for x in t]) with x in slot 1 of two -/
theorem all_loop {f : FnF} {p : D → Bool} {st : Store} {xs : List D} {env : En} {i : Nat} {v : D} (hv : env[i]? = some (some v)) (hit : itemsOf st v = some (xs, fun _ => True)) (hl : 1 < env.length) (hx : xs.length ≤ 16777216) (hf : ∀ d ∈ xs, f [d] st = some (.bl (p d), st)) :
    fBlt bAll (fCons (fComp [1] (iVal (fVar i)) (gSet 1) (tYesF) (fCall 1 f (fCons (fVar 1) (fNil)))) (fNil)) env st = some (.bl (xs.all p), st) := by
  apply wp_eq
  simp only [wp_blt, wp_cons, wp_nil, wp_comp, wpi_val, wp_var, hv, hit, Option.some.injEq, exists_eq_left']
  refine ⟨hx, ?_⟩
  rw [compN_map (f := fun d => .bl (p d))]
  · simp only [wp_some, bAll, lsqOf, boolsOf_map, all_id, and_self]
  · intro d hd
    refine ⟨_, rfl, ?_⟩
    apply wp_eq
    simp [wipeE, hl, hf d hd]
theorem is_word_eq {d : D} {st : Store} (h : small d = true) : L_is_word [d] st = some (.bl (isWd d), st) := by
  apply wp_eq
  unfold L_is_word
  rw [wp_fn]
  refine ⟨rfl, ?_⟩
  cases d with
  | tup xs =>
    simp only [small, Bool.and_eq_true, decide_eq_true_eq] at h
    have key := all_loop (f := L_is_piece) (p := isPc) (st := st) (xs := xs) (env := [some (.tup xs), none]) (i := 0) (v := .tup xs) rfl rfl (by simp) (by omega) fun d hd => is_piece_eq (smalls_mem h.1 hd)
    generalize fBlt bAll (fCons (fComp [1] (iVal (fVar 0)) (gSet 1) (tYesF) (fCall 1 L_is_piece (fCons (fVar 1) (fNil)))) (fNil)) = Fx at key ⊢
    simp [tagOf, isTag, tru, bLen, lenOf, cGt, cI, key, -Bool.exists_bool]
    by_cases hl : xs.length ≤ 6
    · simp [show ¬ (6 : Int) < xs.length by omega, isWd, hl, key]
    · simp [show (6 : Int) < xs.length by omega, isWd, hl]
  | _ => simp [small] at h <;> simp [tagOf, isTag, tru, isWd, -Bool.exists_bool]
end Vm
namespace Vm
open PySem PySem.Spec PyProof.Rows L2
/-! ### the laws' own looks -/
noncomputable def W_is_name : FnF := fnD 1 2 (sSeq (sIf (tOrF (tNotF (tTru (fIsi .str (fVar 0)))) (tOrF (tCmpF cEq (fVar 0) (fCon (.str ""))) (tCmpF cGt (fBlt bLen (fCons (fVar 0) (fNil))) (fCon (.int 8))))) (sRet (fCon (.bl false))) (sNil))
  (sRet (fCmp cEq (fComp [1] (iVal (fVar 0)) (gSet 1) (tCmpF cNotIn (fVar 1) (fCon (.str "abcdefghijklmnopqrstuvwxyz"))) (fVar 1)) (fLst (fNil)))))
theorem az_in (c : Nat) : decide (c ∈ ("abcdefghijklmnopqrstuvwxyz" : Str).cps.toList) = azS c := by
  have e : ("abcdefghijklmnopqrstuvwxyz" : Str).cps.toList = [97, 98, 99, 100, 101, 102, 103, 104, 105, 106, 107, 108, 109, 110, 111, 112, 113, 114, 115, 116, 117, 118, 119, 120, 121, 122] := by decide +kernel
  rw [e]
  unfold azS
  rw [← Bool.decide_and]
  apply decide_eq_decide.mpr
  simp only [List.mem_cons, List.not_mem_nil, or_false]
  omega
theorem cNotIn_az (c : Nat) (st : Store) : cNotIn (.str ⟨#[c]⟩) (.str "abcdefghijklmnopqrstuvwxyz") st = some (!azS c) := by
  have : isIn (.str ⟨#[c]⟩) (.str "abcdefghijklmnopqrstuvwxyz") st = some (azS c) := by
    unfold isIn
    rw [show deref st (.str "abcdefghijklmnopqrstuvwxyz") = .str "abcdefghijklmnopqrstuvwxyz" from rfl]
    simp only [show (#[c] : Array Nat).size = 1 from rfl, if_true]
    rw [← az_in c]
    rfl
  unfold cNotIn
  rw [this]
theorem str_empty (z : Str) : (z == ("" : Str)) = decide (z.length = 0) := by
  by_cases h : z.length = 0
  · have : z = ("" : Str) := by
      apply str_ext
      have h' : z.cps.toList.length = 0 := by simpa [Str.length] using h
      rw [List.length_eq_zero_iff.mp h']
      decide +kernel
    rw [this]
    decide +kernel
  · rw [decide_eq_false h]
    apply beq_eq_false_iff_ne.mpr
    rintro rfl
    exact h (by decide +kernel)
theorem empty_filter {α : Type} (p : α → Bool) : ∀ xs : List α, (xs.filter p).isEmpty = xs.all fun x => !p x
  | [] => rfl
  | x :: xs => by
    rw [List.filter_cons, List.all_cons]
    cases h : p x
    · simp [empty_filter p xs]
    · simp
theorem W_name_loop {z : Str} {st : Store} {env : En} (hz : z.cps.size ≤ 16777216) (hok : PyData.strOk z = true) (hl : 1 < env.length) (h0 : env[0]? = some (some (.str z))) :
    fCmp cEq (fComp [1] (iVal (fVar 0)) (gSet 1) (tCmpF cNotIn (fVar 1) (fCon (.str "abcdefghijklmnopqrstuvwxyz"))) (fVar 1)) (fLst (fNil)) env st = some (.bl (z.cps.toList.all azS), st) := by
  apply wp_eq
  simp only [wp_cmp, wp_comp, wpi_val, wp_var, h0, Option.some.injEq, exists_eq_left', itemsOf]
  refine ⟨by simpa using hz, ?_⟩
  rw [compN_filter (f := id) (p := fun d => match d with | .str x => !azS (x.cps.getD 0 0) | _ => false)]
  · simp only [wp_some, wp_lst, wp_nil, List.map_id]
    refine ⟨Nat.zero_le _, ?_⟩
    have hall : ∀ d ∈ (z.cps.toList.map fun c => D.str ⟨#[c]⟩).filter (fun d => match d with | .str x => !azS (x.cps.getD 0 0) | _ => false), okd d = true := by
      intro d hd
      have hd' := (List.mem_filter.mp hd).1
      obtain ⟨c, hc, rfl⟩ := List.mem_map.mp hd'
      unfold PyData.strOk at hok
      have := Array.all_eq_true'.mp hok c (by simpa using hc)
      simp only [okd, PyData.strOk]
      simpa using this
    generalize hF : (z.cps.toList.map fun c => D.str ⟨#[c]⟩).filter (fun d => match d with | .str x => !azS (x.cps.getD 0 0) | _ => false) = ys at hall
    have hoks : ∀ ys : List D, (∀ d ∈ ys, okd d = true) → okds ys = true := by
      intro ys
      induction ys with
      | nil => intro _; rfl
      | cons d ys ih => intro h; simp [okds, h d List.mem_cons_self, ih fun x hx => h x (List.mem_cons_of_mem _ hx)]
    have e : cEq (.tl ys) (.tl []) st = some (deq (.tl ys) (.tl [])) := by
      unfold cEq
      show (if okEq (.tl ys) (.tl []) = true then some (deq (.tl ys) (.tl [])) else none) = _
      rw [if_pos]
      unfold okEq
      simp [okd, okds, hoks ys hall, dep, deps]
    refine ⟨_, e, ?_⟩
    simp only [D.bl.injEq, and_true]
    have h1 : deq (.tl ys) (.tl []) = ys.isEmpty := by
      cases ys <;> simp [deq, pd, pds, PyData.eqv, PyData.eqvAll]
    rw [h1, ← hF, empty_filter, List.all_map]
    congr 1
    funext c
    simp
  · intro d hd
    obtain ⟨c, _, rfl⟩ := List.mem_map.mp hd
    refine ⟨(wipeE env [1]).set 1 (some (.str ⟨#[c]⟩)), rfl, ?_, fun _ => ?_⟩
    · apply wp_eq
      simp [wipeE, hl, cNotIn_az]
    · apply wp_eq
      simp [wipeE, hl]
theorem W_is_name_eq {d : D} {st : Store} (h : small d = true) : W_is_name [d] st = some (.bl (isNm d), st) := by
  apply wp_eq
  unfold W_is_name
  rw [wp_fn]
  refine ⟨rfl, ?_⟩
  cases d with
  | str z =>
    have e0 := cEq_str (st := st) h "" (by decide +kernel)
    simp only [small, Bool.and_eq_true, decide_eq_true_eq] at h
    have hz : z.cps.size ≤ 16777216 := by have := h.2; unfold Str.length at this; omega
    have hz2 : z.length ≤ 16777216 := by have := h.2; omega
    have key := W_name_loop (z := z) (st := st) (env := [some (.str z), none]) hz h.1 (by simp) rfl
    generalize fCmp cEq (fComp [1] (iVal (fVar 0)) (gSet 1) (tCmpF cNotIn (fVar 1) (fCon (.str "abcdefghijklmnopqrstuvwxyz"))) (fVar 1)) (fLst (fNil)) = Fx at key ⊢
    simp [tagOf, isTag, tru, bLen, lenOf, hz2, cGt, cI, key, e0, isS, str_empty, -Bool.exists_bool]
    by_cases h1 : z.length = 0
    · simp [h1, isNm]
    · by_cases h2 : z.length ≤ 8
      · simp [h1, h2, show ¬ (8 : Int) < z.length by omega, show 1 ≤ z.length by omega, isNm, key]
      · simp [h1, h2, show (8 : Int) < z.length by omega, isNm]
  | _ => simp [small] at h <;> simp [tagOf, isTag, tru, isNm, -Bool.exists_bool]
noncomputable def W_is_term : FnF := fnD 1 1 (sRet (fOr (fCall 1 W_is_name (fCons (fVar 0) (fNil))) (fAnd (fCall 1 L_is_whole (fCons (fVar 0) (fNil))) (fChain cLt cLt (fNeg (fBin dPow (fCon (.int 10)) (fCon (.int 9)))) (fVar 0) (fBin dPow (fCon (.int 10)) (fCon (.int 9)))))))
theorem W_is_term_eq {d : D} {st : Store} (h : small d = true) : W_is_term [d] st = some (.bl (isTm d), st) := by
  apply wp_eq
  unfold W_is_term
  rw [wp_fn]
  refine ⟨rfl, ?_⟩
  have e1 := W_is_name_eq (st := st) h
  have e2 := is_whole_eq (st := st) h
  have hp : ∀ st, dPow (.int 10) (.int 9) st = some (.int 1000000000) := fun st => dPow_int (by decide) st
  cases d with
  | int i =>
    simp [e1, e2, tru, isNm, isWh, cLt, cI, isTm, hp, -Bool.exists_bool]
    by_cases h1 : -1000000000 < i
    · simp [h1, show -999999999 ≤ i by omega]
      omega
    · simp [h1, show ¬ -999999999 ≤ i by omega]
  | str x =>
    simp [e1, e2, tru, isWh, isTm, -Bool.exists_bool]
  | _ => simp [small] at h <;> simp [e1, e2, tru, isNm, isWh, isTm, -Bool.exists_bool]
noncomputable def W_is_word : FnF := fnD 1 2 (sSeq (sIf (tOrF (tNotF (tTru (fIsi .tup (fVar 0)))) (tCmpF cGt (fBlt bLen (fCons (fVar 0) (fNil))) (fCon (.int 6)))) (sRet (fCon (.bl false))) (sNil))
  (sSeq (sFor (iVal (fVar 0)) (gSet 1) (sSeq (sIf (tOrF (tNotF (tTru (fIsi .tup (fVar 1)))) (tCmpF cNe (fBlt bLen (fCons (fVar 1) (fNil))) (fCon (.int 2)))) (sRet (fCon (.bl false))) (sNil))
  (sSeq (sIf (tCmpF cNotIn (fBin dIdx (fVar 1) (fCon (.int 0))) (fLst (fCons (fCon (.str "one")) (fCons (fCon (.str "row")) (fCons (fCon (.str "back")) (fNil)))))) (sRet (fCon (.bl false))) (sNil))
  (sIf (tNotF (tIteF (tCmpF cEq (fBin dIdx (fVar 1) (fCon (.int 0))) (fCon (.str "one"))) (tTru (fCall 1 W_is_term (fCons (fBin dIdx (fVar 1) (fCon (.int 1))) (fNil)))) (tTru (fCall 1 W_is_name (fCons (fBin dIdx (fVar 1) (fCon (.int 1))) (fNil)))))) (sRet (fCon (.bl false))) (sNil)))))
  (sRet (fCon (.bl true)))))
theorem cNe_int (a b : Int) (st : Store) : cNe (.int a) (.int b) st = some (!decide (a = b)) := by
  unfold cNe
  show (if okEq (.int a) (.int b) = true then some (!deq (.int a) (.int b)) else none) = _
  have : okEq (.int a) (.int b) = true := by simp [okEq, okd, dep]
  rw [if_pos this]
  congr 1
theorem cEq_int (a b : Int) (st : Store) : cEq (.int a) (.int b) st = some (decide (a = b)) := by
  unfold cEq
  show (if okEq (.int a) (.int b) = true then some (deq (.int a) (.int b)) else none) = _
  have : okEq (.int a) (.int b) = true := by simp [okEq, okd, dep]
  rw [if_pos this]
  congr 1
theorem cNotIn_strs {d : D} {st : Store} (h : small d = true) (ss : List Str) (hs : ∀ s ∈ ss, PyData.strOk s = true) : cNotIn d (.tl (ss.map D.str)) st = some (!ss.any fun s => isS s d) := by
  have hok : okds (ss.map D.str) = true := by
    induction ss with
    | nil => rfl
    | cons s ss ih => simp [okds, okd, hs s List.mem_cons_self, ih fun x hx => hs x (List.mem_cons_of_mem _ hx)]
  have hdp : deps (ss.map D.str) = 0 := by
    have := deps_of (n := 0) (ds := ss.map D.str) (by intro x hx; obtain ⟨s, _, rfl⟩ := List.mem_map.mp hx; simp [dep])
    omega
  have e := deref_small (st := st) h
  unfold cNotIn isIn
  rw [show deref st (.tl (ss.map D.str)) = .tl (ss.map D.str) from rfl]
  simp only [e, hok, okd_small d h, hdp]
  simp [str_deq, Function.comp_def]

theorem isPc_two (k t : D) : isPc (.tup [k, t]) = if isS "one" k = true then isTm t else (isS "row" k || isS "back" k) && isNm t := rfl
theorem W_is_word_eq {d : D} {st : Store} (h : small d = true) : W_is_word [d] st = some (.bl (isWd d), st) := by
  apply wp_eq
  unfold W_is_word
  rw [wp_fn]
  refine ⟨rfl, ?_⟩
  cases d with
  | tup xs =>
    simp only [small, Bool.and_eq_true, decide_eq_true_eq] at h
    simp only [wps_seq, wps_if, wpt_or, wpt_not, wpt_tru, wp_isi, wp_var, wpt_cmp, wp_blt, wp_cons, wp_nil, wp_con, wps_ret, wps_nil, wps_for, wpi_val]
    simp [tagOf, isTag, tru, bLen, lenOf, cGt, cI, itemsOf, -Bool.exists_bool, -wps_seq, -wps_if]
    by_cases hl : xs.length ≤ 6
    · simp only [show ¬ (6 : Int) < xs.length by omega, if_false, decide_false, Bool.false_eq_true]
      refine ⟨_, _, ⟨rfl, rfl⟩, ?_⟩
      refine wp_forI (fun j e s => s = st ∧ (∃ b, e = [some (.tup xs), b]) ∧ (xs.take j).all isPc = true) xs 0 [some (.tup xs), none] st _ ⟨rfl, ⟨_, rfl⟩, by simp⟩ (fun j x e s hx hI => ?_) (fun e s hI => ?_)
      · obtain ⟨rfl, ⟨b, rfl⟩, h2⟩ := hI
        refine ⟨trivial, _, rfl, ?_⟩
        have hmem : x ∈ xs := List.mem_of_getElem? hx
        have hsx := smalls_mem h.1 hmem
        have bad : isPc x = false → isWd (.tup xs) = false := fun z => by
          have : xs.all isPc = false := List.all_eq_false.mpr ⟨x, hmem, by simp [z]⟩
          simp [isWd, this]
        have good : isPc x = true → (xs.take (j + 1)).all isPc = true := fun z => by
          rw [List.take_add_one, List.all_append, show (xs.take j).all isPc = true by simpa using h2]
          simp [hx, z]
        have fin : ∀ k : Bool, k = isPc x → (if k = true then (∃ b', [some (D.tup xs), some x] = [some (D.tup xs), b']) ∧ (xs.take (0 + j + 1)).all isPc = true else isWd (.tup xs) = false) := by
          rintro k rfl
          cases z : isPc x with
          | true => exact ⟨⟨_, rfl⟩, by rw [Nat.zero_add]; exact good z⟩
          | false => exact bad z
        have notp : isPc x = false → False ∨ isWd (.tup xs) = false := fun z => .inr (bad z)
        have plain : (∀ ps, x ≠ .tup ps) → isPc x = false := fun z => by
          unfold isPc
          split
          · rename_i k t; exact absurd rfl (z [k, t])
          · rfl
        cases x with
        | tup ps =>
          by_cases hp : ps.length = 2
          · obtain ⟨k, t, rfl⟩ : ∃ k t, ps = [k, t] := by
              match ps, hp with
              | [k, t], _ => exact ⟨k, t, rfl⟩
            simp only [small, smalls, Bool.and_eq_true] at hsx
            obtain ⟨⟨hk, ht, _⟩, _⟩ := hsx
            have e1 := cEq_str (st := s) hk "one" (by decide +kernel)
            have e2 := cNotIn_strs (st := s) hk ["one", "row", "back"] (by decide +kernel)
            simp only [List.map_cons, List.map_nil] at e2
            rw [isPc_two] at fin
            simp [tagOf, isTag, tru, bLen, lenOf, cNe_int, dIdx, e1, e2, W_is_term_eq ht, W_is_name_eq ht, -Bool.exists_bool]
            by_cases z1 : isS "one" k = true
            · have f := fin (isTm t) (by simp [z1])
              by_cases z2 : isTm t = true
              · simp [z1, z2] at f ⊢
                exact f
              · simp [z1, z2] at f ⊢
                exact f
            · by_cases z3 : (isS "row" k || isS "back" k) = true
              · have f := fin (isNm t) (by simp [z1, z3])
                simp only [Bool.or_eq_true] at z3
                by_cases z2 : isNm t = true
                · rcases z3 with z3 | z3 <;> (simp [z1, z2, z3] at f ⊢; exact f)
                · rcases z3 with z3 | z3 <;> (simp [z1, z2, z3] at f ⊢; exact f)
              · have f := fin false (by simp [z1, z3])
                simp only [Bool.or_eq_true, not_or] at z3
                simp [z1, z3.1, z3.2] at f ⊢
                exact f
          · have : isPc (.tup ps) = false := by
              unfold isPc
              split
              · rename_i k t e; cases e; exact absurd rfl hp
              · rfl
            simp [tagOf, isTag, tru, bLen, lenOf, cNe_int, show ¬ (ps.length : Int) = 2 by omega, bad this, -Bool.exists_bool]
        | _ => simp [small] at hsx <;> simp [tagOf, isTag, tru, bad (plain (by intro ps z; cases z)), -Bool.exists_bool]
      · obtain ⟨rfl, ⟨b, rfl⟩, h2⟩ := hI
        refine ⟨trivial, ?_⟩
        rw [Nat.zero_add, List.take_length] at h2
        simp [isWd, hl, h2]
    · simp [show (6 : Int) < xs.length by omega, isWd, hl]
  | _ => simp [small] at h <;> simp [tagOf, isTag, tru, isWd, -Bool.exists_bool]
end Vm
namespace Vm
open PySem PySem.Spec PyProof.Rows L2
local macro_rules | `(tactic| walk_at "vm") => `(tactic| simp only [wps_seq, wps_if, wps_set, wps_ret, wps_nil, wps_for, wps_app, wps_asg, wps_expr, wps_aug, wps_put, wp_bin, wp_con, wp_var, wp_cmp, wp_cons, wp_nil, wp_tup, wp_lst, wp_lstS, wp_neg, wp_or, wp_and, wp_not, wp_ite, wp_oNone, wp_oSome, wp_cut, wp_call, wp_blt, wp_isi, wpt_cmp, wpt_tru, wpt_and, wpt_or, wpt_not, wpt_ite, wpi_val, wpi_range1, wp_some, wp_comp,
  List.map_cons, List.map_nil, List.replicate, List.cons_append, List.nil_append, List.append_nil, List.getElem?_cons_zero, List.getElem?_cons_succ, List.set_cons_zero, List.set_cons_succ, List.length_cons, List.length_nil, Option.some.injEq, exists_eq_left', exists_eq_left, true_and, and_true, dAdd_int, dSub_int, dMul_int, Nat.reduceAdd, Nat.reduceSub, Nat.reduceLeDiff, D.int.injEq, D.ref.injEq, D.tl.injEq, D.tup.injEq, List.cons.injEq, and_self, Nat.reduceEqDiff])
def L_number : FnF := fnD 1 2 (sSeq (sSet 1 (fLst (fCons (fBin dSub (fBin dPow (fCon (.int 10)) (fCon (.int 9))) (fCon (.int 1))) (fCons (fBin dSub (fCon (.int 1)) (fBin dPow (fCon (.int 10)) (fCon (.int 9)))) (fCons (fBin dSub (fCall 2 L_take (fCons (fVar 0) (fCons (fBin dPow (fCon (.int 10)) (fCon (.int 9))) (fNil)))) (fBin dMul (fCon (.int 5)) (fBin dPow (fCon (.int 10)) (fCon (.int 8))))) (fNil))))))
  (sRet (fCall 2 L_pick (fCons (fVar 0) (fCons (fLst (fCons (fCon (.int 0)) (fCons (fCon (.int 1)) (fCons (fNeg (fCon (.int 1))) (fCons (fCall 2 L_take (fCons (fVar 0) (fCons (fCon (.int 9)) (fNil)))) (fCons (fCall 2 L_take (fCons (fVar 0) (fCons (fCon (.int 60)) (fNil)))) (fCons (fCall 2 L_pick (fCons (fVar 0) (fCons (fVar 1) (fNil)))) (fNil)))))))) (fNil))))))
theorem number_ok {st : Store} {n : Nat} (h : Fd n st) : Wp (L_number [.ref n] st) (fun d st' => ∃ i, d = .int i ∧ -999999999 ≤ i ∧ i ≤ 999999999 ∧ Fr n st st') := by
  have p9 : ∀ st, dPow (.int 10) (.int 9) st = some (.int 1000000000) := fun st => dPow_int (by decide) st
  have p8 : ∀ st, dPow (.int 10) (.int 8) st = some (.int 100000000) := fun st => dPow_int (by decide) st
  have hc : cMul 5 100000000 = true := by decide
  unfold L_number
  rw [wp_fn]
  refine ⟨rfl, ?_⟩
  walk_at "vm"
  simp only [p9, Option.some.injEq, exists_eq_left', dSub_int]
  refine (take_ok h (m := 1000000000) (by omega) (by omega)).mono fun d st1 hd => ?_
  obtain ⟨r, rfl, r0, r1, f1⟩ := hd
  simp only [p8, hc, Option.some.injEq, exists_eq_left', dMul_int, dSub_int, if_true]
  refine (take_ok f1.fd (m := 9) (by omega) (by omega)).mono fun d st2 hd => ?_
  obtain ⟨r2, rfl, r20, r21, f2⟩ := hd
  refine (take_ok f2.fd (m := 60) (by omega) (by omega)).mono fun d st3 hd => ?_
  obtain ⟨r3, rfl, r30, r31, f3⟩ := hd
  refine (pick_tl f3.fd (by simp) (by simp)).mono fun d st4 hd => ?_
  obtain ⟨hm, f4⟩ := hd
  refine (pick_tl f4.fd (by simp) (by simp)).mono fun e st5 he => ?_
  obtain ⟨hm5, f5⟩ := he
  have fr := (((f1.trans f2).trans f3).trans f4).trans f5
  have hd : ∃ i, d = .int i ∧ -999999999 ≤ i ∧ i ≤ 999999999 := by
    simp only [List.mem_cons, List.not_mem_nil, or_false] at hm
    rcases hm with rfl | rfl | rfl
    · exact ⟨_, rfl, by omega, by omega⟩
    · exact ⟨_, rfl, by omega, by omega⟩
    · exact ⟨_, rfl, by omega, by omega⟩
  obtain ⟨i, rfl, i0, i1⟩ := hd
  simp only [List.mem_cons, List.not_mem_nil, or_false] at hm5
  rcases hm5 with rfl | rfl | rfl | rfl | rfl | rfl
  all_goals exact ⟨_, rfl, by omega, by omega, fr⟩

theorem small_nm {d : D} (h : isNm d = true) : small d = true := by
  cases d with
  | str x =>
    simp only [isNm, Bool.and_eq_true, decide_eq_true_eq, List.all_eq_true] at h
    simp only [small, PyData.strOk, Bool.and_eq_true, decide_eq_true_eq]
    refine ⟨?_, by omega⟩
    apply Array.all_eq_true'.mpr
    intro c hc
    have := h.2 c (by simpa using hc)
    simp only [azS, Bool.and_eq_true, decide_eq_true_eq] at this
    simp
    omega
  | _ => simp [isNm] at h
noncomputable def L_names : FnF := fnD 2 6 (sSeq (sSet 2 (fCon (.str "abcdefghijklmnopqrstuvwxyz")))
  (sSeq (sSet 3 (fCall 2 L_take (fCons (fVar 0) (fCons (fCon (.int 26)) (fNil)))))
  (sSeq (sSet 4 (fBin dMul (fBin dIdx (fVar 2) (fCall 2 L_take (fCons (fVar 0) (fCons (fCon (.int 26)) (fNil))))) (fCall 2 L_take (fCons (fVar 0) (fCons (fCon (.int 8)) (fNil))))))
  (sRet (fComp [5] (iRange1 (fCons (fVar 1) (fNil))) (gSet 5) (tYesF) (fBin dAdd (fBin dIdx (fVar 2) (fBin dMod (fBin dAdd (fVar 3) (fBin dMul (fCon (.int 5)) (fVar 5))) (fCon (.int 26)))) (fVar 4)))))))
def abc : Str := "abcdefghijklmnopqrstuvwxyz"
theorem abc_cps : abc.cps.toList = [97, 98, 99, 100, 101, 102, 103, 104, 105, 106, 107, 108, 109, 110, 111, 112, 113, 114, 115, 116, 117, 118, 119, 120, 121, 122] := by decide +kernel
theorem abc_len : abc.length = 26 := by decide +kernel
theorem abc_at {i : Int} (h0 : 0 ≤ i) (h1 : i < 26) : ∃ c, azS c = true ∧ ∀ st, dIdx (.str abc) (.int i) st = some (.str ⟨#[c]⟩) := by
  obtain ⟨c, e, hm⟩ := atI_of (xs := abc.cps.toList) h0 (by rw [abc_cps]; simpa using h1)
  refine ⟨c, ?_, fun st => ?_⟩
  · rw [← az_in c]
    exact decide_eq_true hm
  · simp only [dIdx]
    rw [if_pos (by rw [abc_len]; omega), e]
    rfl
theorem names_ok {st : Store} {n : Nat} {m : Nat} (h : Fd n st) (hm : m ≤ 1000) :
    Wp (L_names [.ref n, .int m] st) (fun d st' => ∃ ns, d = .tl ns ∧ ns.length = m ∧ (∀ x ∈ ns, isNm x = true) ∧ Fr n st st') := by
  unfold L_names
  rw [wp_fn]
  refine ⟨rfl, ?_⟩
  rw [show ("abcdefghijklmnopqrstuvwxyz" : Str) = abc from rfl]
  walk_at "vm"
  refine (take_ok h (m := 26) (by omega) (by omega)).mono fun d st1 hd => ?_
  obtain ⟨r, rfl, r0, r1, f1⟩ := hd
  refine (take_ok f1.fd (m := 26) (by omega) (by omega)).mono fun d st2 hd => ?_
  obtain ⟨r2, rfl, r20, r21, f2⟩ := hd
  obtain ⟨c, hc, e1⟩ := abc_at r20 r21
  simp only [e1, Option.some.injEq, exists_eq_left']
  refine (take_ok f2.fd (m := 8) (by omega) (by omega)).mono fun d st3 hd => ?_
  obtain ⟨r3, rfl, r30, r31, f3⟩ := hd
  have e2 : ∀ st, dMul (.str ⟨#[c]⟩) (.int r3) st = some (.str ⟨(List.replicate r3.toNat [c]).flatten.toArray⟩) := by
    intro st
    show (if decide ((⟨#[c]⟩ : Str).length ≤ 1000) && decide (-1000 ≤ r3) && decide (r3 ≤ 1000) then some (D.str ⟨(List.replicate r3.toNat [c]).flatten.toArray⟩) else none) = _
    rw [if_pos]
    simp [Str.length]
    omega
  simp only [e2, Option.some.injEq, exists_eq_left']
  refine ⟨⟨by omega, by omega⟩, by simp [rangeD]; omega, ?_⟩
  have hall : ∀ i : Int, 0 ≤ i → ∃ c', azS c' = true ∧ ∀ st, dIdx (.str abc) (.int ((r + 5 * i) % 26)) st = some (.str ⟨#[c']⟩) := fun i hi => abc_at (Int.emod_nonneg _ (by omega)) (Int.emod_lt_of_pos _ (by omega))
  have hf : ∀ d : D, ∃ v : D, (∃ i : Int, 0 ≤ i ∧ i < 1000 ∧ d = .int i) → (∃ c', azS c' = true ∧ v = .str (⟨#[c']⟩ ++ ⟨(List.replicate r3.toNat [c]).flatten.toArray⟩) ∧ ∀ i, d = .int i → ∀ st, dIdx (.str abc) (.int ((r + 5 * i) % 26)) st = some (.str ⟨#[c']⟩)) := by
    intro d
    by_cases z : ∃ i : Int, 0 ≤ i ∧ i < 1000 ∧ d = .int i
    · obtain ⟨i, hi, hi2, rfl⟩ := z
      obtain ⟨c', h1, h2⟩ := hall i hi
      exact ⟨_, fun _ => ⟨c', h1, rfl, fun j e => by cases e; exact h2⟩⟩
    · exact ⟨.non, fun q => absurd q z⟩
  obtain ⟨f, hf⟩ := Classical.axiomOfChoice hf
  rw [compN_map (f := f)]
  · refine wp_some.mpr ⟨by simp [rangeD], ?_, (f1.trans f2).trans f3⟩
    intro x hx
    obtain ⟨d, hd, rfl⟩ := List.mem_map.mp hx
    obtain ⟨i, hi, rfl⟩ := List.mem_map.mp hd
    have hi' := List.mem_range.mp hi
    obtain ⟨c', h1, h2, _⟩ := hf (.int (0 + (i : Nat))) ⟨_, by omega, by omega, rfl⟩
    rw [h2]
    have ecp : ((⟨#[c']⟩ : Str) ++ ⟨(List.replicate r3.toNat [c]).flatten.toArray⟩).cps.toList = c' :: (List.replicate r3.toNat [c]).flatten := by
      show (#[c'] ++ (List.replicate r3.toNat [c]).flatten.toArray).toList = _
      simp
    have el : ((⟨#[c']⟩ : Str) ++ ⟨(List.replicate r3.toNat [c]).flatten.toArray⟩).length = 1 + r3.toNat := by
      unfold Str.length
      rw [← Array.length_toList, ecp]
      simp
      omega
    simp only [isNm, el, ecp, List.all_cons, h1, Bool.true_and, Bool.and_eq_true, decide_eq_true_eq]
    refine ⟨⟨by omega, by omega⟩, ?_⟩
    apply List.all_eq_true.mpr
    intro y hy
    simp at hy
    rw [hy.2]
    exact hc
  · intro d hd
    obtain ⟨i, hi, rfl⟩ := List.mem_map.mp hd
    have hi' := List.mem_range.mp hi
    obtain ⟨c', h1, h2, h3⟩ := hf (.int (0 + (i : Nat))) ⟨_, by omega, by omega, rfl⟩
    refine ⟨_, rfl, ?_⟩
    apply wp_eq
    have hc5 : cMul 5 (0 + (i : Int)) = true := by
      unfold cMul
      rw [decide_eq_true (show -(2 ^ 64 : Int) < 5 by omega), decide_eq_true (show (5 : Int) < 2 ^ 64 by omega)]
      rfl
    have h3' := h3 _ rfl
    simp only [wipeE, List.set_cons_succ, List.set_cons_zero]
    walk_at "vm"
    simp only [hc5, if_true, Option.some.injEq, exists_eq_left', dAdd_int, dMod_int (show (0 : Int) < 26 by omega), h3', h2]
    refine ⟨_, ?_, rfl⟩
    show (if (⟨#[c']⟩ : Str).length + (⟨(List.replicate r3.toNat [c]).flatten.toArray⟩ : Str).length ≤ 16777216 then some (D.str (⟨#[c']⟩ ++ ⟨(List.replicate r3.toNat [c]).flatten.toArray⟩)) else none) = _
    rw [if_pos]
    simp [Str.length]
    omega
end Vm
namespace Vm
open PySem PySem.Spec PyProof.Rows L2

/-! ### xs[::-1] of tuples and lists -/
theorem rev_adjust (n : Nat) : Builtin.Slice.sliceAdjust none none (-1) (n : Int) = ((n : Int) - 1, -1) := by
  have hneg : ((-1 : Int) < 0) := by omega
  simp [Builtin.Slice.sliceAdjust, hneg]
theorem rev_places (n : Nat) : Builtin.Slice.slicePlaces ((n : Int) - 1) (-1) (-1) = n := by
  have hneg : ¬ ((-1 : Int) > 0) := by omega
  simp only [Builtin.Slice.slicePlaces, hneg, if_false, Int.neg_neg, Int.ediv_one]
  split <;> omega
theorem fm_congr {α β : Type} {f g : α → Option β} : ∀ {l : List α}, (∀ x ∈ l, f x = g x) → l.filterMap f = l.filterMap g
  | [], _ => rfl
  | x :: l, h => by rw [List.filterMap_cons, List.filterMap_cons, h x (List.mem_cons_self ..), fm_congr fun y hy => h y (List.mem_cons_of_mem _ hy)]
theorem rev_pick (xs : Array Value) : ((List.range xs.size).filterMap fun (k : Nat) => xs[(((xs.size : Int) - 1) + (k : Int) * (-1)).toNat]?).toArray = xs.toList.reverse.toArray := by
  have hz := PySem.W.krv_pick xs
  rw [← hz]
  unfold slicePick
  rw [PySem.W.krv_bounds]
  show _ = ((sliceRange ((xs.size : Int) - 1) (-1) (-1)).filterMap (xs[·]?)).toArray
  rw [PySem.W.krv_sliceRange, List.filterMap_map]
  congr 1
  refine fm_congr fun k hk => ?_
  have hk' := List.mem_range.mp hk
  show _ = xs[xs.size - 1 - k]?
  congr 1
  omega
section
variable {prog : Program} {w : World} {A : Around} {E : Value → Shared → Prop} {s : Shared}
theorem rev_applied {sl : Addr} {vl vu vs : Value} {n : Nat} {Q : Int × Int × Nat → Shared → Prop} (hs : s.heap.IsSliceOf sl vl vu vs) (pl : IsPart vl none) (pu : IsPart vu none) (ps : IsPart vs (some (-1)))
    (h : Q ((n : Int) - 1, -1, n) s) : wpAny (model prog w) A (Builtin.Slice.sliceApplied (.ref sl) (pure (n : Int))) Q E s := by
  obtain ⟨ob, gob, cob, dob⟩ := hs
  unfold Builtin.Slice.sliceApplied Builtin.Slice.sliceFields
  refine wpAny_bind (wpAny_bind (wpAny_field gob dob (x := vl) rfl (wpAny_bind (wpAny_field gob dob (x := vu) rfl (wpAny_bind (wpAny_field gob dob (x := vs) rfl (wpAny_pure ?_)))))))
  refine wpAny_bind (HT.slicePart_ ps ?_)
  show wpAny _ _ (if ((-1 : Int) == 0) = true then _ else _) _ _ s
  rw [if_neg (by decide)]
  refine wpAny_bind (HT.slicePart_ pl (wpAny_bind (HT.slicePart_ pu (wpAny_bind (wpAny_pure ?_)))))
  show wpAny _ _ (match Builtin.Slice.sliceAdjust none none (-1) (n : Int) with | (lo, hi) => pure (lo, (-1 : Int), Builtin.Slice.slicePlaces lo hi (-1))) _ _ s
  rw [rev_adjust n]
  show wpAny _ _ (pure ((n : Int) - 1, (-1 : Int), Builtin.Slice.slicePlaces ((n : Int) - 1) (-1) (-1))) _ _ s
  rw [rev_places]
  exact wpAny_pure h
theorem rev_getItem {t sl : Addr} {xs : Array Value} {vl vu vs : Value} {Q : Value → Shared → Prop} (ht : IsTup s.heap t xs) (hs : s.heap.IsSliceOf sl vl vu vs) (pl : IsPart vl none) (pu : IsPart vu none) (ps : IsPart vs (some (-1)))
    (h : Q (.ref s.heap.objs.size) { s with heap := s.heap.push { cls := .type "tuple", data := .seq xs.toList.reverse.toArray } }) (hz : xs.size ≤ sizeLine) :
    wpAny (model prog w) A (getItem (.ref t) (.ref sl)) Q E s := by
  have room : sizeOk (.seq xs.toList.reverse.toArray) := by
    show xs.toList.reverse.toArray.size ≤ sizeLine
    simpa using hz
  have hTy : s.TypeIs (.ref sl) "slice" := by
    obtain ⟨ob, gob, cob, _⟩ := hs
    exact ⟨ob, gob, cob⟩
  unfold getItem
  try with_reducible refine wpAny_holding ?_
  first | refine wpAny_bind (wpAny_pure ?_) | skip
  refine wpAny_bind (wpAny_sequenceKey ht.typeIs (by decide) ?_)
  refine wpAny_bind (wpAny_callSpecial?_slot (name := Str.ofString "__getitem__") ht.typeIs PyProof.Rows.slot_tuple_getitem (wpAny_call_entry PyProof.Rows.slot_tuple_getitem ht.typeIs entry_tuple_getitem ?_ (args_tuple_getitem _ _)))
  show wpAny _ _ (Builtin.Tuple.tupleItemsOf (.ref t) >>= _) _ _ s
  refine wpAny_bind (tupleItemsOf_ ht (wpAny_bind (wpAny_typeOf hTy ?_)))
  rw [if_pos (by decide)]
  refine wpAny_bind (rev_applied hs pl pu ps ?_)
  have hno : ¬ ((((xs.size : Int) - 1) == 0 && (-1 : Int) == 1 && xs.size == xs.size) = true) := by
    simp
  show wpAny _ _ (if (((xs.size : Int) - 1) == 0 && (-1 : Int) == 1 && xs.size == xs.size) = true then _ else _) _ _ s
  rw [if_neg hno, rev_pick]
  first
    | exact wpAny_bind (m := Builtin.Tuple.tupleExact _) (wpAny_newObj_type (wpAny_pure ⟨_, rfl, wpAny_pure h⟩) room)
    | exact wpAny_bind (m := Builtin.Tuple.tupleExact _) (wpAny_newObj_type (wpAny_bind (wpAny_pure (wpAny_pure ⟨_, rfl, wpAny_pure h⟩))) room)
    | exact wpAny_bind (wpAny_bind (m := Builtin.Tuple.tupleExact _) (wpAny_newObj_type (wpAny_pure (wpAny_pure ⟨_, rfl, wpAny_pure h⟩)) room))
    | exact wpAny_bind (wpAny_bind (m := Builtin.Tuple.tupleExact _) (wpAny_newObj_type (wpAny_pure ⟨_, rfl, wpAny_pure h⟩) room))
end
section
variable {X : Cx}
/-- a tuple or a list, its items the other way about, anew -/
def tRevA (K : PySem.W.Frag) (te : TE) : TE := fun σ H Q => te σ H fun x H1 => ∃ a xs, x = .ref a ∧ ((SqL K H1 a xs ∧ ∀ p, H1 p = none → Q (.ref p) (upd H1 p (.lst xs.reverse))) ∨ (SqT K H1 a xs ∧ ∀ p, H1 p = none → Q (.ref p) (upd H1 p (.tup xs.reverse))))
theorem pe_revA {e : Expr} {te : TE} {k : Nat} {p1 p2 p3 pos : Pos} (he : PE X e te) : PE X (.Subscript e (.Slice none none (some (.UnaryOp .USub (.Constant (.int 1) k p1) p2)) p3) pos) (tRevA X.K te) := by
  refine ⟨fun pins s σ H Q I h => ?_⟩
  refine Subscript_ (thn (he.run pins s σ H _ I h) fun v s1 ⟨x, H1, I1, r1, a, xs, ex, q1⟩ => ?_)
  subst ex
  cases r1
  have hm : PO X (some (.UnaryOp .USub (.Constant (.int 1) k p1) p2)) (tPart (tUn (rU fun i => .int (-i)) (tC (.int 1)))) := po_some (pe_un un_neg pe_int)
  refine wpAny_Slice (thn (po_none.run pins s1 σ H1 (fun o G => o = none ∧ G = H1) I1 ⟨rfl, rfl⟩) fun vl s2 ⟨l, H2, I2, pl, el, e2⟩ => ?_)
  subst el e2
  refine thn (po_none.run pins s2 σ H2 (fun o G => o = none ∧ G = H2) I2 ⟨rfl, rfl⟩) fun vu s3 ⟨u, H3, I3, pu, eu, e3⟩ => ?_
  subst eu e3
  refine thn (hm.run pins s3 σ H3 (fun o G => o = some (-1) ∧ G = H3) I3 ⟨1, rfl, -1, rfl, rfl, rfl⟩) fun vs s4 ⟨o, H4, I4, ps, eo, e4⟩ => ?_
  subst eo e4
  have I5 : Inv X pins σ H4 { s4 with heap := s4.heap.push { cls := .type "slice", data := .fields #[vl, vu, vs] } } := I4.kept (t' := s4.toks) fun b ob q => Heap.get?_push_of_some _ q
  show wpAny (model X.prog X.w) X.A (subscriptTail e (.Slice none none (some (.UnaryOp .USub (.Constant (.int 1) k p1) p2)) p3) (.ref a) (.ref s4.heap.objs.size)) (EP X pins σ Q) X.xe { s4 with heap := s4.heap.push { cls := .type "slice", data := .fields #[vl, vu, vs] } }
  rcases q1 with ⟨hx, q⟩ | ⟨hx, q⟩
  · obtain ⟨its, r, ht, hz⟩ := I5.list hx
    have hlen := r.length
    refine tail_any (ops := [.ref a, .ref s4.heap.objs.size]) ht.isList.typeIs (PySem.slot_list_getitem.lookup) ?_ (by with_unfolding_all rfl)
    refine wpAny_getItem_list_slice ht.isList (Heap.IsSliceOf.new _ vl vu vs) pl pu ps (by decide) ?_ (by rw [List.size_toArray]; omega)
    rw [PySem.W.krv_pick]
    exact ⟨.ref _, _, I5.laid (t' := s4.toks) (o := .lst xs.reverse) (fun b ob q => Heap.get?_push_of_some _ q) (Nat.le_refl _) ⟨by rw [List.length_reverse]; exact hz, _, 0, r.reverse, Heap.get?_push_size _ rfl⟩, rfl, q _ (I5.hok.fresh (Nat.le_refl _))⟩
  · obtain ⟨its, r, ht, hz⟩ := I5.tuple hx
    have hlen := r.length
    refine tail_any (ops := [.ref a, .ref s4.heap.objs.size]) ht.typeIs PyProof.Rows.slot_tuple_getitem.lookup ?_ (by with_unfolding_all rfl)
    refine rev_getItem ht (Heap.IsSliceOf.new _ vl vu vs) pl pu ps ?_ (by rw [List.size_toArray]; omega)
    refine ⟨.ref _, _, I5.laid (t' := s4.toks) (o := .tup xs.reverse) (fun b ob q => Heap.get?_push_of_some _ q) (Nat.le_refl _) ?_, rfl, q _ (I5.hok.fresh (Nat.le_refl _))⟩
    exact ⟨by rw [List.length_reverse]; exact hz, _, r.reverse, ⟨_, Heap.get?_push_size _ rfl, rfl, _, rfl⟩⟩
end
end Vm
namespace Vm
open PySem PySem.Spec PyProof.Rows L2
section
variable {X : Cx} {pos : Pos}
/-! ### the same over data -/
theorem Reps.rev {K : PySem.W.Frag} {ρ : Wn} {H : Hp} : ∀ {ds : List D} {vs : List V}, Reps K ρ H ds vs → Reps K ρ H ds.reverse vs.reverse
  | [], vs, r => by rw [show vs = [] from r]; exact rfl
  | d :: ds, vs, r => by
    obtain ⟨v, w, rfl, r1, r2⟩ := r
    rw [List.reverse_cons, List.reverse_cons]
    exact (Reps.rev r2).append ⟨v, [], rfl, r1, rfl⟩
def dRev : D → Store → Option D := fun a st => match a with
  | .tup xs => some (.tup xs.reverse)
  | a => match lsqOf st a with
    | some xs => some (.tl xs.reverse)
    | none => none
def fRev (F : FE) : FE := fun env st => match F env st with
  | some (a, st1) => match dRev a st1 with
    | some d => some (d, st1)
    | none => none
  | none => none
theorem e_rev {a : Expr} {k : Nat} {p1 p2 p3 : Pos} {F : FE} (ha : PE X a (tE X.K F)) : PE X (.Subscript a (.Slice none none (some (.UnaryOp .USub (.Constant (.int 1) k p1) p2)) p3) pos) (tE X.K (fRev F)) := by
  refine peConv (pe_revA ha) fun σ H Q h => ?_
  obtain ⟨ρ, env, st, d, st', S, E, e, p⟩ := h
  unfold fRev at e
  split at e
  · rename_i a st1 e1
    split at e
    · rename_i d' e2
      cases e
      refine tE_bind S E e1 fun ρ1 H1 v L1 S1 R1 E1 => ?_
      have p1 := p.mono L1
      unfold dRev at e2
      split at e2
      · cases e2
        obtain ⟨b, vs, rfl, hs, r⟩ := R1
        exact ⟨b, vs, rfl, .inr ⟨hs, p1.newTup S1 r.rev⟩⟩
      · split at e2
        · rename_i xs e3
          cases e2
          obtain ⟨b, vs, rfl, hs, r⟩ := lsqOf_rep S1 R1 e3
          exact ⟨b, vs, rfl, .inl ⟨hs, p1.newTl S1 r.rev⟩⟩
        · cases e2
    · cases e
  · cases e
/-- a + b of lists, the sum an object of the store -/
def fAddS (F G : FE) : FE := fun env st => match F env st with
  | some (a, st1) => match G env st1 with
    | some (b, st2) => match lstOf st2 a with
      | some xs => match lstOf st2 b with
        | some ys => if xs.length + ys.length ≤ 16777216 then some (.ref st2.length, st2 ++ [.lst (xs ++ ys)]) else none
        | none => none
      | none => none
    | none => none
  | none => none
theorem e_addS {a b : Expr} {F G : FE} (ha : PE X a (tE X.K F)) (hb : PE X b (tE X.K G)) : PE X (.BinOp a .Add b pos) (tE X.K (fAddS F G)) := by
  refine peConv (pe_op op_cat ha hb) fun σ H Q h => ?_
  obtain ⟨ρ, env, st, d, st', S, E, e, p⟩ := h
  unfold fAddS at e
  split at e
  · rename_i a st1 e1
    split at e
    · rename_i b st2 e2
      split at e
      · rename_i xs e3
        split at e
        · rename_i ys e4
          split at e
          · rename_i hl
            cases e
            refine tE_bind S E e1 fun ρ1 H1 v L1 S1 R1 E1 => ?_
            refine tE_bind S1 E1 e2 fun ρ2 H2 w L2 S2 R2 E2 => ?_
            obtain ⟨x, vs, rfl, h1, r1⟩ := lstOf_rep S2 (Rep.mono L2 _ _ R1) e3
            obtain ⟨y, ws, rfl, h2, r2⟩ := lstOf_rep S2 R2 e4
            exact ⟨x, y, vs, ws, rfl, rfl, h1, h2, by rw [sizeLine_eq, ← r1.length, ← r2.length]; exact hl, ((p.mono L1).mono L2).newRef S2 (r1.append r2)⟩
          · cases e
        · cases e
      · cases e
    · cases e
  · cases e
/-! ### zip and enumerate -/
theorem walk_zipT {K : PySem.W.Frag} {a b : Addr} {xs ys : List V} {n : Nat} (hn : n = min xs.length ys.length) : Walk (RZ.ItzT K a b) n (fun H => SqT K H a xs ∧ SqT K H b ys) (YPair (xs[·]?) (ys[·]?)) := by
  subst hn
  refine ⟨fun i _ hi q => ⟨xs, ys, xs[i]'(by omega), ys[i]'(by omega), q.1, q.2, List.getElem?_eq_getElem _, List.getElem?_eq_getElem _⟩, fun _ q => ⟨xs, ys, q.1, q.2, by omega⟩, fun i H v H' _ q y => ?_⟩
  obtain ⟨T, x, z, e1, e2, e3, e4, e5⟩ := y
  exact ⟨T, x, z, e1, e2, e3, e4 _ q.1, e5 _ q.2⟩
def zipD : List D → List D → List D
  | x :: xs, y :: ys => .tup [x, y] :: zipD xs ys
  | _, _ => []
theorem zipD_length : ∀ xs ys : List D, (zipD xs ys).length = min xs.length ys.length
  | [], _ => by simp [zipD]
  | _ :: _, [] => by simp [zipD]
  | x :: xs, y :: ys => by simp [zipD, zipD_length xs ys]
theorem zipD_get : ∀ {xs ys : List D} {i : Nat} {a b : D}, xs[i]? = some a → ys[i]? = some b → (zipD xs ys)[i]? = some (.tup [a, b])
  | [], _, _, _, _, h, _ => by simp at h
  | _ :: _, [], _, _, _, _, h => by simp at h
  | x :: xs, y :: ys, 0, a, b, h1, h2 => by simp at h1 h2; subst h1; subst h2; rfl
  | x :: xs, y :: ys, i + 1, a, b, h1, h2 => zipD_get (xs := xs) (ys := ys) (by simpa using h1) (by simpa using h2)
/-- by value: nobody changes it -/
def fixOf : D → Option (List D)
  | .tl xs => some xs
  | .sl xs => some xs
  | _ => none
theorem fixOf_rep {K : PySem.W.Frag} {ρ : Wn} {H : Hp} {d : D} {v : V} {ds : List D} (r : Rep K ρ H d v) (e : fixOf d = some ds) : ∃ a vs, v = .ref a ∧ Reps K ρ H ds vs ∧ ∀ ρ' H', Le ρ H ρ' H' → SqL K H' a vs := by
  unfold fixOf at e
  split at e
  · cases e
    obtain ⟨a, vs, rfl, ⟨hn, hs⟩, rr⟩ := r
    exact ⟨a, vs, rfl, rr, fun ρ' H' L => SqL.of (L.keep _ _ hn.1 hs)⟩
  · cases e
    obtain ⟨a, vs, rfl, hs, rr⟩ := r
    refine ⟨a, vs, rfl, rr, fun ρ' H' L => ?_⟩
    rcases hs with ⟨hn, ob, hs⟩ | hs
    · exact .inl (.inr ⟨ob, L.keep _ _ hn hs⟩)
    · exact .inr hs
  · cases e
def zipOf : D → D → Option (List D)
  | .tup xs, .tup ys => some (zipD xs ys)
  | a, b => match fixOf a with
    | some xs => match fixOf b with
      | some ys => some (zipD xs ys)
      | none => none
    | none => none
def iZip (A : FA) : FI := fun env st => match A env st with
  | some ([a, b], st1) => match zipOf a b with
    | some ds => some ((ds, fun _ => True), st1)
    | none => none
  | _ => none
theorem zip_pairs {K : PySem.W.Frag} {ρ : Wn} {H : Hp} {xs ys : List D} {vs ws : List V} (r : Reps K ρ H xs vs) (r' : Reps K ρ H ys ws) (i : Nat) (ρ' : Wn) (H' : Hp) (x y : V) (L : Le ρ H ρ' H') (hx : vs[i]? = some x) (hy : ws[i]? = some y) :
    ∃ a b, (zipD xs ys)[i]? = some (.tup [a, b]) ∧ Rep K ρ' H' a x ∧ Rep K ρ' H' b y := by
  obtain ⟨a, ea, ra⟩ := (Reps.mono L _ _ r).getV hx
  obtain ⟨b, eb, rb⟩ := (Reps.mono L _ _ r').getV hy
  exact ⟨a, b, zipD_get ea eb, ra, rb⟩
theorem i_zip {e e2 : Expr} {A : FA} {p tpos : Pos} {elts : List Expr} {kk : Nat} (hg : Gl X "zip") (hm : X.mg "zip" = none) (ha : PA X [e, e2] (tA X.K A))
    (hs : starEach [e, e2] X.env = (false, eval e X.env) :: starEach [e2] X.env := by rfl) (hpl : (backTo pos (starEach [e2] X.env)).any (·.1) = false := by rfl) :
    PI X (.Tuple elts kk tpos) (.Call (.Name "zip" p) [e, e2] [] pos) (tI X.K (iZip A)) := by
  refine piConv (RZ.pi_zipA hg hm ha hs hpl) fun σ H R h => ?_
  obtain ⟨ρ, env, st, ds, g, st', S, E, e, hgd, q⟩ := h
  unfold iZip at e
  split at e
  · rename_i a b st1 e1
    split at e
    · rename_i ds' e2
      cases e
      refine ⟨ρ, env, st, _, st', S, E, e1, fun ρ1 H1 us L1 S1 R1 => ?_⟩
      obtain ⟨v, w, rfl, r1, r2⟩ := reps2 R1
      unfold zipOf at e2
      split at e2
      · rename_i xs ys
        cases e2
        obtain ⟨a, vs, rfl, hs1, rr1⟩ := r1
        obtain ⟨b, ws, rfl, hs2, rr2⟩ := r2
        refine ⟨a, b, vs, ws, rfl, .inr ⟨hs1, hs2, q ρ1 H1 _ L1 S1 ?_⟩⟩
        exact src_pair (fs := fun _ => (.non, .non)) (walk_zipT (by rw [zipD_length, rr1.length, rr2.length])) (fun ρ' H' _ L _ _ => ⟨L.sqt hs1, L.sqt hs2⟩) fun i ρ' H' x y _ L => zip_pairs rr1 rr2 i ρ' H' x y L
      · split at e2
        · rename_i xs e3
          split at e2
          · rename_i ys e4
            cases e2
            obtain ⟨a, vs, rfl, rr1, k1⟩ := fixOf_rep r1 e3
            obtain ⟨b, ws, rfl, rr2, k2⟩ := fixOf_rep r2 e4
            refine ⟨a, b, vs, ws, rfl, .inl ⟨k1 _ _ Le.refl, k2 _ _ Le.refl, q ρ1 H1 _ L1 S1 ?_⟩⟩
            exact src_pair (fs := fun _ => (.non, .non)) (walk_zip (by rw [zipD_length, rr1.length, rr2.length])) (fun ρ' H' _ L _ _ => ⟨k1 _ _ L, k2 _ _ L⟩) fun i ρ' H' x y _ L => zip_pairs rr1 rr2 i ρ' H' x y L
          · cases e2
        · cases e2
    · cases e
  · cases e
def enumFrom : Nat → List D → List D
  | _, [] => []
  | n, x :: xs => .tup [.int n, x] :: enumFrom (n + 1) xs
theorem enumFrom_length : ∀ (n : Nat) (xs : List D), (enumFrom n xs).length = xs.length
  | _, [] => rfl
  | n, x :: xs => by simp [enumFrom, enumFrom_length (n + 1) xs]
theorem enumFrom_get : ∀ {n : Nat} {xs : List D} {i : Nat} {a : D}, xs[i]? = some a → (enumFrom n xs)[i]? = some (.tup [.int ((n + i : Nat) : Int), a])
  | _, [], _, _, h => by simp at h
  | n, x :: xs, 0, a, h => by simp at h; subst h; rfl
  | n, x :: xs, i + 1, a, h => by
    have := enumFrom_get (n := n + 1) (xs := xs) (i := i) (a := a) (by simpa using h)
    rw [show n + (i + 1) = n + 1 + i by omega]
    simpa [enumFrom] using this
def iEnumerate (A : FA) : FI := fun env st => match A env st with
  | some ([a], st1) => match fixOf a with
    | some xs => some ((enumFrom 0 xs, fun _ => True), st1)
    | none => none
  | _ => none
theorem i_enumerate {e : Expr} {A : FA} {p tpos : Pos} {elts : List Expr} {kk : Nat} (hg : Gl X "enumerate") (hm : X.mg "enumerate" = none) (ha : PA X [e] (tA X.K A)) (hs : starEach [e] X.env = [(false, eval e X.env)] := by rfl) :
    PI X (.Tuple elts kk tpos) (.Call (.Name "enumerate" p) [e] [] pos) (tI X.K (iEnumerate A)) := by
  refine piConv (pi_enum hg hm ha hs) fun σ H R h => ?_
  obtain ⟨ρ, env, st, ds, g, st', S, E, e, hgd, q⟩ := h
  unfold iEnumerate at e
  split at e
  · rename_i a st1 e1
    split at e
    · rename_i xs e2
      cases e
      refine ⟨ρ, env, st, _, st', S, E, e1, fun ρ1 H1 us L1 S1 R1 => ?_⟩
      obtain ⟨v, rfl, r1⟩ := reps1 R1
      obtain ⟨b, vs, rfl, rr, k⟩ := fixOf_rep r1 e2
      refine ⟨b, vs, rfl, k _ _ Le.refl, q ρ1 H1 _ L1 S1 ?_⟩
      refine src_pair (fs := fun _ => (.non, .non)) (by rw [enumFrom_length, rr.length]; exact walk_enum) (fun ρ' H' _ L _ _ => k _ _ L) fun i ρ' H' x y hi L hx hy => ?_
      cases hx
      obtain ⟨a, ea, ra⟩ := (Reps.mono L _ _ rr).getV hy
      exact ⟨_, a, enumFrom_get ea, by rw [Nat.zero_add]; exact rfl, ra⟩
    · cases e
  · cases e
end
end Vm
namespace Vm
open PySem PySem.Spec PyProof.Rows L2
@[simp] theorem dAdd_tup (xs ys : List D) (st : Store) : dAdd (.tup xs) (.tup ys) st = if xs.length + ys.length ≤ 16777216 then some (.tup (xs ++ ys)) else none := rfl
@[simp] theorem dAdd_tl (xs ys : List D) (st : Store) : dAdd (.tl xs) (.tl ys) st = if xs.length + ys.length ≤ 16777216 then some (.tl (xs ++ ys)) else none := rfl
theorem smalls_append : ∀ xs ys : List D, smalls (xs ++ ys) = (smalls xs && smalls ys)
  | [], ys => by simp [smalls]
  | x :: xs, ys => by simp [smalls, smalls_append xs ys, Bool.and_assoc]
theorem smalls_cut {xs : List D} (h : smalls xs = true) (lo hi : Option Int) : smalls (cutD xs lo hi) = true :=
  smalls_of fun d hd => smalls_mem h (List.mem_of_mem_drop (List.mem_of_mem_take hd))
theorem cutD_length (xs : List D) (lo hi : Option Int) : (cutD xs lo hi).length ≤ xs.length := by
  unfold cutD
  rw [List.length_take, List.length_drop]
  omega
theorem Fr.push {n : Nat} {a b : Store} {o : O} (h : Fr n a b) : Fr n a (b ++ [o]) := by
  have kp : ∀ (m : Nat) (x : O), b[m]? = some x → (b ++ [o])[m]? = some x := fun m x e => by
    rw [List.getElem?_append_left (List.getElem?_eq_some_iff.mp e).1]; exact e
  obtain ⟨x, y, e, h1, h2⟩ := h.fd
  exact ⟨⟨x, y, kp _ _ e, h1, h2⟩, fun m o hm e => kp _ _ (h.keep m o hm e)⟩
theorem Fr.setN {n m : Nat} {a b : Store} {o : O} (h : Fr n a b) (hm : a.length ≤ m) (hn : n < a.length) : Fr n a (b.set m o) := by
  obtain ⟨x, y, e, h1, h2⟩ := h.fd
  refine ⟨⟨x, y, by rw [List.getElem?_set_ne (by omega)]; exact e, h1, h2⟩, fun k o' hk e' => ?_⟩
  have := (List.getElem?_eq_some_iff.mp e').1
  rw [List.getElem?_set_ne (by omega)]
  exact h.keep k o' hk e'
theorem Fd.lt {n : Nat} {st : Store} (h : Fd n st) : n < st.length := by
  obtain ⟨_, _, e, _⟩ := h
  exact (List.getElem?_eq_some_iff.mp e).1
/-- of a fair size, and how many items at most -/
def Pd (L : Nat) (d : D) : Prop := small d = true ∧ ∀ ps, d = .tup ps → ps.length ≤ L
theorem Pd.tup {L : Nat} {ps : List D} (h : smalls ps = true) (h1 : ps.length ≤ L) (h2 : ps.length ≤ 1000) : Pd L (.tup ps) := by
  refine ⟨?_, fun qs e => by cases e; exact h1⟩
  simp [small, h, h2]
theorem Pd.mono {L M : Nat} {d : D} (h : Pd L d) (hl : L ≤ M) : Pd M d := ⟨h.1, fun ps e => Nat.le_trans (h.2 ps e) hl⟩
theorem dCut_tup (xs : List D) (lo hi : Option Int) (st : Store) : dCut (.tup xs) lo hi st = some (.tup (cutD xs lo hi)) := rfl
theorem dCut_tl (xs : List D) (lo hi : Option Int) (st : Store) : dCut (.tl xs) lo hi st = some (.tl (cutD xs lo hi)) := rfl
theorem bLen_tup (xs : List D) (st : Store) : bLen [.tup xs] st = some (.int xs.length, st) := rfl
theorem bLen_tl (xs : List D) (st : Store) : bLen [.tl xs] st = some (.int xs.length, st) := rfl
theorem bList_tup (xs : List D) (st : Store) : bList [.tup xs] st = some (.tl xs, st) := rfl
theorem dIdx_tup (xs : List D) (i : Int) (st : Store) : dIdx (.tup xs) (.int i) st = L2.atI xs i := rfl
theorem items_tl (xs : List D) (st : Store) : itemsOf st (.tl xs) = some (xs, fun _ => True) := rfl
theorem cNe_bl (a b : Bool) (st : Store) : cNe (.bl a) (.bl b) st = some (!(a == b)) := by
  unfold cNe
  show (if okEq (.bl a) (.bl b) = true then some (!deq (.bl a) (.bl b)) else none) = _
  have : okEq (.bl a) (.bl b) = true := by simp [okEq, okd, dep]
  rw [if_pos this]
  simp [deq, pd, PyData.eqv]
theorem tm_nm {t : D} (h : isNm t = true) : isTm t = true := by
  cases t with
  | int i => simp [isNm] at h
  | _ => simpa [isTm] using h
theorem small_tm {t : D} (h : isTm t = true) : small t = true := by
  cases t with
  | int i => rfl
  | _ => exact small_nm (by simpa [isTm] using h)
theorem reps_ints {K : PySem.W.Frag} {ρ : Wn} {H : Hp} : ∀ ns : List Int, Reps K ρ H (ns.map D.int) (ns.map V.int)
  | [] => rfl
  | n :: ns => ⟨_, _, rfl, rfl, reps_ints ns⟩
/-- the end: a law's def that gives True at every script -/
theorem sp_of {F : FnF} (hF : ∀ (script : D) (ns : List Int), ns.length ≤ 63 → (∀ st, lsqOf st script = some (ns.map D.int)) → (∀ st, lenOf st script = some ns.length) → (∀ (i : Int) st', dIdx script (.int i) st' = (match lsqOf st' script with | some xs => L2.atI xs i | none => none)) → Wp (F [script] []) fun d _ => d = .bl true)
    {K : PySem.W.Frag} {H : Hp} {a : Addr} {ns : List Int} (hl : ns.length ≤ 63) (hS : SqL K H a (ns.map V.int)) : spD K 1 F [.ref a] H (fun v _ => v = .bl true) fun _ _ _ => False := by
  have S0 : Sim K ⟨[], []⟩ [] H := ⟨rfl, fun a h => (by cases h), fun i j a h => by simp at h, fun n o a h => by simp at h⟩
  have fin : ∀ script : D, (∀ st, lsqOf st script = some (ns.map D.int)) → (∀ st, lenOf st script = some ns.length) → (∀ (i : Int) st', dIdx script (.int i) st' = (match lsqOf st' script with | some xs => L2.atI xs i | none => none)) → Rep K ⟨[], []⟩ H script (.ref a) → spD K 1 F [.ref a] H (fun v _ => v = .bl true) fun _ _ _ => False := by
    intro script h1 h2 h3 r
    obtain ⟨d, st, e, rfl⟩ := hF script ns hl h1 h2 h3
    exact ⟨rfl, ⟨[], []⟩, [], [script], .bl true, st, S0, ⟨_, _, rfl, r, rfl⟩, e, fun ρ' H' v _ _ R => R⟩
  have len : (ns.map D.int).length = ns.length := by simp
  rcases hS with (h | ⟨ob, h⟩) | h
  · exact fin (.tl (ns.map D.int)) (fun _ => rfl) (fun _ => by simp [lenOf]) (fun _ _ => rfl) ⟨a, _, rfl, ⟨⟨by simp, by simp⟩, h⟩, reps_ints ns⟩
  · exact fin (.sl (ns.map D.int)) (fun _ => rfl) (fun _ => by simp [lenOf]) (fun _ _ => rfl) ⟨a, _, rfl, .inl ⟨by simp, ob, h⟩, reps_ints ns⟩
  · exact fin (.sl (ns.map D.int)) (fun _ => rfl) (fun _ => by simp [lenOf]) (fun _ _ => rfl) ⟨a, _, rfl, .inr h, reps_ints ns⟩
section
variable {F G : FE} {env : En} {st : Store} {Q : D → Store → Prop}
theorem wp_rev : Wp (fRev F env st) Q ↔ Wp (F env st) fun a st1 => ∃ d, dRev a st1 = some d ∧ Q d st1 := by
  unfold fRev
  constructor
  · intro h
    split at h
    · rename_i a st1 e1
      split at h
      · rename_i d e2
        exact ⟨a, st1, e1, d, e2, wp_some.mp h⟩
      · exact (wp_noneR.mp h).elim
    · exact (wp_noneR.mp h).elim
  · rintro ⟨a, st1, e1, d, e2, q⟩
    simp [e1, e2, q]
theorem wp_addS : Wp (fAddS F G env st) Q ↔ Wp (F env st) fun a st1 => Wp (G env st1) fun b st2 => ∃ xs ys, lstOf st2 a = some xs ∧ lstOf st2 b = some ys ∧ xs.length + ys.length ≤ 16777216 ∧ Q (.ref st2.length) (st2 ++ [.lst (xs ++ ys)]) := by
  unfold fAddS
  constructor
  · intro h
    split at h
    · rename_i a st1 e1
      split at h
      · rename_i b st2 e2
        split at h
        · rename_i xs e3
          split at h
          · rename_i ys e4
            split at h
            · rename_i hl
              exact ⟨a, st1, e1, b, st2, e2, xs, ys, e3, e4, hl, wp_some.mp h⟩
            · exact (wp_noneR.mp h).elim
          · exact (wp_noneR.mp h).elim
        · exact (wp_noneR.mp h).elim
      · exact (wp_noneR.mp h).elim
    · exact (wp_noneR.mp h).elim
  · rintro ⟨a, st1, e1, b, st2, e2, xs, ys, e3, e4, hl, q⟩
    simp [e1, e2, e3, e4, hl, q]
end
theorem dRev_tup (xs : List D) (st : Store) : dRev (.tup xs) st = some (.tup xs.reverse) := rfl
/-- a pick among the items of a list of the store -/
theorem pick_ref {st : Store} {n m : Nat} {xs : List D} (h : Fd n st) (hm : m ≠ n) (hL : st[m]? = some (.lst xs)) (h0 : 0 < xs.length) (h1 : xs.length < 1073741824) : Wp (L_pick [.ref n, .ref m] st) (fun d st' => d ∈ xs ∧ Fr n st st') :=
  pick_ok h (by simp [lsqOf, hL]) (fun st' f => by simp [lsqOf, f.keep m _ hm hL]) (by simp [lenOf, hL]) (fun _ _ => rfl) h0 h1
/-- how many items, if it is a tuple -/
def Nl (M : Nat) (v : D) : Prop := ∀ qs, v = .tup qs → qs.length ≤ M
/-- of a fair size, its tuples and their tuples no longer than M -/
def Pe (M : Nat) (d : D) : Prop := small d = true ∧ Nl M d ∧ ∀ ps, d = .tup ps → ∀ p ∈ ps, Nl M p
theorem Nl.mono {L M : Nat} {d : D} (h : Nl L d) (hl : L ≤ M) : Nl M d := fun qs e => Nat.le_trans (h qs e) hl
theorem Pe.mono {L M : Nat} {d : D} (h : Pe L d) (hl : L ≤ M) : Pe M d := ⟨h.1, h.2.1.mono hl, fun ps e p hp => (h.2.2 ps e p hp).mono hl⟩
theorem Pe.tup {M : Nat} {ps : List D} (h : smalls ps = true) (h1 : ps.length ≤ M) (h2 : ps.length ≤ 1000) (h3 : ∀ p ∈ ps, Nl M p) : Pe M (.tup ps) :=
  ⟨by simp [small, h, h2], fun qs e => by cases e; exact h1, fun qs e => by cases e; exact h3⟩
theorem cutD_mem {xs : List D} {lo hi : Option Int} {d : D} (h : d ∈ Vm.cutD xs lo hi) : d ∈ xs := List.mem_of_mem_drop (List.mem_of_mem_take h)
def peB (M : Nat) : D → Bool
  | .tup ps => decide (ps.length ≤ M) && ps.all fun p => match p with | .tup qs => decide (qs.length ≤ M) | _ => true
  | _ => true
theorem peB_ok {M : Nat} {d : D} (h1 : small d = true) (h : peB M d = true) : Pe M d := by
  refine ⟨h1, fun qs e => ?_, fun ps e p hp qs e2 => ?_⟩
  · subst e
    simp only [peB, Bool.and_eq_true, decide_eq_true_eq] at h
    exact h.1
  · subst e
    simp only [peB, Bool.and_eq_true, decide_eq_true_eq] at h
    have := List.all_eq_true.mp h.2 p hp
    subst e2
    simpa using this
end Vm
/-! a def that is called from one surrounding alone: there more is known of it (no repr is under way) -/
namespace Vm
open PySem PySem.Spec PyProof.Rows L2
def FnAt (P : Program) (w : World) (K : PySem.W.Frag) (mg : Str → Option Value) (base : Heap) (A : Around) (outer : List PySem.Env) (f : Addr) (fd : FuncData) (ps : List Str) (sp : Sp) : Prop :=
  ∀ (s : Shared) (H : Hp) (as : Args) (us : List Value) (vs : List V) (Q : VK), Env0 P w K mg base A outer s H → BindsTo s fd as (ps.zip us) → Vals vs us → sp vs H Q E0 →
    codeAny (model P w) A (.call (.ref f) as) (CR CX0 outer P w H s Q E0) s
theorem fn_at {P : Program} {w : World} {K : PySem.W.Frag} {mg : Str → Option Value} {base : Heap} {A : Around} {outer : List PySem.Env} {k : Nat} {x qual : Str} {stm : Stmt} {f : Addr} {fd : FuncData} {N ps : List Str} {body : FS} (F : Fun K x qual stm f fd) (S : FnScope N ps (defScope stm)) (hr : Room (k + 1) A)
    (hbody : ∀ (cdv : Value) (s : Shared) (H : Hp), Room k (A.deeper (envOfC qual (defScope stm) s.heap.objs.size f cdv)) → PSs (cxOf CX0 P w K mg base N qual (defScope stm) f cdv A outer s H E0).nox (defBody stm) (tS K body)) :
    FnAt P w K mg base A outer f fd ps (spD K ps.length (fnD ps.length N.length body)) := by
  obtain ⟨oc, od, kV, doc, pm, an, cdv, ct, osl, rfl, lk, cd⟩ := F.ex
  intro s H as us vs Q e0 bd rv h
  have hlen : vs.length = ps.length := h.1
  have inK : K.In s.heap := e0.mod.kin.keeps fun b o e => (e0.bs b o e).1
  have free : s.heap.NoLimit := e0.mod.nolimit.keeps fun b o e => (e0.bs b o e).1
  refine codeAny_call_function hr.depth (inK _ _ lk) rfl S.co S.gen rfl (PySem.W.codeRec_of inK cd) (bd _ _ _ _ ?_)
  refine wpAny_newFunctionEnv_cells S.kind (fun y hy => (S.par y.1 (List.of_mem_zip (a := y.1) (b := y.2) hy).1).imp id fun q => ⟨q, PySem.W.cellsFrom_some _ _ _ (.inl q)⟩) fun env he s1 xx => ?_
  subst he
  refine ⟨free.keeps xx.toInCall.keep, codeAny_func ?_⟩
  have rd : tS K body { nx := fun _ H' => Q .non H', rt := Q } (L2.start N vs) H := by
    obtain ⟨_, ρ, st, ds, d, st', Sm, R, e, p⟩ := h
    have en := en_start (n := N.length - ps.length) R
    unfold L2.start
    rw [hlen]
    unfold fnD at e
    split at e
    · split at e
      · rename_i e1
        cases e
        exact ⟨ρ, _, st, _, _, Sm, en, e1, fun ρ' H' v L S' R' => p ρ' H' v L S' R'⟩
      · rename_i e1
        cases e
        exact ⟨ρ, _, st, _, _, Sm, en, e1, fun ρ' H' σ' L S' _ => p ρ' H' _ L S' rfl⟩
      · cases e
    · cases e
  have I0 : Inv (cxOf CX0 P w K mg base N qual (defScope stm) f cdv A outer s H E0) [] (L2.start N vs) H s1 := inv_start S hr.hd e0 hlen rv xx
  refine wpAny_mono ((hbody cdv s H (hr.deeper _)).nox.run [] s1 (L2.start N vs) H _ I0 rd) (fun fl s' hs => ?_) fun e s' hs => hs
  cases fl with
  | ret u => exact let ⟨v, _, H', J, r', q⟩ := hs; ⟨v, H', J.os, J.bare, J.base, J.hok, r', q⟩
  | next => exact let ⟨_, H', J, q⟩ := hs; ⟨.non, H', J.os, J.bare, J.base, J.hok, rfl, q⟩
  | brk => exact let ⟨_, _, _, q⟩ := hs; False.elim q
  | cont => exact let ⟨_, _, _, q⟩ := hs; False.elim q
/-- the law's call, from a def promised at the caller's surrounding alone -/
theorem law_at {P : Program} {w : World} {K : PySem.W.Frag} {mg mb : Str → Option Value} {fa a : Addr} {fd : FuncData} {x : Str} {sp : Sp} {s : Shared} {vs : List Value} {ns : List Int}
    (inK : K.In s.heap) (gl : s.heap.Ns mainGlobals mg) (bt : s.heap.Ns builtinsNs mb) (bb : ∀ y : Str, y ≠ "__name__" → mb y = bootBuiltins y) (free : s.heap.NoLimit) (ge : s.gens = #[])
    (ga : s.heap.get? a = some { cls := .type "list", data := .seq vs.toArray }) (iv : IntsAre vs ns) (hz : ns.length ≤ sizeLine)
    (F : ∀ base : Heap, K.In base → base.Ns mainGlobals mg → FnAt P w K mg base callerA [] fa fd [x] sp) (bind : ∀ (s : Shared) (u : Value), BindsTo s fd ⟨[u], []⟩ [(x, u)])
    (hp : ∀ H : Hp, SqL K H a (ns.map V.int) → sp [.ref a] H (fun v _ => v = .bl true) E0) :
    codeAny (model P w) callerA (.call (.ref fa) ⟨[.ref a], []⟩) (fun r s' => r = .ok (.ret (.bool true)) ∧ OldK s.heap s'.heap ∧ s'.os = s.os ∧ AllBare s'.gens) s := by
  have rv := vals_ints iv
  have hn := iv.length
  have go : ∀ H : Hp, (∀ b u, H b = some u → b = a ∧ ∃ o, u = .frz o (.lst (ns.map V.int))) → SqL K H a (ns.map V.int) → HOk P w H s.heap → (H a ≠ none → K.lookup a = none) →
      codeAny (model P w) callerA (.call (.ref fa) ⟨[.ref a], []⟩) (fun r s' => r = .ok (.ret (.bool true)) ∧ OldK s.heap s'.heap ∧ s'.os = s.os ∧ AllBare s'.gens) s := by
    intro H only hS ok hK
    have tr : ∀ b, H b ≠ none → b = a := fun b z => by
      cases q : H b with
      | none => exact absurd q z
      | some u => exact (only b u q).1
    have nsK : ∀ {b : Addr} {m : Str → Option Value}, s.heap.Ns b m → (hidT s.heap H).Ns b m := by
      rintro b m ⟨o, es, ep, e, d, r⟩
      refine ⟨o, es, ep, hidT_get e ?_, d, r⟩
      cases q : H b with
      | none => rfl
      | some u =>
        obtain rfl := tr b (by simp [q])
        rw [ga] at e
        cases e
        cases (show Data.seq vs.toArray _ = Data.dict es ep from d)
    have inB : K.In (hidT s.heap H) := fun b o e => hidT_get (inK b o e) (by
      cases q : H b with
      | none => rfl
      | some u =>
        obtain rfl := tr b (by simp [q])
        have := hK (by simp [q])
        rw [this] at e
        cases e)
    have lim : (hidT s.heap H).NoLimit := let ⟨mc, e1, e2⟩ := free; ⟨mc, nsK e1, e2⟩
    have en : Env0 P w K mg (hidT s.heap H) callerA [] s H := ⟨rfl, ⟨inB, nsK gl, ⟨mb, nsK bt, bb⟩, lim⟩, fun b o e => of_hidT e, Nat.le_of_eq (hidT_size _ _), trivial, fun b z => absurd (show b ∈ ([] : List Addr) from z) (by simp), ok, .of_eq ge⟩
    refine codeAny_mono (F _ inB (nsK gl) s H ⟨[.ref a], []⟩ [.ref a] [.ref a] _ en (bind s (.ref a)) (.cons rfl .nil) (hp H hS)) fun r s' z => ?_
    cases r with
    | error e => exact False.elim z
    | ok fl =>
      cases fl with
      | next => exact False.elim z
      | brk => exact False.elim z
      | cont => exact False.elim z
      | ret u =>
        obtain ⟨v, H', os, bare, un, ok', rv', q⟩ := z
        obtain rfl : v = .bl true := q
        obtain rfl : u = Value.bool true := rv'
        refine ⟨rfl, OldK.of_keep fun b o e => ?_, os, bare⟩
        cases q : H b with
        | none => exact un.keep b o e q (fun y => absurd (show b ∈ ([] : List Addr) from y) (by simp)) (by simp)
        | some u =>
          obtain ⟨_, ob, rfl⟩ := only b u q
          obtain ⟨g1, _⟩ := ok b _ q
          obtain ⟨g2, _⟩ := ok' b _ (un.frzs b ob _ q)
          rw [e] at g1
          cases g1
          exact g2
  cases hk : K.lookup a with
  | some o =>
    have e := inK a o hk
    rw [ga] at e
    cases e
    exact go (fun _ => none) (fun b u z => by cases z) (.inr ⟨_, vs.toArray, _, hk, rfl, rfl, rfl, by rw [List.size_toArray, hn]; exact hz, by simpa using rv⟩) (fun b u z => by cases z) fun z => absurd rfl z
  | none =>
    refine go (fun b => if b = a then some (.frz { cls := .type "list", data := .seq vs.toArray } (.lst (ns.map V.int))) else none) (fun b u z => ?_) (.inl (.inr ⟨_, if_pos rfl⟩)) (fun b u z => ?_) fun _ => hk
    · split at z
      · rename_i hb
        cases z
        exact ⟨hb, _, rfl⟩
      · cases z
    · dsimp only at z
      split at z
      · rename_i hb
        cases z
        subst hb
        exact ⟨ga, by rw [List.length_map]; exact hz, vs, _, rv, ga⟩
      · cases z
/-- the goal of the head -/
theorem walk_at {l : PySem.W.OpenLaw} {n : Nat} {q : Program} {loose : List Str} {XP : (Str → Option Value) → Heap → Prop} {YP : World → Heap → Prop} {d : DefRec} {K : Params → PySem.W.Frag} {sp : World → Sp} {x : Str}
    (hn : l.most = some n) (hm : n ≤ sizeLine) (nd : d.params.defaults = []) (hY : ∀ (w : World) (h : Heap), YP w h → (K w.params).In h)
    (F : ∀ (w : World) (mg : Str → Option Value) (fa : Addr) (h : Heap), (K w.params).In h → h.Ns mainGlobals mg → mg d.name = some (.ref fa) →
      ∃ fd : FuncData, (∀ (s : Shared) (u : Value), BindsTo s fd ⟨[u], []⟩ [(x, u)]) ∧ ∀ base : Heap, (K w.params).In base → base.Ns mainGlobals mg → FnAt l.prog w (K w.params) mg base callerA [] fa fd [x] (sp w))
    (hp : ∀ (w : World) (H : Hp) (a : Addr) (ns : List Int), ns.length ≤ n → SqL (K w.params) H a (ns.map V.int) → sp w [.ref a] H (fun v _ => v = .bl true) E0) : PySem.W.WalkO q loose XP YP l.row.toRowW d [] (fun f vs => PySem.call f vs) := by
  refine Att.attach_call hn nd fun w s0 s mg mb fa o pm cd doc a vs ns G Y go gd gc gm ga iv hl ge => ?_
  obtain ⟨fd, bd, H⟩ := F w mg fa _ (hY w _ Y) G.T.g gm
  exact law_at (hY w _ Y) G.T.g G.T.b G.T.builtins G.T.nolimit ge ga iv (Nat.le_trans hl hm) H bd fun H hS => hp w H a ns hl hS
end Vm
/-! repr of data -/
namespace Vm
open PySem PySem.Spec PyProof.Rows L2
def shw (d : PyData) : Bool := PyData.layable0 d && d.intsShort 13 && d.showable && decide (d.depth ≤ 60)
def bRepr : BF
  | [d], st => if okd (deref st d) && shw (pd (deref st d)) then some (.str (pd (deref st d)).shown, st) else none
  | _, _ => none
section
variable {X : Cx} {pos : Pos}
def rRepr (K : PySem.W.Frag) : List V → Hp → VK → Prop := fun vs H Q => ∃ v d, vs = [v] ∧ Dp K H v d ∧ shw d = true ∧ Q (.str d.shown) H
theorem call_reprD {k : Nat} (hr : Room k X.A) (hg : X.A.guards = some []) : CallR X (.builtin "repr") (rRepr X.K) := by
  intro pins s σ H xs us Q I rv h
  obtain ⟨v, d, rfl, hd, hw, q⟩ := h
  obtain ⟨u, rfl, ru⟩ := vals1 rv
  obtain ⟨as, rd⟩ := Dp.reads I d v u hd ru
  unfold shw at hw
  simp only [Bool.and_eq_true, decide_eq_true_eq] at hw
  obtain ⟨⟨⟨h1, h2⟩, h3⟩, h4⟩ := hw
  have hz : d.shown.length ≤ sizeLine := PyData.shown_fits_of_layable0 (B := 13) (by decide) (by decide) h1 h2
  have fin : ∀ (tk : Tok) (k' : Tok), EP X pins σ Q (.str d.shown tk) { s with toks := k' } := fun tk k' => ⟨.str d.shown, H, I.tok _, ⟨_, rfl⟩, q⟩
  have refs : ∀ a, u = .ref a → wpAny (model X.prog X.w) X.A (call (.builtin "repr") [u]) (EP X pins σ Q) X.xe s := by
    rintro a rfl
    refine repr_of_reads' rd h3 (PyData.noDict_hsm (PyData.hasDict_of_layable h1)) hg (by have := hr.un; omega) (fun _ _ e => e) (fun h' t tk hk => ?_) hz
    exact ⟨.str d.shown, H, I.kept (t' := tk) hk, ⟨_, rfl⟩, q⟩
  cases hd with
  | non =>
    cases ru
    exact PySem.P.repr_of_none (by have := fin s.toks (s.toks + 1); simpa only [PyData.shown] using this)
  | bl b =>
    cases ru
    exact PySem.P.repr_of_bool (by have := fin s.toks (s.toks + 1); simpa only [PyData.shown] using this)
  | int i =>
    obtain ⟨t, rfl⟩ := ru
    exact PySem.P.repr_of_int (by simpa [PyData.showable] using h3) (by have := fin s.toks (s.toks + 1); simpa only [PyData.shown] using this)
  | str x =>
    obtain ⟨t, rfl⟩ := ru
    exact PySem.P.repr_of_str (hsz := by simpa only [PyData.shown] using hz) (by have := fin s.toks (s.toks + 1); simpa only [PyData.shown] using this)
  | lst _ _ => cases ru; exact refs _ rfl
  | tup _ _ => cases ru; exact refs _ rfl
theorem b_repr {k : Nat} (hr : Room k X.A) (hg : X.A.guards = some []) : CallOk X (.builtin "repr") bRepr := ⟨_, call_reprD hr hg, by
  intro ρ H st ds vs d st' Q S R e p
  unfold bRepr at e
  split at e
  · split at e
    · rename_i h
      cases e
      simp only [Bool.and_eq_true] at h
      obtain ⟨v, rfl, r⟩ := reps1 R
      exact ⟨v, _, rfl, dp_deref S r h.1, h.2, p ρ H _ Le.refl S rfl⟩
    · cases e
  · cases e⟩
/-! == of texts of any signs -/
def cNeS : CmpF := fun a b st => match a, b with
  | .str x, .str y => some (!decide (x = y))
  | _, _ => cNe a b st
def cEqS : CmpF := fun a b st => match a, b with
  | .str x, .str y => some (decide (x = y))
  | _, _ => cEq a b st
theorem c_neS {k : Nat} (hr : Room k X.A) : CmpOk X .NotEq cNeS := by
  obtain ⟨r, h1, h2⟩ := (c_ne (X := X) hr).ok
  refine ⟨_, op_ne.or h1, fun ρ H st a b x y k Q S ra rb e q => ?_⟩
  unfold cNeS at e
  split at e
  · rename_i z w
    cases e
    refine .inl ⟨?_, ?_⟩
    · rw [show x = .str z from ra, show y = .str w from rb]
      rfl
    · rw [show x = .str z from ra, show y = .str w from rb]
      simpa using q
  · exact .inr (h2 ρ H st a b x y k Q S ra rb e q)
theorem c_eqS {k : Nat} (hr : Room k X.A) : CmpOk X .Eq cEqS := by
  obtain ⟨r, h1, h2⟩ := (c_eq (X := X) hr).ok
  refine ⟨_, op_eq.or h1, fun ρ H st a b x y k Q S ra rb e q => ?_⟩
  unfold cEqS at e
  split at e
  · rename_i z w
    cases e
    refine .inl ⟨?_, ?_⟩
    · rw [show x = .str z from ra, show y = .str w from rb]
      rfl
    · rw [show x = .str z from ra, show y = .str w from rb]
      simpa using q
  · exact .inr (h2 ρ H st a b x y k Q S ra rb e q)
end
/-! what a text of data may take -/
def near : D → Bool
  | .int i => decide (-999999999 ≤ i) && decide (i ≤ 999999999)
  | _ => true
mutual
/-- all ints near -/
def nrd : D → Bool
  | .tup ds => nrds ds
  | .tl ds => nrds ds
  | .sl ds => nrds ds
  | d => near d
def nrds : List D → Bool
  | [] => true
  | d :: ds => nrd d && nrds ds
end
mutual
/-- how heavy -/
def wt : D → Nat
  | .str x => x.cps.size
  | .tup ds => wts ds
  | .tl ds => wts ds
  | .sl ds => wts ds
  | .int _ => 30
  | _ => 0
def wts : List D → Nat
  | [] => 0
  | d :: ds => wt d + 1 + wts ds
end
theorem log_near {i : Int} (h : near (.int i) = true) : i.natAbs.log2 < 30 := by
  simp only [near, Bool.and_eq_true, decide_eq_true_eq] at h
  by_cases h0 : i.natAbs = 0
  · rw [h0]; decide
  · exact (Nat.log2_lt h0).mpr (by omega)
theorem short_near {i : Int} (h : near (.int i) = true) : PyData.intsShort 13 (.int i) = true := by
  simp only [near, Bool.and_eq_true, decide_eq_true_eq] at h
  refine intsShort_of_noneOrIn (lo := -1000000000) (hi := 1000000000) (by omega) (by omega) (.int i) ?_
  simp [noneOrIn]
  omega
mutual
theorem nrd_pd : ∀ d : D, nrd d = true → (pd d).intsShort 13 = true ∧ (pd d).showable = true ∧ (pd d).weight ≤ wt d
  | .non, _ => by simp [pd, PyData.intsShort, PyData.showable, PyData.weight]
  | .bl _, _ => by simp [pd, PyData.intsShort, PyData.showable, PyData.weight]
  | .int i, h => by
    have h' : near (.int i) = true := h
    have h2 := log_near h'
    refine ⟨short_near h', ?_, ?_⟩
    · simp only [pd, PyData.showable, decide_eq_true_eq]; omega
    · simp only [pd, PyData.weight, wt]
      split <;> omega
  | .str _, _ => by simp [pd, PyData.intsShort, PyData.showable, PyData.weight, wt]
  | .tup ds, h => by simpa only [pd, PyData.intsShort, PyData.showable, PyData.weight, wt] using nrds_pd ds h
  | .tl ds, h => by simpa only [pd, PyData.intsShort, PyData.showable, PyData.weight, wt] using nrds_pd ds h
  | .sl ds, h => by simpa only [pd, PyData.intsShort, PyData.showable, PyData.weight, wt] using nrds_pd ds h
  | .ref _, _ => by simp [pd, PyData.intsShort, PyData.showable, PyData.weight]
  | .ty _, _ => by simp [pd, PyData.intsShort, PyData.showable, PyData.weight]
theorem nrds_pd : ∀ ds : List D, nrds ds = true → PyData.intsShortAll 13 (pds ds) = true ∧ PyData.showableAll (pds ds) = true ∧ PyData.weightAll (pds ds) ≤ wts ds
  | [], _ => by simp [pds, PyData.intsShortAll, PyData.showableAll, PyData.weightAll]
  | d :: ds, h => by
    simp only [nrds, Bool.and_eq_true] at h
    obtain ⟨a1, a2, a3⟩ := nrd_pd d h.1
    obtain ⟨b1, b2, b3⟩ := nrds_pd ds h.2
    simp only [pds, PyData.intsShortAll, PyData.showableAll, PyData.weightAll, wts, a1, a2, b1, b2, Bool.and_self, true_and]
    omega
end
/-- repr of data that is near, light and not deep -/
theorem repr_eq {d : D} {st : Store} (h1 : okd d = true) (h2 : nrd d = true) (h3 : wt d ≤ 1048576) (h4 : dep d ≤ 60) (hd : deref st d = d) : bRepr [d] st = some (.str (pd d).shown, st) := by
  obtain ⟨a1, a2, a3⟩ := nrd_pd d h2
  have hl : PyData.layable0 (pd d) = true := by
    show (PyData.canLay0 (pd d) && decide (PyData.depth (pd d) ≤ 64) && decide (PyData.weight (pd d) ≤ 2 ^ 20)) = true
    rw [lay_pd d h1, dep_pd, decide_eq_true (show dep d ≤ 64 by omega), decide_eq_true (show (pd d).weight ≤ 2 ^ 20 by omega)]
    rfl
  unfold bRepr
  show (if (okd (deref st d) && shw (pd (deref st d))) = true then some (D.str (pd (deref st d)).shown, st) else none) = _
  rw [hd]
  have : shw (pd d) = true := by
    unfold shw
    rw [hl, a1, a2, dep_pd, decide_eq_true h4]
    rfl
  rw [h1, this]
  simp
end Vm
/-! more methods of lists -/
namespace Vm
open PySem PySem.Spec PyProof.Rows L2
set_option maxRecDepth 8000 in
theorem ext_tup (x y : Addr) (xs ys : Array Value) (m k : Nat) (dd : Option Addr) (sl : Array (Option Value)) (h0 : ¬(!xs.isEmpty && Builtin.List.listTooLong (xs.size + ys.size)) = true) (h1 : xs.size ≤ sizeLine) (h2 : xs.size + ys.size ≤ sizeLine + 1) :
    Meets (Builtin.«list.extend» ⟨[.ref x, .ref y], []⟩) (fun _ R s => s.heap.get? x = some ⟨.type "list", none, .seq xs m, #[]⟩ ∧ s.heap.get? y = some ⟨.type "tuple", dd, .seq ys k, sl⟩ ∧ R (.ok (.ret Value.none)) { s with heap := s.heap.update x (Obj.mapSeq fun z => z ++ ys), toks := s.toks }) :=
  .of_wp fun prog w A R s hh => by
    obtain ⟨hp, g, d, tk, os⟩ := s
    obtain ⟨gx, gy, fin⟩ := hh
    have i1 := PySem.AutoSeq1.idx_int
    have i2 := PySem.AutoSeq1.sub_tuple_tuple
    have i3 := PySem.AutoSeq1.sub_list_list
    have i4 := PySem.AutoSeq1.sub_tuple_list
    have i5 := PySem.AutoSeq1.sub_list_tuple
    have big : (xs ++ ys).size ≤ sizeLine + 1 := Array.size_append ▸ h2
    wp_walk using (wpAny_updateSeq gx rfl (hz := h1) (_hz' := big)), wpAny_loadPart' gx, wpAny_loadPart' gy
    exact ⟨_, rfl, fin⟩
section
variable {X : Cx} {pos : Pos}
def rExtT (K : PySem.W.Frag) : V → List V → Hp → VK → Prop := fun x vs H Q => ∃ a b us ws, x = .ref a ∧ vs = [.ref b] ∧ H a = some (.lst us) ∧ SqT K H b ws ∧ us.length + ws.length ≤ sizeLine ∧ Q .non (upd H a (.lst (us ++ ws)))
theorem mt_extT : MtM X "list.extend" (rExtT X.K) := by
  intro pins s σ H x vs v us Q I rx rv h
  obtain ⟨a, b, as, ws, rfl, rfl, ha, hb, hz, q⟩ := h
  cases rx
  obtain ⟨u, rfl, ru⟩ := rv.one
  cases ru
  obtain ⟨_, its, n, r1, l1, g1⟩ := I.lstM ha
  obtain ⟨jts, r2, ⟨⟨cls, dd, data, sl⟩, g2, hc, k, hd⟩, _⟩ := I.tuple hb
  simp only at hc hd
  subst hc hd
  have n1 := r1.length
  have n2 := r2.length
  have big : its.toArray.size + jts.toArray.size ≤ sizeLine := by rw [List.size_toArray, List.size_toArray]; omega
  have door : ¬ (!its.toArray.isEmpty && Builtin.List.listTooLong (its.toArray.size + jts.toArray.size)) = true := by
    rw [notLongL big, Bool.and_false]
    decide
  refine call_meets PySem.F.slot_list_extend ⟨_, g1, rfl⟩ PySem.F.entry_list_extend (PySem.F.args_list_extend_2 _ _) (ext_tup a b its.toArray jts.toArray n k dd sl door (by rw [List.size_toArray]; omega) (by omega)) ⟨g1, g2, ?_⟩
  exact ⟨.non, _, I.lset (its' := its ++ jts) ha g1 (by simp) (r1.append r2) (by rw [List.length_append]; omega), rfl, q⟩
theorem mt_extA : MtM X "list.extend" (fun x vs H Q => rExtend x vs H Q ∨ rExtT X.K x vs H Q) := by
  intro pins s σ H x vs v us Q I rx rv h
  rcases h with h | h
  · exact mt_extend pins s σ H x vs v us Q I rx rv h
  · exact mt_extT pins s σ H x vs v us Q I rx rv h
/-- a list's items as a list's or a tuple's -/
def extOf (st : Store) : D → Option (List D)
  | .tup xs => some xs
  | d => lstOf st d
/-- o.extend(e), a statement -/
def sExt (Fo F : FE) : FS := fun env st => match Fo env st with
  | some (.ref n, st1) => match st1[n]? with
    | some (.lst _) => match F env st1 with
      | some (x, st2) => match st2[n]? with
        | some (.lst xs) => match extOf st2 x with
          | some ys => if xs.length + ys.length ≤ 16777216 then some (.nx env, st2.set n (.lst (xs ++ ys))) else none
          | none => none
        | _ => none
      | none => none
    | _ => none
  | _ => none
theorem s_ext {o e : Expr} {Fo F : FE} {apos cpos : Pos} (ho : PE X o (tE X.K Fo)) (he : PE X e (tE X.K F)) (hbase : attributeBase o "extend" X.env (eval o X.env) = eval o X.env := by rfl)
    (hfew : ((backTo cpos (starEach [e] X.env)).all (fun x => !x.1) && (backToKw cpos (keywordEach [] X.env)).all (fun x => x.1.isSome)
      && decide ([e].length + ([] : List Keyword).length + (if ([] : List Keyword).isEmpty then 0 else 1) < 30)) = true := by rfl)
    (hline : (apos.endLine == cpos.line) = true := by rfl) (hs : starEach [e] X.env = (false, eval e X.env) :: starEach [] X.env := by rfl) (hplain : (backTo cpos (starEach [] X.env)).any (·.1) = false := by rfl)
    (hsw : swapsWith (.Call (.Attribute o "extend" apos) [e] [] cpos) none pos.line X.env = pure false := by rfl) :
    PS X (.Expr (.Call (.Attribute o "extend" apos) [e] [] cpos) pos) (tS X.K (sExt Fo F)) := by
  refine psConv (ps_expr (pe_bm PySem.F.plainAttrs_list PySem.F.slot_list_extend PySem.F.type_list_extend mt_extA ho (a_cons he a_nil hs) hbase hfew hline hs hplain) hsw) fun Dn σ H h => ?_
  obtain ⟨ρ, env, st, out, st', S, E, e, p⟩ := h
  unfold sExt at e
  split at e
  · rename_i n st1 e1
    split at e
    · rename_i ys e2
      split at e
      · rename_i x st2 e3
        split at e
        · rename_i xs e4
          split at e
          · rename_i zs e5
            split at e
            · rename_i hl
              cases e
              refine tE_bind S E e1 fun ρ1 H1 v L1 S1 R1 E1 => ?_
              refine ⟨ty_list S1 R1 e2, ρ1, env, st1, [x], st2, S1, E1, by simp [fCons, fNil, e3], fun ρ2 H2 vs L2 S2 R2 => ?_⟩
              obtain ⟨w, rfl, rw'⟩ := reps1 R2
              obtain ⟨a, rfl, hn⟩ := Rep.mono L2 _ _ R1
              obtain ⟨us, h2, rr⟩ := S2.obj n _ a e4 hn
              have fin : ∀ ws : List V, Reps X.K ρ2 H2 zs ws → Dn.nx σ (upd H2 a (.lst (us ++ ws))) := fun ws rz => by
                have LW := Le.write (u' := .lst (us ++ ws)) (List.mem_of_getElem? hn) h2 (fun _ z => by cases z) (fun _ _ z => by cases z)
                exact p ρ2 _ σ ((L1.trans L2).trans LW) (S2.write hn h2 (fun _ z => by cases z) (fun _ _ z => by cases z) ⟨_, upd_same, Reps.mono LW _ _ (rr.append rz)⟩) ((E1.mono L2).mono LW)
              unfold extOf at e5
              split at e5
              · cases e5
                obtain ⟨b, ws, rfl, hs2, rz⟩ := rw'
                exact .inr ⟨a, b, us, ws, rfl, rfl, h2, hs2, by rw [← rr.length, ← rz.length, sizeLine_eq]; exact hl, fin ws rz⟩
              · obtain ⟨b, ws, rfl, hs2, rz⟩ := lstOf_rep S2 rw' e5
                exact .inl ⟨a, b, us, ws, rfl, rfl, h2, hs2, by rw [← rr.length, ← rz.length, sizeLine_eq]; exact hl, fin ws rz⟩
            · cases e
          · cases e
        · cases e
      · cases e
    · cases e
  · cases e
/-- o.reverse(), a statement -/
def sRev (Fo : FE) : FS := fun env st => match Fo env st with
  | some (.ref n, st1) => match st1[n]? with
    | some (.lst xs) => some (.nx env, st1.set n (.lst xs.reverse))
    | _ => none
  | _ => none
theorem s_rev {o : Expr} {Fo : FE} {apos cpos : Pos} (ho : PE X o (tE X.K Fo)) (hbase : attributeBase o "reverse" X.env (eval o X.env) = eval o X.env := by rfl) (hline : (apos.endLine == cpos.line) = true := by rfl)
    (hsw : swapsWith (.Call (.Attribute o "reverse" apos) [] [] cpos) none pos.line X.env = pure false := by rfl) : PS X (.Expr (.Call (.Attribute o "reverse" apos) [] [] cpos) pos) (tS X.K (sRev Fo)) := by
  refine psConv (ps_expr (pe_bm0 PySem.F.plainAttrs_list PySem.F.slot_list_reverse PySem.F.type_list_reverse mt_reverse ho hbase hline) hsw) fun Dn σ H h => ?_
  obtain ⟨ρ, env, st, out, st', S, E, e, p⟩ := h
  unfold sRev at e
  split at e
  · rename_i n st1 e1
    split at e
    · rename_i xs e2
      cases e
      refine tE_bind S E e1 fun ρ1 H1 v L1 S1 R1 E1 => ?_
      refine ⟨ty_list S1 R1 e2, ?_⟩
      obtain ⟨a, rfl, hn⟩ := R1
      obtain ⟨us, h2, rr⟩ := S1.obj n _ a e2 hn
      have LW := Le.write (u' := .lst us.reverse) (List.mem_of_getElem? hn) h2 (fun _ z => by cases z) (fun _ _ z => by cases z)
      exact ⟨a, us, rfl, rfl, h2, p ρ1 _ σ (L1.trans LW) (S1.write hn h2 (fun _ z => by cases z) (fun _ _ z => by cases z) ⟨_, upd_same, Reps.mono LW _ _ rr.rev⟩) (E1.mono LW)⟩
    · cases e
  · cases e
end
end Vm
/-! dicts of the store, with ints and texts as keys -/
namespace Vm
open PySem PySem.Spec PyProof.Rows L2
def keyD : D → Option Key
  | .int i => some (.inl i)
  | .str x => some (.inr x)
  | _ => none
def getD (kvs : List (Key × D)) (k : Key) : Option D := (kvs.find? fun kv => decide (kv.1 = k)).map (·.2)
def putD (kvs : List (Key × D)) (k : Key) (d : D) : List (Key × D) := if (kvs.any fun kv => decide (kv.1 = k)) = true then kvs.map (fun kv => if kv.1 = k then (kv.1, d) else kv) else kvs ++ [(k, d)]
section
variable {K : PySem.W.Frag} {ρ : Wn} {H : Hp}
theorem keyD_rep {d : D} {v : V} {k : Key} (r : Rep K ρ H d v) (e : keyD d = some k) : v = kV k := by
  unfold keyD at e
  split at e
  · cases e; exact r
  · cases e; exact r
  · cases e
theorem getD_rep : ∀ {kvs : List (Key × D)} {us : List (Key × V)} (k : Key), us.map (·.1) = kvs.map (·.1) → Reps K ρ H (kvs.map (·.2)) (us.map (·.2)) → (getD kvs k = none ∧ valV us k = none) ∨ ∃ d v, getD kvs k = some d ∧ valV us k = some v ∧ Rep K ρ H d v
  | [], us, k, e, r => by
    have : us = [] := by simpa using e
    subst this
    exact .inl ⟨rfl, rfl⟩
  | (j, d) :: kvs, us, k, e, r => by
    cases us with
    | nil => simp at e
    | cons u us =>
      obtain ⟨j', v⟩ := u
      simp only [List.map_cons, List.cons.injEq] at e
      obtain ⟨rfl, e⟩ := e
      simp only [List.map_cons] at r
      obtain ⟨v', w, e2, r1, r2⟩ := r
      simp only [List.cons.injEq] at e2
      obtain ⟨rfl, rfl⟩ := e2
      by_cases h : j' = k
      · exact .inr ⟨d, v, by simp [getD, h], valV_pos h, r1⟩
      · rcases getD_rep k e r2 with ⟨h1, h2⟩ | ⟨d', v', h1, h2, h3⟩
        · refine .inl ⟨?_, (valV_neg h).trans h2⟩
          rw [← h1]
          simp [getD, List.find?_cons, h]
        · refine .inr ⟨d', v', ?_, (valV_neg h).trans h2, h3⟩
          rw [← h1]
          simp [getD, List.find?_cons, h]
theorem putD_rep {kvs : List (Key × D)} {us : List (Key × V)} {k : Key} {d : D} {v : V} (e : us.map (·.1) = kvs.map (·.1)) (r : Reps K ρ H (kvs.map (·.2)) (us.map (·.2))) (rd : Rep K ρ H d v) :
    (putK us k v).map (·.1) = (putD kvs k d).map (·.1) ∧ Reps K ρ H ((putD kvs k d).map (·.2)) ((putK us k v).map (·.2)) := by
  have ea : (us.any fun kv => decide (kv.1 = k)) = (kvs.any fun kv => decide (kv.1 = k)) := by
    have h1 : (us.any fun kv => decide (kv.1 = k)) = (us.map (·.1)).any fun j => decide (j = k) := by simp [List.any_map, Function.comp_def]
    have h2 : (kvs.any fun kv => decide (kv.1 = k)) = (kvs.map (·.1)).any fun j => decide (j = k) := by simp [List.any_map, Function.comp_def]
    rw [h1, h2, e]
  unfold putK putD
  rw [ea]
  by_cases h : (kvs.any fun kv => decide (kv.1 = k)) = true
  · rw [if_pos h, if_pos h]
    clear h ea
    induction kvs generalizing us with
    | nil =>
      have : us = [] := by simpa using e
      subst this
      exact ⟨rfl, rfl⟩
    | cons p kvs ih =>
      cases us with
      | nil => simp at e
      | cons u us =>
        simp only [List.map_cons, List.cons.injEq] at e
        simp only [List.map_cons] at r
        obtain ⟨v', w, e2, r1, r2⟩ := r
        simp only [List.cons.injEq] at e2
        obtain ⟨rfl, rfl⟩ := e2
        obtain ⟨i1, i2⟩ := ih e.2 r2
        simp only [List.map_cons]
        by_cases hk : p.1 = k
        · have hu : u.1 = k := e.1.trans hk
          rw [if_pos hk, if_pos hu]
          exact ⟨by rw [i1, e.1], _, _, rfl, rd, i2⟩
        · have hu : ¬ u.1 = k := fun z => hk (e.1.symm.trans z)
          rw [if_neg hk, if_neg hu]
          exact ⟨by rw [i1, e.1], _, _, rfl, r1, i2⟩
  · rw [if_neg h, if_neg h]
    refine ⟨by simp [e], ?_⟩
    simp only [List.map_append, List.map_cons, List.map_nil]
    exact r.snoc rd
end
theorem peOr {X : Cx} {e : Expr} {t t' : TE} (h : PE X e t) (h' : PE X e t') : PE X e (fun σ H Q => t σ H Q ∨ t' σ H Q) := ⟨fun pins s σ H Q I q => by
  rcases q with q | q
  · exact h.run pins s σ H Q I q
  · exact h'.run pins s σ H Q I q⟩
section
variable {X : Cx} {pos : Pos}
/-- {} -/
def fDicN : FE := fun _ st => some (.ref st.length, st ++ [.dic []])
theorem e_dicN : PE X (.Dict [] [] pos) (tE X.K fDicN) := by
  refine peConv pe_dnewK fun σ H Q h => ?_
  obtain ⟨ρ, env, st, d, st', S, E, e, p⟩ := h
  cases e
  intro a ha
  have L := Le.push (ρ := ρ) (H := H) (o := .dK []) ha
  refine p _ _ _ L (S.push ha ⟨[], upd_same, rfl, rfl⟩) ⟨a, rfl, ?_⟩
  rw [← S.len, List.getElem?_append_right (Nat.le_refl _)]
  simp
/-- a[b]: of a dict of the store, or as ever -/
def dIdxA : D → D → Store → Option D := fun a b st => match a with
  | .ref n => match st[n]? with
    | some (.dic kvs) => match keyD b with
      | some k => getD kvs k
      | none => none
    | _ => dIdx a b st
  | _ => dIdx a b st
theorem e_idxA {a b : Expr} {F G : FE} (hu : X.A.units + 1 < cLine) (ha : PE X a (tE X.K F)) (hb : PE X b (tE X.K G)) (hs : PlainIx b := by exact fun _ _ => rfl) (hn : NoSl b := by exact fun _ _ => rfl) : PE X (.Subscript a b pos) (tE X.K (fBin dIdxA F G)) := by
  refine peConv (peOr (e_idx ha hb hs) (pe_dget hu ha hb hn)) fun σ H Q h => ?_
  obtain ⟨ρ, env, st, d, st', S, E, e, p⟩ := h
  unfold fBin at e
  split at e
  · rename_i x st1 e1
    split at e
    · rename_i y st2 e2
      split at e
      · rename_i d' e3
        cases e
        have old : dIdx x y st' = some d → tE X.K (fBin dIdx F G) σ H Q := fun q => ⟨ρ, env, st, d, st', S, E, by simp [fBin, e1, e2, q], p⟩
        unfold dIdxA at e3
        split at e3
        · rename_i n
          split at e3
          · rename_i kvs e4
            split at e3
            · rename_i k e5
              refine .inr (tE_bind S E e1 fun ρ1 H1 v L1 S1 R1 E1 => ?_)
              refine tE_bind S1 E1 e2 fun ρ2 H2 w L2 S2 R2 E2 => ?_
              obtain ⟨q, rfl, hn⟩ := Rep.mono L2 _ _ R1
              obtain ⟨us, h2, h3, h4⟩ := S2.obj n _ q e4 hn
              rcases getD_rep k h3 h4 with ⟨z, _⟩ | ⟨d2, v2, z, hv, rv⟩
              · rw [z] at e3; cases e3
              · rw [z] at e3
                cases e3
                exact ⟨q, v2, rfl, .inl ⟨us, k, .inl h2, keyD_rep R2 e5, hv.symm⟩, p ρ2 H2 _ (L1.trans L2) S2 rv⟩
            · cases e3
          · exact .inl (old e3)
        · exact .inl (old e3)
      · cases e
    · cases e
  · cases e
/-- b in a: a dict of the store, or as ever -/
def isInA : CmpF := fun b a st => match a with
  | .ref n => match st[n]? with
    | some (.dic kvs) => match keyD b with
      | some k => some (getD kvs k).isSome
      | none => none
    | _ => isIn b a st
  | _ => isIn b a st
def cInA : CmpF := isInA
def cNotInA : CmpF := fun b a st => match a with
  | .ref n => match st[n]? with
    | some (.dic kvs) => match keyD b with
      | some k => some (!(getD kvs k).isSome)
      | none => none
    | _ => cNotIn b a st
  | _ => cNotIn b a st
theorem op_dIn (hu : X.A.units + 1 < cLine) : OpR X (compareOp .In) (fun y x H Q => ∃ a o, x = .ref a ∧ DGet H a y o ∧ Q (.bl o.isSome) H) := by
  intro pins s σ H y x v u Q I ry rx h
  obtain ⟨a, o, rfl, g, q⟩ := h
  cases rx
  exact d_in hu I g ry fun s3 I3 => ⟨.bl o.isSome, H, I3, rfl, q⟩
theorem op_dNotIn (hu : X.A.units + 1 < cLine) : OpR X (compareOp .NotIn) (fun y x H Q => ∃ a o, x = .ref a ∧ DGet H a y o ∧ Q (.bl (!o.isSome)) H) := by
  intro pins s σ H y x v u Q I ry rx h
  obtain ⟨a, o, rfl, g, q⟩ := h
  cases rx
  exact d_notIn hu I g ry fun s3 I3 => ⟨.bl (!o.isSome), H, I3, rfl, q⟩
theorem dic_at {K : PySem.W.Frag} {ρ : Wn} {H : Hp} {st : Store} {n : Nat} {kvs : List (Key × D)} {b : D} {k : Key} {x y : V} (S : Sim K ρ st H) (ra : Rep K ρ H (.ref n) x) (rb : Rep K ρ H b y) (e4 : st[n]? = some (.dic kvs)) (e5 : keyD b = some k) : ∃ a o, x = .ref a ∧ DGet H a y o ∧ o.isSome = (getD kvs k).isSome := by
  obtain ⟨q, rfl, hn⟩ := ra
  obtain ⟨us, h2, h3, h4⟩ := S.obj n _ q e4 hn
  refine ⟨q, valV us k, rfl, .inl ⟨us, k, .inl h2, keyD_rep rb e5, rfl⟩, ?_⟩
  rcases getD_rep k h3 h4 with ⟨z, z2⟩ | ⟨d2, v2, z, z2, _⟩
  · rw [z, z2]; rfl
  · rw [z, z2]; rfl
theorem c_inA {k : Nat} (hr : Room k X.A) (hu : X.A.units + 1 < cLine) : CmpOk X .In cInA := by
  obtain ⟨r, h1, h2⟩ := (c_in (X := X) hr).ok
  refine ⟨_, (op_dIn hu).or h1, fun ρ H st b a y x j Q S rb ra e q => ?_⟩
  unfold cInA isInA at e
  split at e
  · split at e
    · rename_i kvs e4
      split at e
      · rename_i k e5
        cases e
        obtain ⟨a, o, rfl, g, ho⟩ := dic_at S ra rb e4 e5
        exact .inl ⟨a, o, rfl, g, by rw [ho]; exact q⟩
      · cases e
    · exact .inr (h2 ρ H st b _ y x j Q S rb ra e q)
  · exact .inr (h2 ρ H st b _ y x j Q S rb ra e q)
theorem c_notInA {k : Nat} (hr : Room k X.A) (hu : X.A.units + 1 < cLine) : CmpOk X .NotIn cNotInA := by
  obtain ⟨r, h1, h2⟩ := (c_notIn (X := X) hr).ok
  refine ⟨_, (op_dNotIn hu).or h1, fun ρ H st b a y x j Q S rb ra e q => ?_⟩
  unfold cNotInA at e
  split at e
  · split at e
    · rename_i kvs e4
      split at e
      · rename_i k e5
        cases e
        obtain ⟨a, o, rfl, g, ho⟩ := dic_at S ra rb e4 e5
        exact .inl ⟨a, o, rfl, g, by rw [ho]; exact q⟩
      · cases e
    · exact .inr (h2 ρ H st b _ y x j Q S rb ra e q)
  · exact .inr (h2 ρ H st b _ y x j Q S rb ra e q)
/-- o[i] = e, o a dict of the store -/
def sPutD (Fo Fi F : FE) : FS := fun env st => match F env st with
  | some (x, st1) => match Fo env st1 with
    | some (.ref n, st2) => match Fi env st2 with
      | some (i, st3) => match st3[n]? with
        | some (.dic kvs) => match keyD i with
          | some k => if kvs.length < 16777216 then some (.nx env, st3.set n (.dic (putD kvs k x))) else none
          | none => none
        | _ => none
      | none => none
    | _ => none
  | none => none
theorem s_putD {o i e : Expr} {Fo Fi F : FE} {spos : Pos} (hu : X.A.units + 1 < cLine) (he : PE X e (tE X.K F)) (ho : PE X o (tE X.K Fo)) (hi : PE X i (tE X.K Fi)) (hs : swapsWith e (some (.Subscript o i spos)) pos.line X.env = pure false := by rfl) :
    PS X (.Assign [.Subscript o i spos] e pos) (tS X.K (sPutD Fo Fi F)) := by
  refine psConv (ps_dput hu ho hi he hs) fun Dn σ H h => ?_
  obtain ⟨ρ, env, st, out, st', S, E, e, p⟩ := h
  unfold sPutD at e
  split at e
  · rename_i x st1 e1
    split at e
    · rename_i n st2 e2
      split at e
      · rename_i i' st3 e3
        split at e
        · rename_i kvs e4
          split at e
          · rename_i k e5
            split at e
            · rename_i hl
              cases e
              refine tE_bind S E e1 fun ρ1 H1 v L1 S1 R1 E1 => ?_
              refine tE_bind S1 E1 e2 fun ρ2 H2 ov L2 S2 R2 E2 => ?_
              refine tE_bind S2 E2 e3 fun ρ3 H3 iv L3 S3 R3 E3 => ?_
              obtain ⟨a, rfl, hn⟩ := Rep.mono L3 _ _ R2
              obtain ⟨us, h2, h3, h4⟩ := S3.obj n _ a e4 hn
              have hlen : us.length = kvs.length := by have := congrArg List.length h3; simpa using this
              have LW := Le.write (u' := .dK (putK us k v)) (List.mem_of_getElem? hn) h2 (fun _ z => by cases z) (fun _ _ z => by cases z)
              refine ⟨a, _, rfl, .inl ⟨us, k, h2, keyD_rep R3 e5, by rw [hlen, sizeLine_eq]; exact hl, rfl⟩, ?_⟩
              obtain ⟨g1, g2⟩ := putD_rep (k := k) h3 h4 (Rep.mono (L2.trans L3) _ _ R1)
              exact p ρ3 _ σ (((L1.trans L2).trans L3).trans LW) (S3.write hn h2 (fun _ z => by cases z) (fun _ _ z => by cases z) ⟨_, upd_same, g1, Reps.mono LW _ _ g2⟩) (E3.mono LW)
            · cases e
          · cases e
        · cases e
      · cases e
    · cases e
  · cases e
end
end Vm
/-! written dicts of numbers and texts -/
namespace Vm
open PySem PySem.Spec PyProof.Rows L2
def mergeD (kvs more : List (Key × D)) : List (Key × D) := more.foldl (fun acc kv => putD acc kv.1 kv.2) kvs
def cV : D → V
  | .int i => .int i
  | .str x => .str x
  | .bl b => .bl b
  | _ => .non
def isC : D → Bool
  | .int _ => true
  | .str _ => true
  | .bl _ => true
  | .non => true
  | _ => false
theorem isC_rep {K : PySem.W.Frag} {ρ : Wn} {H : Hp} {d : D} (h : isC d = true) : Rep K ρ H d (cV d) := by
  cases d <;> simp [isC] at h <;> rfl
theorem merge_rep {K : PySem.W.Frag} {ρ : Wn} {H : Hp} : ∀ (more : List (Key × D)) {kvs : List (Key × D)} {us : List (Key × V)}, (∀ kv ∈ more, isC kv.2 = true) → us.map (·.1) = kvs.map (·.1) → Reps K ρ H (kvs.map (·.2)) (us.map (·.2)) →
    (mergeK us (more.map fun kv => (kv.1, cV kv.2))).map (·.1) = (mergeD kvs more).map (·.1) ∧ Reps K ρ H ((mergeD kvs more).map (·.2)) ((mergeK us (more.map fun kv => (kv.1, cV kv.2))).map (·.2))
  | [], _, _, _, e, r => ⟨e, r⟩
  | (k, d) :: more, kvs, us, hc, e, r => by
    obtain ⟨g1, g2⟩ := putD_rep (k := k) e r (isC_rep (hc (k, d) List.mem_cons_self))
    exact merge_rep more (fun kv h => hc kv (List.mem_cons_of_mem _ h)) g1 g2
theorem pairs_c {σ : L2.St} : ∀ (kvs : List (Key × D)) (H : Hp) (Q : List (V × V) → Hp → Prop), Q (kvs.map fun kv => (kV kv.1, cV kv.2)) H → tPairs (kvs.map fun kv => (tC (kV kv.1), tC (cV kv.2))) σ H Q
  | [], _, _, q => q
  | (k, d) :: kvs, H, Q, q => pairs_c kvs H (fun ps H3 => Q ((kV k, cV d) :: ps) H3) q
section
variable {X : Cx} {pos : Pos}
def fDisp (kvs : List (Key × D)) : FE := fun _ st => some (.ref st.length, st ++ [.dic (mergeD [] kvs)])
theorem e_disp (kvs : List (Key × D)) {keys : List (Option Expr)} {values : List Expr} (h : PPs X pos keys values (kvs.map fun kv => (tC (kV kv.1), tC (cV kv.2)))) (hc : ∀ kv ∈ kvs, isC kv.2 = true) (hall : keys.all (·.isSome) = true) (hl : keys.length = values.length) (h0 : keys ≠ []) (h15 : keys.length ≤ 15) (h2 : kvs.length ≤ 15) :
    PE X (.Dict keys values pos) (tE X.K (fDisp kvs)) := by
  refine peConv (pe_disp h hall hl h0 h15) fun σ H Q h => ?_
  obtain ⟨ρ, env, st, d, st', S, E, e, p⟩ := h
  cases e
  intro a ha
  refine pairs_c kvs _ _ ⟨upd_same, kvs.map fun kv => (kv.1, cV kv.2), by simp [List.map_map, Function.comp_def], by simpa using h2, ?_⟩
  obtain ⟨g1, g2⟩ := merge_rep (K := X.K) (ρ := ρ) (H := H) kvs (kvs := []) (us := []) hc rfl rfl
  rw [show upd (upd H a (.dK [])) a (.dK (mergeK [] (kvs.map fun kv => (kv.1, cV kv.2)))) = upd H a (.dK (mergeK [] (kvs.map fun kv => (kv.1, cV kv.2)))) from funext fun b => by
    by_cases z : b = a
    · rw [z, upd_same, upd_same]
    · rw [upd_ne z, upd_ne z, upd_ne z]]
  have L := Le.push (ρ := ρ) (H := H) (o := .dK (mergeK [] (kvs.map fun kv => (kv.1, cV kv.2)))) ha
  refine p _ _ _ L (S.push ha ⟨_, upd_same, g1, Reps.mono L _ _ g2⟩) ⟨a, rfl, ?_⟩
  rw [← S.len, List.getElem?_append_right (Nat.le_refl _)]
  simp
end
end Vm
/-! a dict of the module; repr of a dict of the store -/
namespace Vm
open PySem PySem.Spec PyProof.Rows L2
/-- a dict of texts that the module holds -/
structure GD (K : PySem.W.Frag) (w : World) (mg : Str → Option Value) (x : Str) (kvs : List (Str × D)) : Prop where
  ex : ∃ a, mg x = some (.ref a) ∧ ∀ kv ∈ kvs, isC kv.2 = true ∧ KDct K w a kv.1 (cV kv.2)
def getS (kvs : List (Str × D)) (x : Str) : Option D := (kvs.find? fun kv => decide (kv.1 = x)).map (·.2)
def fGD (kvs : List (Str × D)) (F : FE) : FE := fun env st => match F env st with
  | some (.str x, st1) => match getS kvs x with
    | some d => some (d, st1)
    | none => none
  | _ => none
section
variable {X : Cx} {pos : Pos}
theorem e_gd {x : Str} {i : Expr} {p : Pos} {kvs : List (Str × D)} {F : FE} (hg : Gl X x) (G : GD X.K X.w X.mg x kvs) (hi : PE X i (tE X.K F)) (hs : PlainIx i := by exact fun _ _ => rfl) (hdb : (x == ("__debug__" : Str)) = false := by decide) :
    PE X (.Subscript (.Name x p) i pos) (tE X.K (fGD kvs F)) := by
  obtain ⟨a, gm, gv⟩ := G.ex
  refine peConv (pe_ix ix_kdict (pe_glob (v := .ref a) hg gm rfl hdb) hi hs) fun σ H Q h => ?_
  obtain ⟨ρ, env, st, d, st', S, E, e, p⟩ := h
  unfold fGD at e
  split at e
  · rename_i z st1 e1
    split at e
    · rename_i d' e2
      cases e
      refine tE_bind S E e1 fun ρ1 H1 v L1 S1 R1 E1 => ?_
      unfold getS at e2
      obtain ⟨kv, e3, rfl⟩ := Option.map_eq_some_iff.mp e2
      have hz : kv.1 = z := by simpa using List.find?_some e3
      obtain ⟨c1, c2⟩ := gv kv (List.mem_of_find?_eq_some e3)
      exact ⟨a, z, cV kv.2, rfl, R1, hz ▸ c2, p ρ1 H1 _ L1 S1 (isC_rep c1)⟩
    · cases e
  · cases e
end
/-! repr of a dict -/
mutual
/-- no list within -/
def nl : D → Bool
  | .non => true
  | .bl _ => true
  | .int _ => true
  | .str _ => true
  | .tup ds => nls ds
  | _ => false
def nls : List D → Bool
  | [] => true
  | d :: ds => nl d && nls ds
end
def kD : Key → PyData
  | .inl i => .int i
  | .inr x => .str x
def pdk (kvs : List (Key × D)) : List (PyData × PyData) := kvs.map fun kv => (kD kv.1, pd kv.2)
section
variable {X : Cx} {pins : List (Addr × Obj)} {σ : L2.St} {H : Hp} {s : Shared} {ρ : Wn}
mutual
theorem reads_nl (I : Inv X pins σ H s) : ∀ (d : D) (v : V) (u : Value), nl d = true → Rep X.K ρ H d v → RelV v u → Reads s.heap u (pd d) []
  | .non, v, u, _, r, rv => by
    obtain rfl : v = .non := r
    cases rv
    simp only [pd]
    exact .none
  | .bl b, v, u, _, r, rv => by
    obtain rfl : v = .bl b := r
    cases rv
    simp only [pd]
    exact .bool b
  | .int i, v, u, _, r, rv => by
    obtain rfl : v = .int i := r
    obtain ⟨t, rfl⟩ := rv
    simp only [pd]
    exact .int i t
  | .str x, v, u, _, r, rv => by
    obtain rfl : v = .str x := r
    obtain ⟨t, rfl⟩ := rv
    simp only [pd]
    exact .str x t
  | .tup ds, v, u, h, r, rv => by
    obtain ⟨a, vs, rfl, hs, rr⟩ := r
    cases rv
    obtain ⟨its, r1, ⟨o, go, hc, n, hd⟩, _⟩ := I.tuple hs
    simp only [pd]
    exact .tuple go hc hd (reads_nls I ds vs its (by simpa [nl] using h) rr r1)
  | .tl _, _, _, h, _, _ => by simp [nl] at h
  | .sl _, _, _, h, _, _ => by simp [nl] at h
  | .ref _, _, _, h, _, _ => by simp [nl] at h
  | .ty _, _, _, h, _, _ => by simp [nl] at h
theorem reads_nls (I : Inv X pins σ H s) : ∀ (ds : List D) (vs : List V) (us : List Value), nls ds = true → Reps X.K ρ H ds vs → Vals vs us → ReadsAll s.heap us (pds ds) []
  | [], vs, us, _, r, rv => by
    obtain rfl : vs = [] := r
    cases rv
    simp only [pds]
    exact .nil
  | d :: ds, vs, us, h, r, rv => by
    obtain ⟨v, w, rfl, r1, r2⟩ := r
    simp only [nls, Bool.and_eq_true] at h
    cases rv with
    | cons q1 q2 =>
      simp only [pds]
      exact .cons (reads_nl I d v _ h.1 r1 q1) (reads_nls I ds w _ h.2 r2 q2)
end
theorem reads_kvs (I : Inv X pins σ H s) : ∀ (kvs : List (Key × D)) (us : List (Key × V)) (vs : List (Key × Value)) (es : List DictEntry), (∀ kv ∈ kvs, nl kv.2 = true) → us.map (·.1) = kvs.map (·.1) → Reps X.K ρ H (kvs.map (·.2)) (us.map (·.2)) → KV us vs → PySem.Pairs (mixKind X.prog X.w) es vs →
    ReadsAll s.heap (es.map (·.key)) ((pdk kvs).map (·.1)) [] ∧ ReadsAll s.heap (es.map (·.val)) ((pdk kvs).map (·.2)) []
  | [], us, vs, es, _, e, _, kv, ps => by
    have : us = [] := by simpa using e
    subst this
    cases kv
    cases ps
    exact ⟨.nil, .nil⟩
  | (k, d) :: kvs, us, vs, es, hn, e, r, kv, ps => by
    cases us with
    | nil => simp at e
    | cons u us =>
      simp only [List.map_cons, List.cons.injEq] at e
      simp only [List.map_cons] at r
      obtain ⟨v, w, e2, r1, r2⟩ := r
      simp only [List.cons.injEq] at e2
      obtain ⟨rfl, rfl⟩ := e2
      cases kv with
      | cons q1 q2 =>
        cases ps with
        | @cons en _ _ _ p1 p2 p3 =>
          obtain ⟨g1, g2⟩ := reads_kvs I kvs us _ _ (fun x hx => hn x (List.mem_cons_of_mem _ hx)) e.2 r2 q2 p3
          refine ⟨?_, ?_⟩
          · refine ReadsAll.cons (as := []) (bs := []) ?_ g1
            have hk : keyIs k en.key = true := by rw [← e.1, q1.1]; exact p1
            show Reads s.heap en.key (kD k) []
            rcases keyIs_shape hk with ⟨i, t, rfl, ek⟩ | ⟨x, t, rfl, ek⟩
            · rw [ek]; exact .int i t
            · rw [ek]; exact .str x t
          · refine ReadsAll.cons (as := []) (bs := []) ?_ g2
            show Reads s.heap en.val (pd d) []
            rw [p2]
            exact reads_nl I d u.2 _ (hn (k, d) List.mem_cons_self) r1 q1.2
end
def shwK (kvs : List (Key × D)) : Bool := (PyData.dict (pdk kvs)).showable && decide ((PyData.dict (pdk kvs)).depth ≤ 60) && decide ((PyData.dict (pdk kvs)).shown.length ≤ 16777216) && kvs.all fun kv => nl kv.2
def bReprA : BF
  | [.ref n], st => match st[n]? with
    | some (.dic kvs) => if shwK kvs then some (.str (PyData.dict (pdk kvs)).shown, st) else none
    | _ => bRepr [.ref n] st
  | ds, st => bRepr ds st
section
variable {X : Cx}
def rReprK (K : PySem.W.Frag) : List V → Hp → VK → Prop := fun vs H Q => ∃ ρ a us kvs, vs = [.ref a] ∧ H a = some (.dK us) ∧ us.map (·.1) = kvs.map (·.1) ∧ Reps K ρ H (kvs.map (·.2)) (us.map (·.2)) ∧ shwK kvs = true ∧ Q (.str (PyData.dict (pdk kvs)).shown) H
theorem call_reprK {k : Nat} (hr : Room k X.A) (hg : X.A.guards = some []) : CallR X (.builtin "repr") (rReprK X.K) := by
  intro pins s σ H xs us Q I rv h
  obtain ⟨ρ, a, ws, kvs, rfl, ha, e, r, hw, q⟩ := h
  obtain ⟨u, rfl, ru⟩ := vals1 rv
  cases ru
  unfold shwK at hw
  simp only [Bool.and_eq_true, decide_eq_true_eq] at hw
  obtain ⟨⟨⟨h1, h2⟩, h3⟩, h4⟩ := hw
  obtain ⟨_, hd, vs, kv, o, es, ep, go, gx, gd, _, ps, _⟩ := dk_of I.hok ha
  obtain ⟨g1, g2⟩ := reads_kvs I kvs ws vs es.toList (fun x hx => List.all_eq_true.mp h4 x hx) e r kv ps
  have rd : Reads s.heap (.ref a) (.dict (pdk kvs)) (a :: [] ++ []) := .dict go gx.1 gd g1 g2
  refine repr_of_reads' rd h1 (fun _ z => ?_) hg (by have := hr.un; omega) (fun _ _ e => e) (fun h' t tk hk => ?_) (by rw [sizeLine_eq]; exact h3)
  · have : sysModules = a := by simpa using z
    rw [← this] at hd
    exact absurd hd (by decide)
  · exact ⟨.str _, H, I.kept (t' := tk) hk, ⟨_, rfl⟩, q⟩
theorem b_reprA {k : Nat} (hr : Room k X.A) (hg : X.A.guards = some []) : CallOk X (.builtin "repr") bReprA := by
  obtain ⟨r, h1, h2⟩ := (b_repr hr hg).ok
  refine ⟨_, callR_or (call_reprK hr hg) h1, fun ρ H st ds vs d st' Q S R e p => ?_⟩
  unfold bReprA at e
  split at e
  · rename_i n
    split at e
    · rename_i kvs e1
      split at e
      · rename_i hw
        cases e
        obtain ⟨v, rfl, rv⟩ := reps1 R
        obtain ⟨a, rfl, hn⟩ := rv
        obtain ⟨us, g1, g2, g3⟩ := S.obj n _ a e1 hn
        exact .inl ⟨ρ, a, us, kvs, rfl, g1, g2, g3, hw, p ρ H _ Le.refl S rfl⟩
      · cases e
    · exact .inr (h2 ρ H st _ vs d st' Q S R e p)
  · exact .inr (h2 ρ H st _ vs d st' Q S R e p)
end
end Vm
/-! methods that give: pop of lists, get of dicts; insert; range of three -/
namespace Vm
open PySem PySem.Spec PyProof.Rows L2
theorem Reps.last {K : PySem.W.Frag} {ρ : Wn} {H : Hp} {ds : List D} {vs : List V} {d : D} (r : Reps K ρ H ds vs) (i : Nat) (e : ds[i]? = some d) : ∃ v, vs[i]? = some v ∧ Rep K ρ H d v := by
  induction ds generalizing vs i with
  | nil => simp at e
  | cons x ds ih =>
    obtain ⟨v, w, rfl, r1, r2⟩ := r
    cases i with
    | zero =>
      simp only [List.getElem?_cons_zero, Option.some.injEq] at e
      subst e
      exact ⟨v, rfl, r1⟩
    | succ i => exact ih r2 i (by simpa using e)
theorem Reps.erase {K : PySem.W.Frag} {ρ : Wn} {H : Hp} : ∀ {ds : List D} {vs : List V} (i : Nat), Reps K ρ H ds vs → Reps K ρ H (ds.eraseIdx i) (vs.eraseIdx i)
  | [], vs, i, r => by
    obtain rfl : vs = [] := r
    exact rfl
  | d :: ds, vs, i, r => by
    obtain ⟨v, w, rfl, r1, r2⟩ := r
    cases i with
    | zero => exact r2
    | succ i => exact ⟨v, _, rfl, r1, Reps.erase i r2⟩
section
variable {X : Cx} {pos : Pos}
/-- o.pop(i) -/
def fPopI (Fo Fi : FE) : FE := fun env st => match Fo env st with
  | some (.ref n, st1) => match st1[n]? with
    | some (.lst _) => match Fi env st1 with
      | some (.int i, st2) => match st2[n]? with
        | some (.lst xs) => match L2.ixN xs.length i with
          | some k => match xs[k]? with
            | some d => if -9223372036854775808 ≤ i ∧ i < 9223372036854775808 then some (d, st2.set n (.lst (xs.eraseIdx k))) else none
            | none => none
          | none => none
        | _ => none
      | _ => none
    | _ => none
  | _ => none
theorem e_popI {o e : Expr} {Fo F : FE} {apos cpos : Pos} (ho : PE X o (tE X.K Fo)) (he : PE X e (tE X.K F)) (hbase : attributeBase o "pop" X.env (eval o X.env) = eval o X.env := by rfl)
    (hfew : ((backTo cpos (starEach [e] X.env)).all (fun x => !x.1) && (backToKw cpos (keywordEach [] X.env)).all (fun x => x.1.isSome)
      && decide ([e].length + ([] : List Keyword).length + (if ([] : List Keyword).isEmpty then 0 else 1) < 30)) = true := by rfl)
    (hline : (apos.endLine == cpos.line) = true := by rfl) (hs : starEach [e] X.env = (false, eval e X.env) :: starEach [] X.env := by rfl) (hplain : (backTo cpos (starEach [] X.env)).any (·.1) = false := by rfl) :
    PE X (.Call (.Attribute o "pop" apos) [e] [] cpos) (tE X.K (fPopI Fo F)) := by
  refine peConv (pe_bm PySem.F.plainAttrs_list PySem.F.slot_list_pop PySem.F.type_list_pop mt_popAt ho (a_cons he a_nil hs) hbase hfew hline hs hplain) fun σ H Q h => ?_
  obtain ⟨ρ, env, st, d, st', S, E, e, p⟩ := h
  unfold fPopI at e
  split at e
  · rename_i n st1 e1
    split at e
    · rename_i ys e2
      split at e
      · rename_i i st2 e3
        split at e
        · rename_i xs e4
          split at e
          · rename_i k e5
            split at e
            · rename_i d' e6
              split at e
              · rename_i hb
                cases e
                refine tE_bind S E e1 fun ρ1 H1 v L1 S1 R1 E1 => ?_
                refine ⟨ty_list S1 R1 e2, ρ1, env, st1, [.int i], st2, S1, E1, by simp [fCons, fNil, e3], fun ρ2 H2 vs L2 S2 R2 => ?_⟩
                obtain ⟨w, rfl, rw'⟩ := reps1 R2
                obtain ⟨a, rfl, hn⟩ := Rep.mono L2 _ _ R1
                obtain ⟨us, h2, rr⟩ := S2.obj n _ a e4 hn
                obtain ⟨v, hv, rv⟩ := rr.last k e6
                have LW := Le.write (u' := .lst (us.eraseIdx k)) (List.mem_of_getElem? hn) h2 (fun _ z => by cases z) (fun _ _ z => by cases z)
                refine ⟨a, us, i, k, v, rfl, by rw [show w = .int i from rw'], h2, by omega, by omega, by rw [← rr.length]; exact (ixN_seq e5).1, hv, ?_⟩
                exact p ρ2 _ v ((L1.trans L2).trans LW) (S2.write hn h2 (fun _ z => by cases z) (fun _ _ z => by cases z) ⟨_, upd_same, Reps.mono LW _ _ (rr.erase k)⟩) (Rep.mono LW _ _ rv)
              · cases e
            · cases e
          · cases e
        · cases e
      · cases e
    · cases e
  · cases e
/-- o.pop() -/
def fPop (Fo : FE) : FE := fun env st => match Fo env st with
  | some (.ref n, st1) => match st1[n]? with
    | some (.lst xs) => match xs[xs.length - 1]? with
      | some d => some (d, st1.set n (.lst xs.dropLast))
      | none => none
    | _ => none
  | _ => none
theorem e_pop {o : Expr} {Fo : FE} {apos cpos : Pos} (ho : PE X o (tE X.K Fo)) (hbase : attributeBase o "pop" X.env (eval o X.env) = eval o X.env := by rfl) (hline : (apos.endLine == cpos.line) = true := by rfl) :
    PE X (.Call (.Attribute o "pop" apos) [] [] cpos) (tE X.K (fPop Fo)) := by
  refine peConv (pe_bm0 PySem.F.plainAttrs_list PySem.F.slot_list_pop PySem.F.type_list_pop mt_pop ho hbase hline) fun σ H Q h => ?_
  obtain ⟨ρ, env, st, d, st', S, E, e, p⟩ := h
  unfold fPop at e
  split at e
  · rename_i n st1 e1
    split at e
    · rename_i xs e2
      split at e
      · rename_i d' e3
        cases e
        refine tE_bind S E e1 fun ρ1 H1 v L1 S1 R1 E1 => ?_
        refine ⟨ty_list S1 R1 e2, ?_⟩
        obtain ⟨a, rfl, hn⟩ := R1
        obtain ⟨us, h2, rr⟩ := S1.obj n _ a e2 hn
        obtain ⟨v, hv, rv⟩ := rr.last _ e3
        have LW := Le.write (u' := .lst us.dropLast) (List.mem_of_getElem? hn) h2 (fun _ z => by cases z) (fun _ _ z => by cases z)
        have rd : Reps X.K ρ1 H1 xs.dropLast us.dropLast := by
          rw [List.dropLast_eq_take, List.dropLast_eq_take, ← rr.length]
          exact rr.take _
        exact ⟨a, us, v, rfl, rfl, h2, by rw [← rr.length]; exact hv, p ρ1 _ v (L1.trans LW) (S1.write hn h2 (fun _ z => by cases z) (fun _ _ z => by cases z) ⟨_, upd_same, Reps.mono LW _ _ rd⟩) (Rep.mono LW _ _ rv)⟩
      · cases e
    · cases e
  · cases e
/-- o.get(e, f) of a dict of the store -/
def fDGet (Fo Fi Ff : FE) : FE := fun env st => match Fo env st with
  | some (.ref n, st1) => match st1[n]? with
    | some (.dic _) => match Fi env st1 with
      | some (i, st2) => match Ff env st2 with
        | some (f, st3) => match st3[n]? with
          | some (.dic kvs) => match keyD i with
            | some k => some ((getD kvs k).getD f, st3)
            | none => none
          | _ => none
        | none => none
      | none => none
    | _ => none
  | _ => none
theorem e_dget {o e f : Expr} {Fo F G : FE} {apos cpos : Pos} (hu : X.A.units + 1 < cLine) (ho : PE X o (tE X.K Fo)) (he : PE X e (tE X.K F)) (hf : PE X f (tE X.K G)) (m : M2 X o "get" apos e f cpos := by exact ⟨rfl, rfl, rfl, rfl⟩) :
    PE X (.Call (.Attribute o "get" apos) [e, f] [] cpos) (tE X.K (fDGet Fo F G)) := by
  refine peConv (pe_dget2 hu ho he hf m) fun σ H Q h => ?_
  obtain ⟨ρ, env, st, d, st', S, E, e, p⟩ := h
  unfold fDGet at e
  split at e
  · rename_i n st1 e1
    split at e
    · rename_i kvs0 e2
      split at e
      · rename_i i st2 e3
        split at e
        · rename_i g st3 e4
          split at e
          · rename_i kvs e5
            split at e
            · rename_i k e6
              cases e
              refine tE_bind S E e1 fun ρ1 H1 v L1 S1 R1 E1 => ?_
              obtain ⟨a, rfl, hn⟩ := R1
              obtain ⟨us0, h20, _⟩ := S1.obj n _ a e2 hn
              refine ⟨a, rfl, .inl ⟨us0, .inl h20⟩, ?_⟩
              refine tE_bind S1 E1 e3 fun ρ2 H2 y L2 S2 R2 E2 => ?_
              refine tE_bind S2 E2 e4 fun ρ3 H3 z L3 S3 R3 E3 => ?_
              obtain ⟨b, eb, hn3⟩ := Rep.mono (K := X.K) (L2.trans L3) (.ref n) _ ⟨a, rfl, hn⟩
              cases eb
              obtain ⟨us, h2, h3, h4⟩ := S3.obj n _ _ e5 hn3
              have ky := keyD_rep (Rep.mono L3 _ _ R2) e6
              refine ⟨valV us k, .inl ⟨us, k, .inl h2, ky, rfl⟩, ?_⟩
              rcases getD_rep k h3 h4 with ⟨q1, q2⟩ | ⟨d2, v2, q1, q2, q3⟩
              · rw [q1] at p
                rw [q2]
                exact p ρ3 H3 z ((L1.trans L2).trans L3) S3 R3
              · rw [q1] at p
                rw [q2]
                exact p ρ3 H3 v2 ((L1.trans L2).trans L3) S3 q3
            · cases e
          · cases e
        · cases e
      · cases e
    · cases e
  · cases e
/-- range(i, j, c) -/
def rangeC (lo c : Int) (n : Nat) : List D := (List.range n).map fun i => .int (lo + (i : Nat) * c)
open Classical in
noncomputable def iRange3 (A : FA) : FI := fun env st => match A env st with
  | some ([.int i, .int j, .int c], st1) => if RgC i j c (Builtin.Range.rangeSize i j c).toNat then some ((rangeC i c (Builtin.Range.rangeSize i j c).toNat, fun _ => True), st1) else none
  | _ => none
theorem src_rangeC {K : PySem.W.Frag} {ρ : Wn} {H : Hp} {lo c : Int} {n : Nat} {g : Gd} : Src K ρ H (Itc lo c n) (rangeC lo c n) g := by
  refine ⟨fun _ => True, YFn fun i => .int (lo + (i : Nat) * c), by rw [show (rangeC lo c n).length = n by simp [rangeC]]; exact walk_rangeC, fun _ _ _ _ _ _ => trivial, fun i ρ' H' st' x H'' hi L S q y => ?_⟩
  obtain ⟨rfl, rfl⟩ := y
  have hi' : i < n := by simpa [rangeC] using hi
  exact ⟨.int (lo + (i : Nat) * c), by simp [rangeC, hi'], Le.refl, S, rfl⟩
theorem i_range3 {tg a b c : Expr} {A : FA} {p : Pos} (hg : Gl X "range") (hm : X.mg "range" = none) (ha : PA X [a, b, c] (tA X.K A)) (hs : starEach [a, b, c] X.env = (false, eval a X.env) :: starEach [b, c] X.env := by rfl)
    (hpl : (backTo pos (starEach [b, c] X.env)).any (·.1) = false := by rfl) : PI X tg (.Call (.Name "range" p) [a, b, c] [] pos) (tI X.K (iRange3 A)) := by
  refine piConv (pi_range3 hg hm ha hs hpl) fun σ H R h => ?_
  obtain ⟨ρ, env, st, ds, g, st', S, E, e, hgd, q⟩ := h
  unfold iRange3 at e
  split at e
  · rename_i i j c st1 e1
    split at e
    · rename_i hb
      cases e
      refine ⟨ρ, env, st, _, st', S, E, e1, fun ρ1 H1 vs L1 S1 R1 => ?_⟩
      obtain ⟨v, r, rfl, r1, w, r', rfl, r2, u, r'', rfl, r3, r4⟩ := R1
      cases (show r'' = [] from r4)
      exact ⟨i, j, c, _, by rw [show v = .int i from r1, show w = .int j from r2, show u = .int c from r3], hb, q ρ1 H1 _ L1 S1 src_rangeC⟩
    · cases e
  · cases e
end
section
variable {F Fo Fi Ff : FE} {env : En} {st : Store} {Q : D → Store → Prop}
theorem wp_pop : Wp (fPop Fo env st) Q ↔ Wp (Fo env st) fun o st1 => ∃ n xs d, o = .ref n ∧ st1[n]? = some (.lst xs) ∧ xs[xs.length - 1]? = some d ∧ Q d (st1.set n (.lst xs.dropLast)) := by
  unfold fPop
  constructor
  · intro h
    split at h
    · rename_i n st1 e1
      split at h
      · rename_i xs e2
        split at h
        · rename_i d e3
          exact ⟨.ref n, st1, e1, n, xs, d, rfl, e2, e3, wp_some.mp h⟩
        · exact (wp_noneR.mp h).elim
      · exact (wp_noneR.mp h).elim
    · exact (wp_noneR.mp h).elim
  · rintro ⟨_, st1, e1, n, xs, d, rfl, e2, e3, q⟩
    simp [e1, e2, e3, q]
theorem wp_popI : Wp (fPopI Fo Fi env st) Q ↔ Wp (Fo env st) fun o st1 => ∃ n zs, o = .ref n ∧ st1[n]? = some (.lst zs) ∧ Wp (Fi env st1) fun i st2 => ∃ j xs k d, i = .int j ∧ st2[n]? = some (.lst xs) ∧ L2.ixN xs.length j = some k ∧ xs[k]? = some d ∧ (-9223372036854775808 ≤ j ∧ j < 9223372036854775808) ∧ Q d (st2.set n (.lst (xs.eraseIdx k))) := by
  unfold fPopI
  constructor
  · intro h
    split at h
    · rename_i n st1 e1
      split at h
      · rename_i zs e2
        split at h
        · rename_i j st2 e3
          split at h
          · rename_i xs e4
            split at h
            · rename_i k e5
              split at h
              · rename_i d e6
                split at h
                · rename_i hb
                  exact ⟨.ref n, st1, e1, n, zs, rfl, e2, .int j, st2, e3, j, xs, k, d, rfl, e4, e5, e6, hb, wp_some.mp h⟩
                · exact (wp_noneR.mp h).elim
              · exact (wp_noneR.mp h).elim
            · exact (wp_noneR.mp h).elim
          · exact (wp_noneR.mp h).elim
        · exact (wp_noneR.mp h).elim
      · exact (wp_noneR.mp h).elim
    · exact (wp_noneR.mp h).elim
  · rintro ⟨_, st1, e1, n, zs, rfl, e2, _, st2, e3, j, xs, k, d, rfl, e4, e5, e6, hb, q⟩
    simp [e1, e2, e3, e4, e5, e6, hb, q]
theorem wp_dget : Wp (fDGet Fo Fi Ff env st) Q ↔ Wp (Fo env st) fun o st1 => ∃ n zs, o = .ref n ∧ st1[n]? = some (.dic zs) ∧ Wp (Fi env st1) fun i st2 => Wp (Ff env st2) fun f st3 => ∃ kvs k, st3[n]? = some (.dic kvs) ∧ keyD i = some k ∧ Q ((getD kvs k).getD f) st3 := by
  unfold fDGet
  constructor
  · intro h
    split at h
    · rename_i n st1 e1
      split at h
      · rename_i zs e2
        split at h
        · rename_i i st2 e3
          split at h
          · rename_i f st3 e4
            split at h
            · rename_i kvs e5
              split at h
              · rename_i k e6
                exact ⟨.ref n, st1, e1, n, zs, rfl, e2, i, st2, e3, f, st3, e4, kvs, k, e5, e6, wp_some.mp h⟩
              · exact (wp_noneR.mp h).elim
            · exact (wp_noneR.mp h).elim
          · exact (wp_noneR.mp h).elim
        · exact (wp_noneR.mp h).elim
      · exact (wp_noneR.mp h).elim
    · exact (wp_noneR.mp h).elim
  · rintro ⟨_, st1, e1, n, zs, rfl, e2, i, st2, e3, f, st3, e4, kvs, k, e5, e6, q⟩
    simp [e1, e2, e3, e4, e5, e6, q]
end
end Vm
/-! sets of texts -/
namespace Vm
open PySem PySem.Spec PyProof.Rows L2
def txOf (e : Int × Value) : Str := match e.2 with
  | .str z _ => z
  | _ => Str.empty
def TxE (P : Program) (w : World) (e : Int × Value) : Prop := ∃ z tk, e.2 = Value.str z tk ∧ e.1 = (PySem.strKind P w).hash z
/-- the set at a holds the texts zs, each once; its table rises and can be walked -/
def SetTx (P : Program) (w : World) (h : Heap) (a : Addr) (zs : List Str) : Prop :=
  ∃ o es ep t, h.get? a = some o ∧ o.ExactSet ∧ o.data = .set es ep t ∧ (∀ e ∈ es.toList, TxE P w e) ∧ (es.toList.map txOf).Perm zs ∧ zs.Nodup ∧ es.size < scanBound ∧ t.fits es.size = true ∧ Ris t.place.toList ∧ (w.params.followText "set-order" = true ∨ t.led = true)
section
variable {P : Program} {w : World}
theorem tx_is {e : Int × Value} (h : TxE P w e) (z : Str) : (PySem.strKind P w).is z e.2 = true ↔ txOf e = z := by
  obtain ⟨y, tk, e1, _⟩ := h
  unfold txOf
  rw [e1]
  constructor
  · intro q
    obtain ⟨t', q'⟩ := Value.isStrOf_shape (x := z) (v := .str y tk) q
    cases q'
    rfl
  · rintro rfl
    exact strKind_is _ _ _ _
theorem tx_elems {l : List (Int × Value)} (h : ∀ e ∈ l, TxE P w e) : ElemsOf (PySem.strKind P w) l := fun e he => by
  obtain ⟨y, tk, e1, e2⟩ := h e he
  exact ⟨⟨y, by rw [e1]; exact strKind_is _ _ _ _, e2⟩, by rw [e1]; rfl⟩
theorem tx_mem {l : List (Int × Value)} (h : ∀ e ∈ l, TxE P w e) (z : Str) : z ∈ l.map txOf ↔ ∃ e ∈ l, (PySem.strKind P w).is z e.2 = true := by
  rw [List.mem_map]
  exact ⟨fun ⟨e, he, q⟩ => ⟨e, he, (tx_is (h e he) z).mpr q⟩, fun ⟨e, he, q⟩ => ⟨e, he, (tx_is (h e he) z).mp q⟩⟩
variable {A : Around} {E : Value → Shared → Prop} {s : Shared} {a : Addr}
/-- storing the new table, laid anew where it's too full -/
theorem tx_store {g : Bool → Sem Unit} (hg : ∀ (b : Bool) (s' : Shared) (Q' : Unit → Shared → Prop), Q' () s' → wpAny (model P w) A (g b) Q' E s') {o : Obj} {es fs : Array (Int × Value)} {ep : Nat} {t u : SetTable} {zs : List Str} {dum : Bool} {R : Option Bool → Shared → Prop}
    (go : s.heap.get? a = some o) (gx : o.ExactSet) (gd : o.data = .set es ep t) (h1 : ∀ e ∈ fs.toList, TxE P w e) (h2 : (fs.toList.map txOf).Perm zs) (h3 : zs.Nodup) (h4 : fs.size < scanBound) (h5 : u.fits fs.size = true) (h6 : Ris u.place.toList)
    (h7 : w.params.followText "set-order" = true ∨ u.led = true) (hR : ∀ h', Heap.SameBut a s.heap h' → SetTx P w h' a zs → R (some true) { s with heap := h' }) :
    wpAny (model P w) A (do
        storeSet a fs u
        if (!dum && u.tooFull) = true then do
            g (relayAll u fs (SetTable.grown fs.size)).2.2
            storeSet a (relayAll u fs (SetTable.grown fs.size)).1 (relayAll u fs (SetTable.grown fs.size)).2.1
            pure (some true)
          else pure (some true)) R E s := by
  have stored := store_at (es' := fs) (t' := u) go gd
  have same := Heap.SameBut.update s.heap a (Obj.putSet fs u)
  refine wpAny_bind (wpAny_storeSet_of go gd ?_ (fits_of_scanBound h4))
  by_cases full : (!dum && u.tooFull) = true
  · rw [if_pos full]
    have k1 := relayAll_perm u fs (SetTable.grown fs.size)
    have k2 := relayAll_fits u fs (SetTable.grown fs.size)
    have k3 := relayAll_ris u fs (SetTable.grown fs.size)
    have k4 := relayAll_led u fs (SetTable.grown fs.size)
    generalize relayAll u fs (SetTable.grown fs.size) = Z at k1 k2 k3 k4 ⊢
    obtain ⟨ks, v, gv⟩ := Z
    simp only at k1 k2 k3 k4 ⊢
    have ksz : ks.size = fs.size := by rw [← Array.length_toList, k1.length_eq, Array.length_toList]
    refine wpAny_bind (hg _ _ _ (wpAny_bind (wpAny_storeSet_of stored rfl (wpAny_pure (hR _ (same.trans (Heap.SameBut.update _ a _)) ?_)) (fits_of_scanBound (by rw [ksz]; exact h4)))))
    exact ⟨_, ks, _, v, store_at (es' := ks) (t' := v) stored rfl, gx, rfl, fun e he => h1 e (k1.mem_iff.mp he), (k1.map txOf).trans h2, h3, by rw [ksz]; exact h4, k2, k3, h7.imp id fun z => k4.trans z⟩
  · rw [if_neg full]
    exact wpAny_pure (hR _ same ⟨_, fs, _, u, stored, gx, rfl, h1, h2, h3, h4, h5, h6, h7⟩)
/-- with one text more -/
def addTx (zs : List Str) (z : Str) : List Str := if z ∈ zs then zs else zs ++ [z]
theorem tx_add {z : Str} {tk : Tok} {zs : List Str} {Q : Bool → Shared → Prop} (I : SetTx P w s.heap a zs) (room : zs.length + 1 < scanBound)
    (hQ : ∀ h', Heap.SameBut a s.heap h' → SetTx P w h' a (addTx zs z) → ∀ b, Q b { s with heap := h' }) : wpAny (model P w) A (setAddHashed a (.str z tk) ((PySem.strKind P w).hash z)) Q E s := by
  obtain ⟨o, es, ep, t, go, gx, gd, h1, h2, h3, h4, h5, h6, h7⟩ := I
  have isz : (PySem.strKind P w).is z (.str z tk) = true := strKind_is _ _ _ _
  have scn : (Value.str z tk).scannable = true := rfl
  have elems := tx_elems h1
  have hsz : es.size = zs.length := by rw [← h2.length_eq, List.length_map, Array.length_toList]
  unfold setAddHashed setAddHashedIn
  refine wpAny_holding (wpAny_bind (wpAny_setState_of go gd h5 ?_))
  simp only
  rw [byScan_of scn h4 elems, if_pos rfl]
  unfold setAddByScan
  refine wpAny_bind (wpAny_bind (wpAny_rule (wpAny_bind (wpAny_setScan_of isz go gd h5 elems ?_))))
  cases found : List.findIdx? (fun e => (PySem.strKind P w).is z e.2) es.toList with
  | some j =>
    obtain ⟨lt, at_, _⟩ := List.findIdx?_eq_some_iff_getElem.mp found
    have isIn : z ∈ zs := h2.mem_iff.mp ((tx_mem h1 z).mpr ⟨_, List.getElem_mem lt, at_⟩)
    have same : addTx zs z = zs := if_pos isIn
    exact wpAny_pure (wpAny_pure (hQ s.heap (Heap.SameBut.refl a s.heap) (by rw [same]; exact ⟨o, es, ep, t, go, gx, gd, h1, h2, h3, h4, h5, h6, h7⟩) _))
  | none =>
    simp only
    have notIn : z ∉ zs := fun q => by
      obtain ⟨e, he, c⟩ := (tx_mem h1 z).mp (h2.mem_iff.mpr q)
      have := List.findIdx?_eq_none_iff.mp found e he
      rw [c] at this
      cases this
    have more : addTx zs z = zs ++ [z] := if_neg notIn
    have gave : ∀ (b : Bool) {s' : Shared} {Q' : Unit → Shared → Prop}, Q' () s' → wpAny (model P w) A (match b with | true => rule "set.scan.the-table-gave-way" | false => pure ()) Q' E s' := by
      intro b s' Q' q
      cases b
      · exact wpAny_pure q
      · exact wpAny_rule q
    have k1 := layNew_perm t es ((PySem.strKind P w).hash z) (.str z tk)
    have k2 := layNew_fits t es ((PySem.strKind P w).hash z) (.str z tk)
    have k3 := layNew_ris t es ((PySem.strKind P w).hash z) (.str z tk) h6
    have k4 := layNew_led t es ((PySem.strKind P w).hash z) (.str z tk)
    generalize layNew t es ((PySem.strKind P w).hash z) (.str z tk) = Z at k1 k2 k3 k4 ⊢
    obtain ⟨fs, u, dum, gv⟩ := Z
    simp only at k1 k2 k3 k4 ⊢
    rw [Array.toList_push] at k1
    have c1 : ∀ e ∈ fs.toList, TxE P w e := fun e he => by
      rcases List.mem_append.mp (k1.mem_iff.mp he) with q | q
      · exact h1 e q
      · rw [List.mem_singleton.mp q]; exact ⟨z, tk, rfl, rfl⟩
    have c2 : (fs.toList.map txOf).Perm (zs ++ [z]) := by
      have := k1.map txOf
      rw [List.map_append] at this
      exact this.trans (h2.append_right _)
    have c3 : (zs ++ [z]).Nodup := by
      rw [List.nodup_append]
      refine ⟨h3, by simp, fun x hx y hy => ?_⟩
      rw [List.mem_singleton.mp hy]
      exact fun q => notIn (q ▸ hx)
    have c4 : fs.size < scanBound := by
      have := c2.length_eq
      rw [List.length_map, Array.length_toList, List.length_append, List.length_singleton] at this
      omega
    have c7 : w.params.followText "set-order" = true ∨ u.led = true := h7.imp id fun q => k4.trans q
    have out : ∀ (b : Bool) (h' : Heap), Heap.SameBut a s.heap h' → SetTx P w h' a (zs ++ [z]) → Q b { s with heap := h' } := fun b h' sb r => hQ h' sb (by rw [more]; exact r) b
    refine wpAny_bind (gave _ ?_)
    split
    · refine wpAny_bind ?_
      rw [hashByValue_scannable 8 scn]
      refine wpAny_pure (tx_store (fun b s' Q' q => by cases b <;> first | exact wpAny_pure q | exact wpAny_rule q) go gx gd c1 c2 c3 c4 ?_ ?_ ?_ fun h' sb r => ?_)
      · first | (split <;> first | exact k2 | exact SetTable.fits_plain_off k2) | exact k2
      · first | (split <;> exact k3) | exact k3
      · first | (split <;> exact c7) | exact c7
      · exact wpAny_pure (out _ h' sb r)
    · refine wpAny_bind (wpAny_pure ?_)
      simp only [↓reduceIte]
      refine tx_store (fun b s' Q' q => by cases b <;> first | exact wpAny_pure q | exact wpAny_rule q) go gx gd c1 c2 c3 c4 k2 k3 c7 fun h' sb r => ?_
      exact wpAny_pure (out _ h' sb r)
end
end Vm
/-! set(xs) of a list of texts -/
namespace Vm
open PySem PySem.Spec PyProof.Rows L2
def dedup (xs : List Str) : List Str := xs.foldl addTx []
theorem addTx_len (zs : List Str) (z : Str) : (addTx zs z).length ≤ zs.length + 1 := by
  unfold addTx
  split
  · omega
  · simp
theorem fold_len : ∀ (xs zs : List Str), (xs.foldl addTx zs).length ≤ zs.length + xs.length
  | [], zs => by simp
  | x :: xs, zs => by
    have h1 := fold_len xs (addTx zs x)
    have h2 := addTx_len zs x
    simp only [List.foldl_cons, List.length_cons]
    omega
theorem dedup_snoc {xs : List Str} {i : Nat} {x : Str} (h : xs[i]? = some x) : dedup (xs.take (i + 1)) = addTx (dedup (xs.take i)) x := by
  unfold dedup
  rw [List.take_add_one, h, List.foldl_append]
  rfl
section
variable {P : Program} {w : World} {A : Around}
section
variable {R : Result → Shared → Prop} {I : Addr} {fp wr : List Addr} {G : Array GenState → Array GenState → Prop} {n : Nat} {Pv : Nat → Value → Prop} {St : Nat → Shared → Prop}
theorem SetTx.keep {h h' : Heap} {a : Addr} {zs : List Str} (x : SetTx P w h a zs) (k : ∀ o, h.get? a = some o → h'.get? a = some o) : SetTx P w h' a zs := by
  obtain ⟨o, es, ep, t, go, r⟩ := x
  exact ⟨o, es, ep, t, k o go, r⟩
theorem tx_loop (W : WalksS P w A.in1 I fp wr G n Pv St) (S : Addr) (out : S ∉ fp) (xs : List Str) (len : xs.length = n) (val : ∀ i v, Pv i v → ∃ t, v = .str (xs.getD i Str.empty) t) (room : n + 1 < scanBound) :
    ∀ (k i : Nat) (s : Shared), n - i = k → i ≤ n → St i s → SetTx P w s.heap S (dedup (xs.take i)) → (∀ s', Moved (S :: wr) G s s' → SetTx P w s'.heap S (dedup xs) → R (.ok (.ret .none)) s') →
      codeAny (model P w) A (.builtin "set.update.loop" ⟨[.ref S, .ref I], []⟩) R s
  | 0, i, s, hk, hi, st, tx, fin => by
    obtain rfl : i = n := by omega
    have notW : S ∉ wr := fun q => out (W.sub _ q)
    refine codeAny_builtin PyProof.Rows.F.entry_set_update_loop ?_
    rw [Around.under_plainId PyProof.Rows.F.plain_set_update_loop _]
    show wpAny _ A.in1 (pyNext (.ref I) >>= _) _ _ s
    refine wpAny_bind (W.done s _ _ st fun s' mv => ?_)
    show wpAny _ A.in1 (ret Value.none) _ _ s'
    refine wpAny_pure (fin s' (mv.mono fun b q => List.mem_cons_of_mem _ q) ?_)
    rw [List.take_of_length_le (by omega)] at tx
    exact tx.keep fun o e => mv.heap S o notW e
  | k + 1, i, s, hk, hi, st, tx, fin => by
    have lt : i < n := by omega
    have notW : S ∉ wr := fun q => out (W.sub _ q)
    refine codeAny_builtin PyProof.Rows.F.entry_set_update_loop ?_
    rw [Around.under_plainId PyProof.Rows.F.plain_set_update_loop _]
    show wpAny _ A.in1 (pyNext (.ref I) >>= _) _ _ s
    refine wpAny_bind (W.item i s _ _ lt st fun v s' pv st' mv => ?_)
    obtain ⟨t, rfl⟩ := val i v pv
    have tx' : SetTx P w s'.heap S (dedup (xs.take i)) := tx.keep fun o e => mv.heap S o notW e
    have small : (dedup (xs.take i)).length + 1 < scanBound := by
      have := fold_len (xs.take i) []
      rw [List.length_take] at this
      unfold dedup
      simp only [List.length_nil] at this
      omega
    have at_ : xs[i]? = some (xs.getD i Str.empty) := by
      rw [List.getD_eq_getElem?_getD, List.getElem?_eq_getElem (by omega)]
      rfl
    show wpAny _ A.in1 (holding [Value.str (xs.getD i Str.empty) t] (setAdd S (.str (xs.getD i Str.empty) t)) >>= _) _ _ s'
    refine wpAny_bind (wpAny_holding ?_)
    unfold setAdd
    refine wpAny_holding (wpAny_bind ((PySem.strKind P w).pyHash (k := xs.getD i Str.empty) (strKind_is _ _ _ _) ?_))
    refine tx_add (s := { s' with toks := s'.toks + 1 }) tx' small fun h' sb r b => ?_
    rw [← dedup_snoc at_] at r
    refine wpAny_pure ⟨plainId_quiet PyProof.Rows.F.plain_set_update_loop _, tx_loop W S out xs len val room k (i + 1) _ (by omega) lt (W.frame _ s' _ _ st' (Nat.le_succ _) fun c hc o e => ?_) r fun s2 mv2 r2 => ?_⟩
    · rw [sb.2 c (fun q => out (q ▸ hc))]
      exact e
    · refine fin s2 (Moved.trans W.gtrans ((mv.mono fun b q => List.mem_cons_of_mem _ q).then_heap (Nat.le_succ _) fun c o hc e => ?_) mv2) r2
      rw [sb.2 c (fun q => hc (q ▸ List.mem_cons_self))]
      exact e
end
variable {E : Value → Shared → Prop} {s : Shared}
theorem tx_fresh (h : Heap) : SetTx P w (h.push { cls := .type "set", dict := none, data := .set #[] 0 (.fresh 0 0 (!w.params.followText "set-order")) }) h.objs.size [] :=
  ⟨_, #[], 0, _, Heap.get?_push_size _ rfl, ⟨rfl, rfl, rfl⟩, rfl, (fun e q => by simp at q), by simp, List.nodup_nil, by decide, by rfl, List.Pairwise.nil, by
    show _ ∨ (!w.params.followText "set-order") = true
    cases w.params.followText "set-order"
    · exact .inr rfl
    · exact .inl rfl⟩
theorem tx_made (v : Value) {Q : Value → Shared → Prop} (h : Q (.ref s.heap.objs.size) { s with heap := s.heap.push { cls := .type "set", dict := none, data := .set #[] 0 (.fresh 0 0 (!w.params.followText "set-order")) } }) :
    codeAny (model P w) A (.call (.builtin "set.__new__") ⟨[.type "set", v], []⟩) (wants Q E) s := by
  refine codeAny_of_tree ?_
  show wpAny _ A.in1 (do checkBuiltinCall "set.__new__" ⟨[.type "set", v], []⟩; again (.builtin "set.__new__" ⟨[.type "set", v], []⟩)) _ _ s
  refine wpAny_bind (wpAny_of_eq (PySem.F.newCall_set_1 v) (wpAny_pure ⟨plainId_quiet PySem.F.plain_set_new _, codeAny_builtin PySem.F.entry_set_new ?_⟩))
  rw [Around.under_plainId PySem.F.plain_set_new _]
  unfold Builtin.«set.__new__» Builtin.Frozenset.newClass
  have own := sub_set_self
  obtain ⟨hp, gs, dr, tk, os⟩ := s
  simp only
  wp_walk
  refine wpAny_askSetting (wpAny_pure ?_)
  simp only [newObj]
  exact wpAny_bind (wpAny_alloc (wpAny_pure (wpAny_pure h)))
end
end Vm
/-! set(xs), sorted(set(xs)) of a list of texts -/
namespace Vm
open PySem PySem.Spec PyProof.Rows L2
section
variable {P : Program} {w : World} {A : Around} {E : Value → Shared → Prop} {s : Shared}
abbrev emptySet (w : World) : Obj := { cls := .type "set", dict := none, data := .set #[] 0 (.fresh 0 0 (!w.params.followText "set-order")) }
set_option maxHeartbeats 4000000 in
theorem tx_set {l : Addr} {items : Array Value} {xs : List Str} {Q : Value → Shared → Prop} (calm : A.handled = none) (ls : s.heap.IsList l items) (tx : StrsAre items.toList xs) (room : items.size + 1 < scanBound)
    (fin : ∀ (h' : Heap) (tk : Nat), SetTx P w h' s.heap.objs.size (dedup xs) → (∀ b o, b < s.heap.objs.size → s.heap.get? b = some o → h'.get? b = some o) → Q (.ref s.heap.objs.size) { s with heap := h', toks := tk }) :
    wpAny (model P w) A (call (.type "set") [.ref l]) Q E s := by
  have len : xs.length = items.size := by rw [← StrsAre.len_eq tx, Array.length_toList]
  obtain ⟨c, tl, hmro⟩ := PySem.F.called_set.mro
  have m1 := PySem.F.called_set.made
  have m2 := PySem.F.called_set.sub
  refine wpAny_call (codeAny_of_tree ?_)
  show wpAny _ _ (callAny (.type "set") _) _ _ _
  refine wpAny_pure ⟨Code.quiet_builtin _ (by decide +kernel), codeAny_builtin PySem.F.entry_type_call ?_⟩
  rw [Around.under_plain (weight_type_call_type "set" [.ref l] []) rfl]
  have m3 := PySem.F.called_set.notType
  have m4 := PySem.F.called_set.canCreate
  have m5 := PySem.F.typeCall_set_1 (.ref l)
  repeat (any_goals (first | assumption | wp_step))
  refine codeAny_mono (tx_made (.ref l) (E := E) (Q := fun v s' => v = .ref s.heap.objs.size ∧ s' = { s with heap := s.heap.push (emptySet w) }) ⟨rfl, rfl⟩) fun r s1 done => ?_
  cases r with
  | error e => exact done
  | ok fl =>
    cases fl with
    | ret v =>
      obtain ⟨rfl, rfl⟩ := done
      have gS : (s.heap.push (emptySet w)).get? s.heap.objs.size = some (emptySet w) := Heap.get?_push_size _ rfl
      have ty : Shared.TypeIs { s with heap := s.heap.push (emptySet w) } (.ref s.heap.objs.size) "set" := ⟨_, gS, rfl⟩
      have m6 := PySem.F.called_set.init.lookup
      have m7 := PySem.F.called_set.init.bind (.ref s.heap.objs.size)
      repeat (any_goals (first | assumption | wp_step))
      refine codeAny_mono (codeAny_call_builtin (R := wants (fun r s2 => r = .none ∧ ∃ h' tk, s2 = { s with heap := h', toks := tk } ∧ SetTx P w h' s.heap.objs.size (dedup xs) ∧ (∀ b o, b < s.heap.objs.size → s.heap.get? b = some o → h'.get? b = some o)) E)
        PySem.F.called_set.init.plain PySem.F.entry_set_init (check_set_init_1 ty ?_)) fun r2 s2 done2 => ?_
      · obtain ⟨⟨cls, dd, data, sl⟩, gl, hc, nl, hd⟩ := ls
        simp only at hc hd
        subst hc hd
        have gl' : (s.heap.push (emptySet w)).get? l = some { cls := .type "list", dict := dd, data := .seq items nl, slots := sl } := Heap.get?_push_of_some _ gl
        have f1 := PySem.F.sub_list_set
        have f2 := PySem.F.sub_list_frozenset
        have f3 : (Value.type "list" == Value.type "dict") = false := by decide
        have isl : (s.heap.push (emptySet w)).IsList l items := ⟨_, gl', rfl, nl, rfl⟩
        unfold Builtin.«set.__init__» noKeywords Builtin.Frozenset.updateFrom
        generalize hPI : pyIter = PI
        wp_walk
        subst hPI
        refine wpAny_pyIter_list isl (wpAny_bind (wpAny_runValue ?_))
        have lts : l < s.heap.objs.size := Heap.lt_size gl
        have calm3 : A.in1.in1.in1.handled = none := by simp [calm]
        have apart : l ≠ (s.heap.push (emptySet w)).objs.size := by
          rw [Heap.size_push]
          exact Nat.ne_of_lt (Nat.lt_succ_of_lt lts)
        have outside : s.heap.objs.size ∉ [(s.heap.push (emptySet w)).objs.size, l] := by
          rw [Heap.size_push, List.mem_cons, List.mem_singleton, not_or]
          exact ⟨Nat.ne_of_lt (Nat.lt_succ_self _), Nat.ne_of_gt lts⟩
        refine tx_loop ((Walks.list calm3 _ l apart items).toS) s.heap.objs.size outside xs len (fun i v hv => SS.strs_at tx i v (by rw [Array.getElem?_toList]; exact hv)) room (items.size - 0) 0 _ (by omega) (Nat.zero_le _) ⟨⟨_, Heap.get?_push_size _ rfl, rfl, rfl⟩, isl.push _⟩ ?start ?stop
        case start =>
          rw [List.take_zero]
          exact (tx_fresh (P := P) (w := w) s.heap).keep fun o e => Heap.get?_push_of_some _ e
        case stop =>
          intro s3 mv t3
          obtain ⟨h3, g3, d3, k3, o3⟩ := s3
          obtain rfl : g3 = s.gens := mv.gens
          obtain rfl : d3 = s.drawn := mv.drawn
          obtain rfl : o3 = s.os := mv.os
          show wpAny _ _ _ _ _ _
          refine wpAny_pure ?_
          show wpAny _ _ (ret Value.none) _ _ _
          refine wpAny_pure ⟨rfl, h3, k3, rfl, t3, fun b o hb e => mv.heap b o ?_ (Heap.get?_push_of_some _ (Heap.get?_push_of_some _ e))⟩
          rw [Heap.size_push, List.mem_cons, List.mem_singleton, not_or]
          exact ⟨Nat.ne_of_lt hb, Nat.ne_of_lt (Nat.lt_succ_of_lt hb)⟩
      · cases r2 with
        | error e => exact done2
        | ok fl2 =>
          cases fl2 with
          | ret r =>
            obtain ⟨rfl, h', tk, rfl, t', keep⟩ := done2
            repeat (any_goals (first | assumption | wp_step))
            exact fin _ _ t' keep
          | _ => exact done2.elim
    | _ => exact done.elim
end
end Vm
/-! sorted(set(xs)) of a list of texts -/
namespace Vm
open PySem PySem.Spec PyProof.Rows L2
def vTx : Value → Str
  | .str z _ => z
  | _ => Str.empty
theorem strs_of : ∀ (l : List Value), (∀ v ∈ l, ∃ z tk, v = Value.str z tk) → StrsAre l (l.map vTx)
  | [], _ => .nil
  | v :: l, h => by
    obtain ⟨z, tk, rfl⟩ := h v List.mem_cons_self
    exact .cons z tk (strs_of l fun u q => h u (List.mem_cons_of_mem _ q))
section
variable {P : Program} {w : World} {A : Around} {E : Value → Shared → Prop} {s : Shared}
theorem tx_sorted {a : Addr} {zs : List Str} {Q : Value → Shared → Prop} (I : SetTx P w s.heap a zs) (calm : A.handled = none) (few : zs.length < 64)
    (hQ : ∀ s' p (out : Array Value) (c : Nat) (ys : List Str), (∀ b o, s.heap.get? b = some o → s'.heap.get? b = some o) → s'.gens = s.gens → s'.os = s.os → s.heap.objs.size ≤ p → s'.heap.get? p = some (seqObj "list" out c) → StrsAre out.toList ys → ys.Perm zs → sortedS ys = true → Q (.ref p) s') :
    wpAny (model P w) A (call (.builtin "sorted") [.ref a]) Q E s := by
  obtain ⟨o, es, ep, t, go, gx, gd, h1, h2, h3, h4, h5, h6, h7⟩ := I
  refine Calls.call_function_entry PyProof.Rows.kind_sorted PyProof.Rows.plain_sorted PyProof.Rows.entry_sorted (PyProof.Rows.args_sorted1 _) ?_
  unfold Builtin.«sorted»
  refine wpAny_bind (m := checkCount "sorted" 1 1 _) (wpAny_pure (wpAny_bind (collect_set (A := A.in1) calm ⟨o, go, gx.1, gd⟩ h5 h4 h6 h7 fun s1 vs keep big sg so pm => ?_)))
  have texts : StrsAre vs (vs.map vTx) := strs_of vs fun v hv => by
    obtain ⟨e, he, rfl⟩ := List.mem_map.mp (pm.mem_iff.mp hv)
    obtain ⟨z, tk, q, _⟩ := h1 e he
    exact ⟨z, tk, q⟩
  have same : (vs.map vTx).Perm zs := by
    have q := pm.map vTx
    rw [List.map_map] at q
    exact q.trans h2
  have vl : vs.length = zs.length := by rw [← same.length_eq, List.length_map]
  refine wpAny_bind (wpAny_newList ?_ (by rw [vl, sizeLine_eq]; omega))
  have gL : (s1.heap.push (seqObj "list" vs.toArray 0)).get? s1.heap.objs.size = some (seqObj "list" vs.toArray 0) := Heap.get?_push_size _ rfl
  show wpAny _ _ _ _ _ { s1 with heap := s1.heap.push (seqObj "list" vs.toArray 0) }
  refine wpAny_bind (wpAny_holding (wpAny_call_entry PyProof.Rows.slot_list_sort ⟨_, gL, rfl⟩ PyProof.Rows.entry_list_sort
    (list_sort_treeK strKind_oneLt (s := { s1 with heap := s1.heap.push (seqObj "list" vs.toArray 0) }) gL texts.keysOf (fun v₁ v₂ rest e => keyKind_strs (by rw [← e]; exact texts)) (by rw [vl]; exact few) fun st' hp hs => ⟨_, rfl, ?_⟩) (PyProof.Rows.args_list_sort _)))
  obtain ⟨ys, g1, g2, g3⟩ := sorted_out_str texts hp hs
  obtain ⟨c, gc⟩ := PyProof.Rows.sortedHeap_at (vs := vs) (out := (arrOf st').map (·.2)) gL
  refine wpAny_pure ⟨_, rfl, hQ _ s1.heap.objs.size _ c ys (fun b u e => ?_) sg so big gc g1 (g2.trans same) g3⟩
  have q := keep b u e
  have lt := Heap.lt_size q
  show (sortedHeap (s1.heap.push (seqObj "list" vs.toArray 0)) s1.heap.objs.size vs _).get? b = some u
  rw [PyProof.Rows.sortedHeap_old (Nat.ne_of_lt lt) (by rw [size_push']; exact Nat.lt_succ_of_lt lt)]
  exact Heap.get?_push_of_some _ q
end
section
variable {X : Cx}
def tSortSet (K : PySem.W.Frag) (te : TE) : TE := fun σ H Q => te σ H fun x H1 => ∃ (a : Addr) (xs : List Str), x = .ref a ∧ SqL K H1 a (xs.map V.str) ∧ xs.length < 60 ∧ ∀ (ys : List Str) (p : Addr), ys.Perm (dedup xs) → sortedS ys = true → H1 p = none → Q (.ref p) (upd H1 p (.lst (ys.map V.str)))
theorem pe_sortSet {a : Expr} {te : TE} {p p2 q pos : Pos} (hg : Gl X "sorted") (hm : X.mg "sorted" = none) (hg2 : Gl X "set") (hm2 : X.mg "set" = none) (ha : PE X a te) (hc : X.calm = true := by rfl)
    (na : starEach [a] X.env = (false, eval a X.env) :: starEach [] X.env := by rfl) : PE X (.Call (.Name "sorted" p) [.Call (.Name "set" p2) [a] [] q] [] pos) (tSortSet X.K te) := by
  refine ⟨fun pins s σ H Q I h => Call_ (ld_blt I hg hm boot_sorted (PyProof.Rows.callWith_builtin1 (PyProof.Rows.args_cons (Call_ (ld_blt I hg2 hm2 boot_set ?_)) rfl) rfl rfl))⟩
  refine PyProof.Rows.callWith_type1 (PyProof.Rows.args_cons (thn (ha.run pins s σ H _ I h) fun v s1 ⟨x, H1, I1, r1, l, xs, ex, hq, few, q1⟩ => PyProof.Rows.args_nil ?_) na) na rfl
  subst ex
  cases r1
  obtain ⟨its, r, pl, _⟩ := I1.list hq
  have len : its.length = xs.length := by rw [← r.length, List.length_map]
  refine tx_set (I1.ok.hd hc) pl.isList (by simpa using strsAre_of r) (by rw [List.size_toArray, len]; unfold scanBound; omega) fun h' tk tx keep => PyProof.Rows.args_nil ?_
  have I2 : Inv X pins σ H1 { s1 with heap := h', toks := tk } := I1.kept fun b o e => keep b o (Heap.lt_size e) e
  have few2 : (dedup xs).length < 64 := by
    have := fold_len xs []
    simp only [List.length_nil] at this
    unfold dedup
    omega
  refine tx_sorted (s := { s1 with heap := h', toks := tk }) tx (I2.ok.hd hc) few2 fun s' p out c ys k sg so hp gp st pm srt => ?_
  have ylen : (ys.map V.str).length ≤ sizeLine := by rw [List.length_map, pm.length_eq, sizeLine_eq]; omega
  have free : H1 p = none := I2.hok.fresh hp
  have J : Inv X pins σ (upd H1 p (.lst (ys.map V.str))) { ({ s1 with heap := h', toks := tk } : Shared) with heap := s'.heap, gens := s'.gens, drawn := s'.drawn, toks := s'.toks } :=
    I2.call (ch := []) (Un.laid k hp free) (I2.hok.laid k hp ⟨ylen, out.toList, c, vals_of_strs st, gp⟩) (by rw [sg]; exact I2.bare) (fun _ z => nomatch z)
  have e : s' = { s1 with heap := s'.heap, gens := s'.gens, drawn := s'.drawn, toks := s'.toks } := by
    cases s'
    cases s1
    cases so
    rfl
  rw [e]
  exact ⟨.ref p, _, J, rfl, q1 ys p pm srt free⟩
end
end Vm
/-! sorted(set(xs)) by values -/
namespace Vm
open PySem PySem.Spec PyProof.Rows L2
def leT (a b : Str) : Bool := !ltCps b.cps.toList a.cps.toList
theorem nlt_tri : ∀ a b : List Nat, ltCps a b = false → ltCps b a = false → a = b
  | [], [], _, _ => rfl
  | [], _ :: _, h, _ => by simp [ltCps] at h
  | _ :: _, [], _, h => by simp [ltCps] at h
  | x :: a, y :: b, h1, h2 => by
    simp only [ltCps, Bool.or_eq_false_iff, decide_eq_false_iff_not, Bool.and_eq_false_iff, beq_eq_false_iff_ne] at h1 h2
    have e : x = y := by omega
    subst e
    have g1 := h1.2.resolve_left (fun q => q rfl)
    have g2 := h2.2.resolve_left (fun q => q rfl)
    rw [nlt_tri a b g1 g2]
theorem nlt_trans : ∀ a b c : List Nat, ltCps b a = false → ltCps c b = false → ltCps c a = false
  | [], _, [], _, _ => by simp [ltCps]
  | [], _, _ :: _, _, _ => by simp [ltCps]
  | _ :: _, [], _, h, _ => by simp [ltCps] at h
  | _ :: _, _ :: _, [], _, h => by simp [ltCps] at h
  | x :: a, y :: b, z :: c, h1, h2 => by
    simp only [ltCps, Bool.or_eq_false_iff, decide_eq_false_iff_not, Bool.and_eq_false_iff, beq_eq_false_iff_ne] at h1 h2 ⊢
    refine ⟨by omega, ?_⟩
    by_cases e : z = x
    · have e1 : y = x := by omega
      have e2 : z = y := by omega
      exact .inr (nlt_trans a b c (h1.2.resolve_left fun q => q e1) (h2.2.resolve_left fun q => q e2))
    · exact .inl e
theorem lt_asym : ∀ a b : List Nat, ltCps a b = true → ltCps b a = false
  | [], [], h => by simp [ltCps] at h
  | [], _ :: _, _ => by simp [ltCps]
  | _ :: _, [], h => by simp [ltCps] at h
  | x :: a, y :: b, h => by
    simp only [ltCps, Bool.or_eq_true, decide_eq_true_eq, Bool.and_eq_true, beq_iff_eq] at h
    simp only [ltCps, Bool.or_eq_false_iff, decide_eq_false_iff_not, Bool.and_eq_false_iff, beq_eq_false_iff_ne]
    rcases h with h | ⟨rfl, h⟩
    · exact ⟨by omega, .inl (by omega)⟩
    · exact ⟨by omega, .inr (lt_asym a b h)⟩
theorem str_eqT {a b : Str} (h : a.cps.toList = b.cps.toList) : a = b := by
  cases a
  cases b
  congr
  exact Array.toList_inj.mp h
/-- rising pairs everywhere -/
theorem pw_of_sorted : ∀ {l : List Str}, sortedS l = true → l.Pairwise fun a b => leT a b = true
  | [], _ => .nil
  | [a], _ => by simp
  | a :: b :: l, h => by
    have h' : (!ltCps b.cps.toList a.cps.toList && risingS b l) = true := h
    rw [Bool.and_eq_true] at h'
    have ih := pw_of_sorted (l := b :: l) h'.2
    refine List.pairwise_cons.mpr ⟨fun x hx => ?_, ih⟩
    rcases List.mem_cons.mp hx with rfl | hx
    · exact h'.1
    · have q := (List.pairwise_cons.mp ih).1 x hx
      unfold leT at q ⊢
      rw [Bool.not_eq_true'] at q ⊢
      exact nlt_trans _ _ _ (by simpa using h'.1) q
theorem sorted_unique : ∀ {xs ys : List Str}, xs.Perm ys → xs.Pairwise (fun a b => leT a b = true) → ys.Pairwise (fun a b => leT a b = true) → xs = ys
  | [], ys, p, _, _ => (List.nil_perm.mp p).symm
  | x :: xs, [], p, _, _ => absurd p.length_eq (by simp)
  | x :: xs, y :: ys, p, h1, h2 => by
    obtain ⟨a1, a2⟩ := List.pairwise_cons.mp h1
    obtain ⟨b1, b2⟩ := List.pairwise_cons.mp h2
    have refl : ∀ z : Str, leT z z = true := fun z => by
      unfold leT
      cases h : ltCps z.cps.toList z.cps.toList with
      | false => rfl
      | true => have := lt_asym _ _ h; rw [h] at this; cases this
    have le1 : leT x y = true := by
      rcases List.mem_cons.mp (p.mem_iff.mpr (List.mem_cons_self (a := y) (l := ys))) with q | q
      · rw [← q]; exact refl _
      · exact a1 y q
    have le2 : leT y x = true := by
      rcases List.mem_cons.mp (p.mem_iff.mp (List.mem_cons_self (a := x) (l := xs))) with q | q
      · rw [← q]; exact refl _
      · exact b1 x q
    have e : x = y := by
      unfold leT at le1 le2
      exact str_eqT (nlt_tri _ _ (by simpa using le2) (by simpa using le1))
    subst e
    rw [sorted_unique (List.Perm.cons_inv p) a2 b2]
def sortT (xs : List Str) : List Str := xs.mergeSort leT
theorem sortT_perm (xs : List Str) : (sortT xs).Perm xs := List.mergeSort_perm _ _
theorem sortT_pw (xs : List Str) : (sortT xs).Pairwise fun a b => leT a b = true :=
  List.pairwise_mergeSort (fun a b c h1 h2 => by
    unfold leT at *
    simp only [Bool.not_eq_true'] at *
    exact nlt_trans _ _ _ h1 h2) (fun a b => by
    unfold leT
    cases h : ltCps b.cps.toList a.cps.toList with
    | false => rfl
    | true => simp [lt_asym _ _ h]) xs
theorem addTx_mem {zs : List Str} {z x : Str} : x ∈ addTx zs z ↔ x ∈ zs ∨ x = z := by
  unfold addTx
  split
  · rename_i h
    exact ⟨.inl, fun q => q.elim id fun e => e ▸ h⟩
  · simp
theorem fold_mem : ∀ {xs zs : List Str} {x : Str}, x ∈ xs.foldl addTx zs ↔ x ∈ zs ∨ x ∈ xs
  | [], _, _ => by simp
  | y :: xs, zs, x => by
    rw [List.foldl_cons, fold_mem, addTx_mem, List.mem_cons, or_assoc]
/-- what sorted(set(xs)) is -/
def sortSet (xs : List Str) : List Str := sortT (dedup xs)
theorem sortSet_mem {xs : List Str} {x : Str} : x ∈ sortSet xs ↔ x ∈ xs := by
  unfold sortSet dedup
  rw [(sortT_perm _).mem_iff, fold_mem]
  simp
def strsD : List D → Option (List Str)
  | [] => some []
  | .str z :: ds => match strsD ds with
    | some zs => some (z :: zs)
    | none => none
  | _ :: _ => none
theorem strsD_rep {K : PySem.W.Frag} {ρ : Wn} {H : Hp} : ∀ {ds : List D} {vs : List V} {zs : List Str}, Reps K ρ H ds vs → strsD ds = some zs → vs = zs.map V.str
  | [], vs, zs, r, e => by cases e; exact r
  | d :: ds, vs, zs, r, e => by
    obtain ⟨v, w, rfl, r1, r2⟩ := r
    unfold strsD at e
    split at e
    · rename_i h; cases h
    · rename_i z ds' h
      cases h
      split at e
      · rename_i zs' e2
        cases e
        rw [show v = .str z from r1, strsD_rep r2 e2]
        rfl
      · cases e
    · cases e
def fSortSet (F : FE) : FE := fun env st => match F env st with
  | some (d, st1) => match lsqOf st1 d with
    | some ds => match strsD ds with
      | some zs => if zs.length < 60 then some (.tl ((sortSet zs).map .str), st1) else none
      | none => none
    | none => none
  | none => none
theorem reps_strs {K : PySem.W.Frag} {ρ : Wn} {H : Hp} : ∀ zs : List Str, Reps K ρ H (zs.map D.str) (zs.map V.str)
  | [] => rfl
  | z :: zs => ⟨_, _, rfl, rfl, reps_strs zs⟩
section
variable {X : Cx}
theorem e_sortSet {a : Expr} {F : FE} {p p2 q pos : Pos} (hg : Gl X "sorted") (hm : X.mg "sorted" = none) (hg2 : Gl X "set") (hm2 : X.mg "set" = none) (ha : PE X a (tE X.K F)) (hc : X.calm = true := by rfl)
    (na : starEach [a] X.env = (false, eval a X.env) :: starEach [] X.env := by rfl) : PE X (.Call (.Name "sorted" p) [.Call (.Name "set" p2) [a] [] q] [] pos) (tE X.K (fSortSet F)) := by
  refine peConv (pe_sortSet hg hm hg2 hm2 ha hc na) fun σ H Q h => ?_
  obtain ⟨ρ, env, st, d, st', S, E, e, p⟩ := h
  unfold fSortSet at e
  split at e
  · rename_i d' st1 e1
    split at e
    · rename_i ds e2
      split at e
      · rename_i zs e3
        split at e
        · rename_i few
          cases e
          refine tE_bind S E e1 fun ρ1 H1 v L1 S1 R1 E1 => ?_
          obtain ⟨l, vs, rfl, hq, rr⟩ := lsqOf_rep S1 R1 e2
          have ev := strsD_rep rr e3
          subst ev
          refine ⟨l, zs, rfl, hq, few, fun ys pa pm srt free => ?_⟩
          have same : ys = sortSet zs := sorted_unique (pm.trans (sortT_perm _).symm) (pw_of_sorted srt) (sortT_pw _)
          rw [same]
          exact (p.mono L1).newTl S1 (reps_strs _) pa free
        · cases e
      · cases e
    · cases e
  · cases e
end
end Vm
namespace Vm
open PySem PySem.Spec PyProof.Rows L2
section
variable {F Fo Fi : FE} {env : En} {st : Store} {Q : Out → Store → Prop}
theorem wps_ext : Wp (sExt Fo F env st) Q ↔ Wp (Fo env st) fun o st1 => ∃ n zs, o = .ref n ∧ st1[n]? = some (.lst zs) ∧ Wp (F env st1) fun x st2 => ∃ xs ys, st2[n]? = some (.lst xs) ∧ extOf st2 x = some ys ∧ xs.length + ys.length ≤ 16777216 ∧ Q (.nx env) (st2.set n (.lst (xs ++ ys))) := by
  unfold sExt
  constructor
  · intro h
    split at h
    · rename_i n st1 e1
      split at h
      · rename_i zs e2
        split at h
        · rename_i x st2 e3
          split at h
          · rename_i xs e4
            split at h
            · rename_i ys e5
              split at h
              · rename_i hl
                exact ⟨.ref n, st1, e1, n, zs, rfl, e2, x, st2, e3, xs, ys, e4, e5, hl, wp_some.mp h⟩
              · exact (wp_noneR.mp h).elim
            · exact (wp_noneR.mp h).elim
          · exact (wp_noneR.mp h).elim
        · exact (wp_noneR.mp h).elim
      · exact (wp_noneR.mp h).elim
    · exact (wp_noneR.mp h).elim
  · rintro ⟨_, st1, e1, n, zs, rfl, e2, x, st2, e3, xs, ys, e4, e5, hl, q⟩
    simp [e1, e2, e3, e4, e5, hl, q]
theorem wps_rev : Wp (sRev Fo env st) Q ↔ Wp (Fo env st) fun o st1 => ∃ n xs, o = .ref n ∧ st1[n]? = some (.lst xs) ∧ Q (.nx env) (st1.set n (.lst xs.reverse)) := by
  unfold sRev
  constructor
  · intro h
    split at h
    · rename_i n st1 e1
      split at h
      · rename_i xs e2
        exact ⟨.ref n, st1, e1, n, xs, rfl, e2, wp_some.mp h⟩
      · exact (wp_noneR.mp h).elim
    · exact (wp_noneR.mp h).elim
  · rintro ⟨_, st1, e1, n, xs, rfl, e2, q⟩
    simp [e1, e2, q]
theorem wps_putD : Wp (sPutD Fo Fi F env st) Q ↔ Wp (F env st) fun x st1 => Wp (Fo env st1) fun o st2 => Wp (Fi env st2) fun i st3 => ∃ n kvs k, o = .ref n ∧ st3[n]? = some (.dic kvs) ∧ keyD i = some k ∧ kvs.length < 16777216 ∧ Q (.nx env) (st3.set n (.dic (putD kvs k x))) := by
  unfold sPutD
  constructor
  · intro h
    split at h
    · rename_i x st1 e1
      split at h
      · rename_i n st2 e2
        split at h
        · rename_i i st3 e3
          split at h
          · rename_i kvs e4
            split at h
            · rename_i k e5
              split at h
              · rename_i hl
                exact ⟨x, st1, e1, .ref n, st2, e2, i, st3, e3, n, kvs, k, rfl, e4, e5, hl, wp_some.mp h⟩
              · exact (wp_noneR.mp h).elim
            · exact (wp_noneR.mp h).elim
          · exact (wp_noneR.mp h).elim
        · exact (wp_noneR.mp h).elim
      · exact (wp_noneR.mp h).elim
    · exact (wp_noneR.mp h).elim
  · rintro ⟨x, st1, e1, _, st2, e2, i, st3, e3, n, kvs, k, rfl, e4, e5, hl, q⟩
    simp [e1, e2, e3, e4, e5, hl, q]
end
/-- all that stood there stands -/
def Kp (st s : Store) : Prop := ∀ (m : Nat) (o : O), st[m]? = some o → s[m]? = some o
theorem Kp.refl {st : Store} : Kp st st := fun _ _ h => h
theorem Kp.trans {a b c : Store} (h : Kp a b) (h' : Kp b c) : Kp a c := fun m o e => h' m o (h m o e)
theorem Kp.push {a b : Store} {o : O} (h : Kp a b) : Kp a (b ++ [o]) := fun m x e => by
  have := h m x e
  rw [List.getElem?_append_left (List.getElem?_eq_some_iff.mp this).1]
  exact this
theorem Kp.setN {a b : Store} {m : Nat} {o : O} (h : Kp a b) (hm : a.length ≤ m) : Kp a (b.set m o) := fun k x e => by
  have := (List.getElem?_eq_some_iff.mp e).1
  rw [List.getElem?_set_ne (by omega)]
  exact h k x e
theorem Kp.len {a b : Store} (h : Kp a b) : a.length ≤ b.length := by
  rcases Nat.lt_or_ge b.length a.length with z | z
  · have := h b.length _ (List.getElem?_eq_getElem z)
    rw [List.getElem?_eq_none (Nat.le_refl _)] at this
    cases this
  · exact z
theorem push_at (st : Store) (o : O) : (st ++ [o])[st.length]? = some o := by
  rw [List.getElem?_append_right (Nat.le_refl _)]
  simp
theorem getD_map (k j : Key) (d : D) : ∀ kvs : List (Key × D), getD (kvs.map fun kv => if kv.1 = k then (kv.1, d) else kv) j = (getD kvs j).map fun x => if j = k then d else x
  | [] => rfl
  | p :: r => by
    have ih := getD_map k j d r
    simp only [getD] at ih ⊢
    simp only [List.map_cons, List.find?_cons]
    by_cases h1 : p.1 = j
    · by_cases h2 : p.1 = k
      · have h3 : j = k := h1.symm.trans h2
        simp [h1, h3]
      · have h3 : ¬ j = k := fun z => h2 (h1.trans z)
        simp [h1, h3]
    · by_cases h2 : p.1 = k
      · simp only [h2, if_true]
        rw [h2] at h1
        simp only [h1, decide_false, Bool.false_eq_true, if_false]
        exact ih
      · simp only [h2, if_false, h1, decide_false]
        exact ih
theorem getD_snoc (k j : Key) (d : D) : ∀ kvs : List (Key × D), getD kvs k = none → getD (kvs ++ [(k, d)]) j = if j = k then some d else getD kvs j
  | [], _ => by
    by_cases h : k = j
    · simp [getD, h]
    · have : ¬ j = k := fun z => h z.symm
      simp [getD, h, this]
  | p :: r, hn => by
    have hpk : ¬ p.1 = k := fun z => by simp [getD, List.find?_cons, z] at hn
    have hr : getD r k = none := by
      rw [← hn]
      simp [getD, List.find?_cons, hpk]
    have ih := getD_snoc k j d r hr
    simp only [getD, List.cons_append, List.find?_cons] at ih ⊢
    by_cases h1 : p.1 = j
    · have h3 : ¬ j = k := fun z => hpk (h1.trans z)
      simp [h1, h3]
    · simp only [h1, decide_false]
      exact ih
theorem getD_any (k : Key) : ∀ kvs : List (Key × D), (kvs.any fun kv => decide (kv.1 = k)) = (getD kvs k).isSome
  | [] => rfl
  | p :: r => by
    have ih := getD_any k r
    simp only [getD] at ih ⊢
    rw [List.any_cons, ih, List.find?_cons]
    by_cases h : p.1 = k
    · simp [h]
    · simp [h]
theorem getD_put (kvs : List (Key × D)) (k j : Key) (d : D) : getD (putD kvs k d) j = if j = k then some d else getD kvs j := by
  unfold putD
  have ha := getD_any k kvs
  split
  · rename_i h
    rw [h] at ha
    rw [getD_map]
    by_cases hj : j = k
    · subst hj
      cases hg : getD kvs j with
      | none => rw [hg] at ha; cases ha
      | some x => simp
    · simp [hj]
  · rename_i h
    have hn : getD kvs k = none := by
      cases hg : getD kvs k with
      | none => rfl
      | some x => rw [hg] at ha; exact absurd ha h
    exact getD_snoc k j d kvs hn
theorem putD_mem {kvs : List (Key × D)} {k : Key} {d : D} {p : Key × D} (h : p ∈ putD kvs k d) : p ∈ kvs ∨ p = (k, d) := by
  unfold putD at h
  split at h
  · obtain ⟨q, hq, rfl⟩ := List.mem_map.mp h
    by_cases hk : q.1 = k
    · rw [if_pos hk, hk]; exact .inr rfl
    · rw [if_neg hk]; exact .inl hq
  · rcases List.mem_append.mp h with h | h
    · exact .inl h
    · exact .inr (List.mem_singleton.mp h)
theorem putD_len (kvs : List (Key × D)) (k : Key) (d : D) : (putD kvs k d).length ≤ kvs.length + 1 := by
  unfold putD
  split
  · simp
  · simp
theorem getD_mem {kvs : List (Key × D)} {k : Key} {d : D} (h : getD kvs k = some d) : (k, d) ∈ kvs := by
  unfold getD at h
  obtain ⟨p, hp, rfl⟩ := Option.map_eq_some_iff.mp h
  have h1 : p.1 = k := by simpa using List.find?_some hp
  have h2 := List.mem_of_find?_eq_some hp
  rw [← h1]
  exact h2
mutual
theorem eqv_self : ∀ d : D, PyData.eqv (pd d) (pd d) = true
  | .non => by simp [pd, PyData.eqv]
  | .bl b => by simp [pd, PyData.eqv]
  | .int i => by simp [pd, PyData.eqv]
  | .str x => by simp [pd, PyData.eqv]
  | .tup ds => by simpa only [pd, PyData.eqv] using eqv_selfs ds
  | .tl ds => by simpa only [pd, PyData.eqv] using eqv_selfs ds
  | .sl ds => by simpa only [pd, PyData.eqv] using eqv_selfs ds
  | .ref _ => by simp [pd, PyData.eqv]
  | .ty _ => by simp [pd, PyData.eqv]
theorem eqv_selfs : ∀ ds : List D, PyData.eqvAll (pds ds) (pds ds) = true
  | [] => by simp [pds, PyData.eqvAll]
  | d :: ds => by simp only [pds, PyData.eqvAll, eqv_self d, eqv_selfs ds, Bool.and_self]
end
theorem cNe_self {d : D} {st : Store} (h1 : okd d = true) (h2 : dep d ≤ 60) (h3 : deref st d = d) : cNe d d st = some false := by
  unfold cNe
  rw [h3]
  have : okEq d d = true := by
    unfold okEq
    simp only [h1, Bool.true_and, decide_eq_true_eq, Nat.min_self]
    exact h2
  rw [if_pos this]
  unfold deq
  rw [eqv_self]
  rfl
theorem cEq_self {d : D} {st : Store} (h1 : okd d = true) (h2 : dep d ≤ 60) (h3 : deref st d = d) : cEq d d st = some true := by
  unfold cEq
  rw [h3]
  have : okEq d d = true := by
    unfold okEq
    simp only [h1, Bool.true_and, decide_eq_true_eq, Nat.min_self]
    exact h2
  rw [if_pos this]
  unfold deq
  rw [eqv_self]
theorem okds_of : ∀ {ds : List D}, (∀ d ∈ ds, okd d = true) → okds ds = true
  | [], _ => rfl
  | d :: ds, h => by simp only [okds, h d List.mem_cons_self, okds_of fun x hx => h x (List.mem_cons_of_mem _ hx), Bool.and_self]

theorem wp_dicN {env : En} {st : Store} {Q : D → Store → Prop} : Wp (fDicN env st) Q ↔ Q (.ref st.length) (st ++ [.dic []]) := by
  unfold fDicN
  exact wp_some

end Vm
/-! a walk that goes on as it is told: what comes behind is kept shut until it is come to -/
namespace Vm
open PySem PySem.Spec PyProof.Rows L2
section
variable {α β : Type}
def Ob (r : Option α) (Q : α → Prop) : Prop := ∃ d, r = some d ∧ Q d
theorem ob_some {a : α} {Q : α → Prop} : Ob (some a) Q ↔ Q a := ⟨fun ⟨_, e, q⟩ => by cases e; exact q, fun q => ⟨a, rfl, q⟩⟩
theorem ob_of {r : Option α} {a : α} {Q : α → Prop} (e : r = some a) (q : Q a) : Ob r Q := ⟨a, e, q⟩
theorem ob_congr {r r' : Option α} {Q : α → Prop} (h : r = r') : Ob r Q = Ob r' Q := by rw [h]
theorem wp_congr {r r' : Option (α × Store)} {Q : α → Store → Prop} (h : r = r') : Wp r Q = Wp r' Q := by rw [h]
def KV (Q : α → Store → Prop) (st : Store) : α → Prop := fun d => Q d st
theorem kv {Q : α → Store → Prop} {st : Store} {d : α} : KV Q st d ↔ Q d st := Iff.rfl
/-- only under a condition -/
def Cd (p : Prop) (q : Prop) : Prop := p ∧ q
theorem cd_true {q : Prop} : Cd True q ↔ q := by simp [Cd]
theorem cd_of {p q : Prop} (h : p) (h2 : q) : Cd p q := ⟨h, h2⟩
theorem cd_congr {p p' q : Prop} (h : p = p') : Cd p q = Cd p' q := by rw [h]
end
def lstAt (st : Store) (n : Nat) : Option (List D) := match st[n]? with | some (.lst xs) => some xs | _ => none
def dicAt (st : Store) (n : Nat) : Option (List (Key × D)) := match st[n]? with | some (.dic xs) => some xs | _ => none
theorem lstAt_iff {st : Store} {n : Nat} {xs : List D} : lstAt st n = some xs ↔ st[n]? = some (.lst xs) := by
  unfold lstAt
  constructor
  · intro h
    split at h
    · rename_i e; cases h; exact e
    · cases h
  · intro h; rw [h]
theorem dicAt_iff {st : Store} {n : Nat} {xs : List (Key × D)} : dicAt st n = some xs ↔ st[n]? = some (.dic xs) := by
  unfold dicAt
  constructor
  · intro h
    split at h
    · rename_i e; cases h; exact e
    · cases h
  · intro h; rw [h]
theorem lstAt_push {st : Store} {xs : List D} : lstAt (st ++ [.lst xs]) st.length = some xs := lstAt_iff.mpr (push_at _ _)
theorem dicAt_push {st : Store} {xs : List (Key × D)} : dicAt (st ++ [.dic xs]) st.length = some xs := dicAt_iff.mpr (push_at _ _)
theorem lstAt_kp {st s : Store} {n : Nat} {xs : List D} (h : lstAt st n = some xs) (k : Kp st s) : lstAt s n = some xs := lstAt_iff.mpr (k _ _ (lstAt_iff.mp h))
theorem lstAt_lt {st : Store} {n : Nat} {xs : List D} (h : lstAt st n = some xs) : n < st.length := (List.getElem?_eq_some_iff.mp (lstAt_iff.mp h)).1
theorem lstAt_set {st : Store} {n : Nat} {xs : List D} (h : n < st.length) : lstAt (st.set n (.lst xs)) n = some xs := lstAt_iff.mpr (by rw [List.getElem?_set_self h])
theorem lstAt_set_ne {st : Store} {n m : Nat} {o : O} (h : m ≠ n) : lstAt (st.set m o) n = lstAt st n := by unfold lstAt; rw [List.getElem?_set_ne h]
theorem lstOf_ref {st : Store} {n : Nat} : lstOf st (.ref n) = lstAt st n := by
  unfold lstOf lstAt
  rfl

section
variable {env : En} {st : Store} {Q : D → Store → Prop} {F G J : FE} {A : FA} {C C2 C3 : FT} {a b d : D}
theorem fv0 {e : En} : fVar 0 (some d :: e) st = some (d, st) := rfl
theorem fvS {i : Nat} {x : Option D} {e : En} : fVar (i + 1) (x :: e) st = fVar i e st := by
  unfold fVar
  rw [List.getElem?_cons_succ]
theorem fcon : fCon d env st = some (d, st) := rfl
def KBin2 (f : D → D → Store → Option D) (a : D) (Q : D → Store → Prop) : D → Store → Prop := fun b st => Ob (f a b st) (KV Q st)
def KBin (f : D → D → Store → Option D) (G : FE) (env : En) (Q : D → Store → Prop) : D → Store → Prop := fun a st => Wp (G env st) (KBin2 f a Q)
theorem ev_bin {f : D → D → Store → Option D} : Wp (fBin f F G env st) Q ↔ Wp (F env st) (KBin f G env Q) := wp_bin
theorem kbin {f : D → D → Store → Option D} : KBin f G env Q a st ↔ Wp (G env st) (KBin2 f a Q) := Iff.rfl
theorem kbin2 {f : D → D → Store → Option D} : KBin2 f a Q b st ↔ Ob (f a b st) (KV Q st) := Iff.rfl
def KBl (Q : D → Store → Prop) (st : Store) : Bool → Prop := fun k => Q (.bl k) st
theorem kbl {k : Bool} : KBl Q st k ↔ Q (.bl k) st := Iff.rfl
def KCmp2 (c : CmpF) (a : D) (Q : D → Store → Prop) : D → Store → Prop := fun b st => Ob (c a b st) (KBl Q st)
def KCmp (c : CmpF) (G : FE) (env : En) (Q : D → Store → Prop) : D → Store → Prop := fun a st => Wp (G env st) (KCmp2 c a Q)
theorem ev_cmp {c : CmpF} : Wp (fCmp c F G env st) Q ↔ Wp (F env st) (KCmp c G env Q) := wp_cmp
theorem kcmp {c : CmpF} : KCmp c G env Q a st ↔ Wp (G env st) (KCmp2 c a Q) := Iff.rfl
theorem kcmp2 {c : CmpF} : KCmp2 c a Q b st ↔ Ob (c a b st) (KBl Q st) := Iff.rfl
def KCh3 (c : CmpF) (b : D) (J : FE) (env : En) (Q : D → Store → Prop) (st : Store) : Bool → Prop := fun k => if k = true then Wp (J env st) (KCmp2 c b Q) else Q (.bl false) st
def KCh2 (c c' : CmpF) (a : D) (J : FE) (env : En) (Q : D → Store → Prop) : D → Store → Prop := fun b st => Ob (c a b st) (KCh3 c' b J env Q st)
def KCh (c c' : CmpF) (G J : FE) (env : En) (Q : D → Store → Prop) : D → Store → Prop := fun a st => Wp (G env st) (KCh2 c c' a J env Q)
theorem ev_chain {c c' : CmpF} : Wp (fChain c c' F G J env st) Q ↔ Wp (F env st) (KCh c c' G J env Q) := wp_chain
theorem kch {c c' : CmpF} : KCh c c' G J env Q a st ↔ Wp (G env st) (KCh2 c c' a J env Q) := Iff.rfl
theorem kch2 {c c' : CmpF} : KCh2 c c' a J env Q b st ↔ Ob (c a b st) (KCh3 c' b J env Q st) := Iff.rfl
theorem kch3_t {c : CmpF} : KCh3 c b J env Q st true ↔ Wp (J env st) (KCmp2 c b Q) := by simp [KCh3]
theorem kch3_f {c : CmpF} : KCh3 c b J env Q st false ↔ Q (.bl false) st := by simp [KCh3]
theorem kch3_of {c : CmpF} {k : Bool} (h1 : k = true → Wp (J env st) (KCmp2 c b Q)) (h2 : k = false → Q (.bl false) st) : KCh3 c b J env Q st k := by cases k <;> simp_all [KCh3]
theorem kch3_congr {c : CmpF} {k k' : Bool} (h : k = k') : KCh3 c b J env Q st k = KCh3 c b J env Q st k' := by rw [h]
theorem fnil : fNil env st = some ([], st) := rfl
def KCons2 (d : D) (Q : List D → Store → Prop) : List D → Store → Prop := fun ds st => Q (d :: ds) st
def KCons (A : FA) (env : En) (Q : List D → Store → Prop) : D → Store → Prop := fun d st => Wp (A env st) (KCons2 d Q)
theorem ev_cons {Q : List D → Store → Prop} : Wp (fCons F A env st) Q ↔ Wp (F env st) (KCons A env Q) := wp_cons
theorem kcons {Q : List D → Store → Prop} : KCons A env Q d st ↔ Wp (A env st) (KCons2 d Q) := Iff.rfl
theorem kcons2 {Q : List D → Store → Prop} {ds : List D} : KCons2 d Q ds st ↔ Q (d :: ds) st := Iff.rfl
def KTup (Q : D → Store → Prop) : List D → Store → Prop := fun ds st => Cd (ds.length ≤ 16777216) (Q (.tup ds) st)
theorem ev_tup : Wp (fTup A env st) Q ↔ Wp (A env st) (KTup Q) := wp_tup
theorem ktup {ds : List D} : KTup Q ds st ↔ Cd (ds.length ≤ 16777216) (Q (.tup ds) st) := Iff.rfl
def KLst (Q : D → Store → Prop) : List D → Store → Prop := fun ds st => Cd (ds.length ≤ 16777216) (Q (.tl ds) st)
theorem ev_lst : Wp (fLst A env st) Q ↔ Wp (A env st) (KLst Q) := wp_lst
theorem klst {ds : List D} : KLst Q ds st ↔ Cd (ds.length ≤ 16777216) (Q (.tl ds) st) := Iff.rfl
def KLstS (Q : D → Store → Prop) : List D → Store → Prop := fun ds st => Cd (ds.length ≤ 16777216) (Q (.ref st.length) (st ++ [.lst ds]))
theorem ev_lstS : Wp (fLstS A env st) Q ↔ Wp (A env st) (KLstS Q) := wp_lstS
theorem klstS {ds : List D} : KLstS Q ds st ↔ Cd (ds.length ≤ 16777216) (Q (.ref st.length) (st ++ [.lst ds])) := Iff.rfl
def KNeg (Q : D → Store → Prop) : D → Store → Prop := fun d st => ∃ i, d = .int i ∧ Q (.int (-i)) st
theorem ev_neg : Wp (fNeg F env st) Q ↔ Wp (F env st) (KNeg Q) := wp_neg
theorem kneg {i : Int} : KNeg Q (.int i) st ↔ Q (.int (-i)) st := ⟨fun ⟨_, e, q⟩ => by cases e; exact q, fun q => ⟨i, rfl, q⟩⟩
def KOr2 (d : D) (G : FE) (env : En) (Q : D → Store → Prop) (st : Store) : Bool → Prop := fun k => if k = true then Q d st else Wp (G env st) Q
def KOr (G : FE) (env : En) (Q : D → Store → Prop) : D → Store → Prop := fun d st => Ob (tru st d) (KOr2 d G env Q st)
theorem ev_or : Wp (fOr F G env st) Q ↔ Wp (F env st) (KOr G env Q) := wp_or
theorem kor : KOr G env Q d st ↔ Ob (tru st d) (KOr2 d G env Q st) := Iff.rfl
theorem kor2_t : KOr2 d G env Q st true ↔ Q d st := by simp [KOr2]
theorem kor2_f : KOr2 d G env Q st false ↔ Wp (G env st) Q := by simp [KOr2]
theorem kor2_of {k : Bool} (h1 : k = true → Q d st) (h2 : k = false → Wp (G env st) Q) : KOr2 d G env Q st k := by cases k <;> simp_all [KOr2]
theorem kor2_congr {k k' : Bool} (h : k = k') : KOr2 d G env Q st k = KOr2 d G env Q st k' := by rw [h]
def KAnd2 (d : D) (G : FE) (env : En) (Q : D → Store → Prop) (st : Store) : Bool → Prop := fun k => if k = true then Wp (G env st) Q else Q d st
def KAnd (G : FE) (env : En) (Q : D → Store → Prop) : D → Store → Prop := fun d st => Ob (tru st d) (KAnd2 d G env Q st)
theorem ev_and : Wp (fAnd F G env st) Q ↔ Wp (F env st) (KAnd G env Q) := wp_and
theorem kand : KAnd G env Q d st ↔ Ob (tru st d) (KAnd2 d G env Q st) := Iff.rfl
theorem kand2_f : KAnd2 d G env Q st false ↔ Q d st := by simp [KAnd2]
theorem kand2_t : KAnd2 d G env Q st true ↔ Wp (G env st) Q := by simp [KAnd2]
theorem kand2_of {k : Bool} (h1 : k = true → Wp (G env st) Q) (h2 : k = false → Q d st) : KAnd2 d G env Q st k := by cases k <;> simp_all [KAnd2]
theorem kand2_congr {k k' : Bool} (h : k = k') : KAnd2 d G env Q st k = KAnd2 d G env Q st k' := by rw [h]
def KNt (Q : D → Store → Prop) (st : Store) : Bool → Prop := fun k => Q (.bl (!k)) st
def KNot (Q : D → Store → Prop) : D → Store → Prop := fun d st => Ob (tru st d) (KNt Q st)
theorem ev_not : Wp (fNot F env st) Q ↔ Wp (F env st) (KNot Q) := wp_not
theorem knot : KNot Q d st ↔ Ob (tru st d) (KNt Q st) := Iff.rfl
theorem knt {k : Bool} : KNt Q st k ↔ Q (.bl (!k)) st := Iff.rfl
/-- a branch -/
def KIf {α : Type} (B B2 : En → Store → Option (α × Store)) (env : En) (Q : α → Store → Prop) : Bool → Store → Prop := fun k st => if k = true then Wp (B env st) Q else Wp (B2 env st) Q
theorem kif_t {α : Type} {B B2 : En → Store → Option (α × Store)} {Q : α → Store → Prop} : KIf B B2 env Q true st ↔ Wp (B env st) Q := by simp [KIf]
theorem kif_f {α : Type} {B B2 : En → Store → Option (α × Store)} {Q : α → Store → Prop} : KIf B B2 env Q false st ↔ Wp (B2 env st) Q := by simp [KIf]
theorem kif_of {α : Type} {B B2 : En → Store → Option (α × Store)} {Q : α → Store → Prop} {k : Bool} (h1 : k = true → Wp (B env st) Q) (h2 : k = false → Wp (B2 env st) Q) : KIf B B2 env Q k st := by cases k <;> simp_all [KIf]
theorem kif_congr {α : Type} {B B2 : En → Store → Option (α × Store)} {Q : α → Store → Prop} {k k' : Bool} (h : k = k') : KIf B B2 env Q k st = KIf B B2 env Q k' st := by rw [h]
theorem ev_ite : Wp (fIte C F G env st) Q ↔ Wp (C env st) (KIf F G env Q) := wp_ite
theorem ev_oNone {Q : Option Int → Store → Prop} : oNone env st = some (none, st) := rfl
def KOs (Q : Option Int → Store → Prop) : D → Store → Prop := fun d st => ∃ i, d = .int i ∧ Q (some i) st
theorem ev_oSome {Q : Option Int → Store → Prop} : Wp (oSome F env st) Q ↔ Wp (F env st) (KOs Q) := wp_oSome
theorem kos {Q : Option Int → Store → Prop} {i : Int} : KOs Q (.int i) st ↔ Q (some i) st := ⟨fun ⟨_, e, q⟩ => by cases e; exact q, fun q => ⟨i, rfl, q⟩⟩
def KCut3 (a : D) (l : Option Int) (Q : D → Store → Prop) : Option Int → Store → Prop := fun u st => Ob (dCut a l u st) (KV Q st)
def KCut2 (a : D) (U : FO) (env : En) (Q : D → Store → Prop) : Option Int → Store → Prop := fun l st => Wp (U env st) (KCut3 a l Q)
def KCut (L U : FO) (env : En) (Q : D → Store → Prop) : D → Store → Prop := fun a st => Wp (L env st) (KCut2 a U env Q)
theorem ev_cut {L U : FO} : Wp (fCut F L U env st) Q ↔ Wp (F env st) (KCut L U env Q) := wp_cut
theorem kcut {L U : FO} : KCut L U env Q a st ↔ Wp (L env st) (KCut2 a U env Q) := Iff.rfl
theorem kcut2 {U : FO} {l : Option Int} : KCut2 a U env Q l st ↔ Wp (U env st) (KCut3 a l Q) := Iff.rfl
theorem kcut3 {l u : Option Int} : KCut3 a l Q u st ↔ Ob (dCut a l u st) (KV Q st) := Iff.rfl
def KCall (n : Nat) (f : FnF) (Q : D → Store → Prop) : List D → Store → Prop := fun ds st => Cd (ds.length = n) (Wp (f ds st) Q)
theorem ev_call {n : Nat} {f : FnF} : Wp (fCall n f A env st) Q ↔ Wp (A env st) (KCall n f Q) := wp_call
theorem kcall {n : Nat} {f : FnF} {ds : List D} : KCall n f Q ds st ↔ Cd (ds.length = n) (Wp (f ds st) Q) := Iff.rfl
def KBlt (f : BF) (Q : D → Store → Prop) : List D → Store → Prop := fun ds st => Wp (f ds st) Q
theorem ev_blt {f : BF} : Wp (fBlt f A env st) Q ↔ Wp (A env st) (KBlt f Q) := wp_blt
theorem kblt {f : BF} {ds : List D} : KBlt f Q ds st ↔ Wp (f ds st) Q := Iff.rfl
def KTg (c : Tag) (Q : D → Store → Prop) (st : Store) : Tag → Prop := fun t => Q (.bl (isTag t c)) st
def KIsi (c : Tag) (Q : D → Store → Prop) : D → Store → Prop := fun d st => Ob (tagOf st d) (KTg c Q st)
theorem ev_isi {c : Tag} : Wp (fIsi c F env st) Q ↔ Wp (F env st) (KIsi c Q) := wp_isi
theorem kisi {c : Tag} : KIsi c Q d st ↔ Ob (tagOf st d) (KTg c Q st) := Iff.rfl
theorem ktg {c t : Tag} : KTg c Q st t ↔ Q (.bl (isTag t c)) st := Iff.rfl
def KRev (Q : D → Store → Prop) : D → Store → Prop := fun a st => Ob (dRev a st) (KV Q st)
theorem ev_rev : Wp (fRev F env st) Q ↔ Wp (F env st) (KRev Q) := wp_rev
theorem krev : KRev Q a st ↔ Ob (dRev a st) (KV Q st) := Iff.rfl
def KAs3 (xs : List D) (Q : D → Store → Prop) (st : Store) : List D → Prop := fun ys => Cd (xs.length + ys.length ≤ 16777216) (Q (.ref st.length) (st ++ [.lst (xs ++ ys)]))
def KAs25 (b : D) (Q : D → Store → Prop) (st : Store) : List D → Prop := fun xs => Ob (lstOf st b) (KAs3 xs Q st)
def KAs2 (a : D) (Q : D → Store → Prop) : D → Store → Prop := fun b st => Ob (lstOf st a) (KAs25 b Q st)
def KAs (G : FE) (env : En) (Q : D → Store → Prop) : D → Store → Prop := fun a st => Wp (G env st) (KAs2 a Q)
theorem ev_addS : Wp (fAddS F G env st) Q ↔ Wp (F env st) (KAs G env Q) := by
  rw [wp_addS]
  constructor
  · rintro ⟨a, s1, e1, b, s2, e2, xs, ys, h1, h2, h3, q⟩
    exact ⟨a, s1, e1, b, s2, e2, xs, h1, ys, h2, h3, q⟩
  · rintro ⟨a, s1, e1, b, s2, e2, xs, h1, ys, h2, h3, q⟩
    exact ⟨a, s1, e1, b, s2, e2, xs, ys, h1, h2, h3, q⟩
theorem kas : KAs G env Q a st ↔ Wp (G env st) (KAs2 a Q) := Iff.rfl
theorem kas2 : KAs2 a Q b st ↔ Ob (lstOf st a) (KAs25 b Q st) := Iff.rfl
theorem kas25 {xs : List D} : KAs25 b Q st xs ↔ Ob (lstOf st b) (KAs3 xs Q st) := Iff.rfl
theorem kas3 {xs ys : List D} : KAs3 xs Q st ys ↔ Cd (xs.length + ys.length ≤ 16777216) (Q (.ref st.length) (st ++ [.lst (xs ++ ys)])) := Iff.rfl
theorem ev_dicN : fDicN env st = some (.ref st.length, st ++ [.dic []]) := rfl
theorem ev_disp {kvs : List (Key × D)} : fDisp kvs env st = some (.ref st.length, st ++ [.dic (mergeD [] kvs)]) := rfl
/-! calls of defs: the end -/
def KFn (Q : D → Store → Prop) : Out → Store → Prop := fun o st => match o with
  | .rt d => Q d st
  | .nx _ => Q .non st
  | _ => False
theorem ev_fn {n N : Nat} {body : FS} {ds : List D} : Wp (fnD n N body ds st) Q ↔ Cd (ds.length = n) (Wp (body (ds.map some ++ List.replicate (N - n) none) st) (KFn Q)) := by
  rw [wp_fn]
  unfold Cd KFn
  constructor
  · rintro ⟨h, o, s, e, q⟩; refine ⟨h, o, s, e, ?_⟩; cases o <;> exact q
  · rintro ⟨h, o, s, e, q⟩; refine ⟨h, o, s, e, ?_⟩; cases o <;> exact q
theorem kfn_rt : KFn Q (.rt d) st ↔ Q d st := Iff.rfl
theorem kfn_nx {e : En} : KFn Q (.nx e) st ↔ Q .non st := Iff.rfl
/-! tests -/
section
variable {Q : Bool → Store → Prop} {k : Bool}
def KTc2 (c : CmpF) (a : D) (Q : Bool → Store → Prop) : D → Store → Prop := fun b st => Ob (c a b st) (KV Q st)
def KTc (c : CmpF) (G : FE) (env : En) (Q : Bool → Store → Prop) : D → Store → Prop := fun a st => Wp (G env st) (KTc2 c a Q)
theorem ev_tcmp {c : CmpF} : Wp (tCmpF c F G env st) Q ↔ Wp (F env st) (KTc c G env Q) := wpt_cmp
theorem ktc {c : CmpF} : KTc c G env Q a st ↔ Wp (G env st) (KTc2 c a Q) := Iff.rfl
theorem ktc2 {c : CmpF} : KTc2 c a Q b st ↔ Ob (c a b st) (KV Q st) := Iff.rfl
def KTch (Q : Bool → Store → Prop) : D → Store → Prop := fun d st => ∃ k, d = .bl k ∧ Q k st
theorem ev_tchain {c c' : CmpF} : Wp (tChainF c c' F G J env st) Q ↔ Wp (fChain c c' F G J env st) (KTch Q) := wpt_chain
theorem ktch : KTch Q (.bl k) st ↔ Q k st := ⟨fun ⟨_, e, q⟩ => by cases e; exact q, fun q => ⟨k, rfl, q⟩⟩
def KTru (Q : Bool → Store → Prop) : D → Store → Prop := fun d st => Ob (tru st d) (KV Q st)
theorem ev_tru : Wp (tTru F env st) Q ↔ Wp (F env st) (KTru Q) := wpt_tru
theorem ktru : KTru Q d st ↔ Ob (tru st d) (KV Q st) := Iff.rfl
def KTAnd (C : FT) (env : En) (Q : Bool → Store → Prop) : Bool → Store → Prop := fun k st => if k = true then Wp (C env st) Q else Q false st
theorem ev_tand : Wp (tAndF C C2 env st) Q ↔ Wp (C env st) (KTAnd C2 env Q) := wpt_and
theorem ktand_t : KTAnd C env Q true st ↔ Wp (C env st) Q := by simp [KTAnd]
theorem ktand_f : KTAnd C env Q false st ↔ Q false st := by simp [KTAnd]
theorem ktand_of (h1 : k = true → Wp (C env st) Q) (h2 : k = false → Q false st) : KTAnd C env Q k st := by cases k <;> simp_all [KTAnd]
theorem ktand_congr {k k' : Bool} (h : k = k') : KTAnd C env Q k st = KTAnd C env Q k' st := by rw [h]
def KTOr (C : FT) (env : En) (Q : Bool → Store → Prop) : Bool → Store → Prop := fun k st => if k = true then Q true st else Wp (C env st) Q
theorem ev_tor : Wp (tOrF C C2 env st) Q ↔ Wp (C env st) (KTOr C2 env Q) := wpt_or
theorem ktor_f : KTOr C env Q false st ↔ Wp (C env st) Q := by simp [KTOr]
theorem ktor_t : KTOr C env Q true st ↔ Q true st := by simp [KTOr]
theorem ktor_of (h1 : k = false → Wp (C env st) Q) (h2 : k = true → Q true st) : KTOr C env Q k st := by cases k <;> simp_all [KTOr]
theorem ktor_congr {k k' : Bool} (h : k = k') : KTOr C env Q k st = KTOr C env Q k' st := by rw [h]
def KTNot (Q : Bool → Store → Prop) : Bool → Store → Prop := fun k st => Q (!k) st
theorem ev_tnot : Wp (tNotF C env st) Q ↔ Wp (C env st) (KTNot Q) := wpt_not
theorem ktnot : KTNot Q k st ↔ Q (!k) st := Iff.rfl
theorem ev_tite : Wp (tIteF C C2 C3 env st) Q ↔ Wp (C env st) (KIf C2 C3 env Q) := wpt_ite
theorem ev_tyes : tYesF env st = some (true, st) := rfl
end
end
section
variable {env : En} {st : Store} {Q : Out → Store → Prop} {F G : FE} {A : FA} {C : FT} {B B2 : FS} {T : FG} {I : FI} {d x : D} {e : En}
theorem snil : sNil env st = some (.nx env, st) := rfl
theorem spass : sPass env st = some (.nx env, st) := rfl
theorem sbrk : sBrk env st = some (.bk env, st) := rfl
theorem scnt : sCnt env st = some (.ct env, st) := rfl
theorem sretn : sRetN env st = some (.rt .non, st) := rfl
/-- what comes behind -/
def Kt (B : FS) (Q : Out → Store → Prop) : Out → Store → Prop := fun o st => match o with
  | .nx e => Wp (B e st) Q
  | o => Q o st
theorem ev_seq : Wp (sSeq B B2 env st) Q ↔ Wp (B env st) (Kt B2 Q) := by
  rw [wps_seq]
  constructor
  · rintro ⟨o, s, e, q⟩; refine ⟨o, s, e, ?_⟩; cases o <;> exact q
  · rintro ⟨o, s, e, q⟩; refine ⟨o, s, e, ?_⟩; cases o <;> exact q
theorem kt_congr {o o' : Out} (h : o = o') : Kt B Q o st = Kt B Q o' st := by rw [h]
theorem kt_nx : Kt B Q (.nx e) st ↔ Wp (B e st) Q := Iff.rfl
theorem kt_rt : Kt B Q (.rt d) st ↔ Q (.rt d) st := Iff.rfl
theorem kt_bk : Kt B Q (.bk e) st ↔ Q (.bk e) st := Iff.rfl
theorem kt_ct : Kt B Q (.ct e) st ↔ Q (.ct e) st := Iff.rfl
def KRet (Q : Out → Store → Prop) : D → Store → Prop := fun d st => Q (.rt d) st
theorem ev_ret : Wp (sRet F env st) Q ↔ Wp (F env st) (KRet Q) := wps_ret
theorem kret : KRet Q d st ↔ Q (.rt d) st := Iff.rfl
def KExpr (env : En) (Q : Out → Store → Prop) : D → Store → Prop := fun _ st => Q (.nx env) st
theorem ev_expr : Wp (sExpr F env st) Q ↔ Wp (F env st) (KExpr env Q) := wps_expr
theorem kexpr : KExpr env Q d st ↔ Q (.nx env) st := Iff.rfl
def KSet (i : Nat) (env : En) (Q : Out → Store → Prop) : D → Store → Prop := fun d st => Q (.nx (env.set i (some d))) st
theorem ev_set {i : Nat} : Wp (sSet i F env st) Q ↔ Wp (F env st) (KSet i env Q) := wps_set
theorem kset {i : Nat} : KSet i env Q d st ↔ Q (.nx (env.set i (some d))) st := Iff.rfl
def KNx (Q : Out → Store → Prop) (st : Store) : En → Prop := fun e => Q (.nx e) st
theorem knx : KNx Q st e ↔ Q (.nx e) st := Iff.rfl
def KAsg (T : FG) (env : En) (Q : Out → Store → Prop) : D → Store → Prop := fun d st => Ob (T d env) (KNx Q st)
theorem ev_asg : Wp (sAsg T F env st) Q ↔ Wp (F env st) (KAsg T env Q) := wps_asg
theorem kasg : KAsg T env Q d st ↔ Ob (T d env) (KNx Q st) := Iff.rfl
theorem ev_if : Wp (sIf C B B2 env st) Q ↔ Wp (C env st) (KIf B B2 env Q) := wps_if
def KPut2 (o x : D) (env : En) (Q : Out → Store → Prop) : D → Store → Prop := fun i st => ∃ j st4, i = .int j ∧ setAt st o j x = some st4 ∧ Q (.nx env) st4
def KPut1 (x : D) (Fi : FE) (env : En) (Q : Out → Store → Prop) : D → Store → Prop := fun o st => Wp (Fi env st) (KPut2 o x env Q)
def KPut (Fo Fi : FE) (env : En) (Q : Out → Store → Prop) : D → Store → Prop := fun x st => Wp (Fo env st) (KPut1 x Fi env Q)
theorem ev_put {Fo Fi : FE} : Wp (sPut Fo Fi F env st) Q ↔ Wp (F env st) (KPut Fo Fi env Q) := wps_put
theorem kput {Fo Fi : FE} : KPut Fo Fi env Q x st ↔ Wp (Fo env st) (KPut1 x Fi env Q) := Iff.rfl
theorem kput1 {Fi : FE} {o : D} : KPut1 x Fi env Q o st ↔ Wp (Fi env st) (KPut2 o x env Q) := Iff.rfl
def KPutS (env : En) (Q : Out → Store → Prop) : Store → Prop := fun st => Q (.nx env) st
theorem kputs : KPutS env Q st ↔ Q (.nx env) st := Iff.rfl
theorem kput2 {o : D} {j : Int} : KPut2 o x env Q (.int j) st ↔ Ob (setAt st o j x) (KPutS env Q) := by
  constructor
  · rintro ⟨_, s, e, h, q⟩; cases e; exact ⟨s, h, q⟩
  · rintro ⟨s, h, q⟩; exact ⟨j, s, rfl, h, q⟩
def KAug2 (i : Nat) (f : D → D → Store → Option D) (a : D) (env : En) (Q : Out → Store → Prop) : D → Store → Prop := fun b st => Ob (f a b st) (KNx' i env Q st)
  where KNx' (i : Nat) (env : En) (Q : Out → Store → Prop) (st : Store) : D → Prop := fun d => Q (.nx (env.set i (some d))) st
def KAug (i : Nat) (f : D → D → Store → Option D) (F : FE) (env : En) (Q : Out → Store → Prop) : D → Store → Prop := fun a st => Wp (F env st) (KAug2 i f a env Q)
theorem ev_aug {i : Nat} {f : D → D → Store → Option D} : Wp (sAug i f F env st) Q ↔ Wp (fVar i env st) (KAug i f F env Q) := by
  rw [wps_aug, wp_var]
  rfl
theorem kaug {i : Nat} {f : D → D → Store → Option D} {a : D} : KAug i f F env Q a st ↔ Wp (F env st) (KAug2 i f a env Q) := Iff.rfl
theorem kaug2 {i : Nat} {f : D → D → Store → Option D} {a b : D} : KAug2 i f a env Q b st ↔ Ob (f a b st) (KAug2.KNx' i env Q st) := Iff.rfl
theorem kaug3 {i : Nat} : KAug2.KNx' i env Q st d ↔ Q (.nx (env.set i (some d))) st := Iff.rfl
/-! append, extend, reverse -/
def KApp3 (n : Nat) (x : D) (env : En) (Q : Out → Store → Prop) (st : Store) : List D → Prop := fun xs => Cd (xs.length < 16777216) (Q (.nx env) (st.set n (.lst (xs ++ [x]))))
def KApp2 (n : Nat) (env : En) (Q : Out → Store → Prop) : D → Store → Prop := fun x st => Ob (lstAt st n) (KApp3 n x env Q st)
def KApp15 (n : Nat) (F : FE) (env : En) (Q : Out → Store → Prop) (st : Store) : List D → Prop := fun _ => Wp (F env st) (KApp2 n env Q)
def KApp (F : FE) (env : En) (Q : Out → Store → Prop) : D → Store → Prop := fun o st => match o with
  | .ref n => Ob (lstAt st n) (KApp15 n F env Q st)
  | _ => False
theorem ev_app {Fo : FE} : Wp (sApp Fo F env st) Q ↔ Wp (Fo env st) (KApp F env Q) := by
  rw [wps_app]
  constructor
  · rintro ⟨o, s, e, n, ys, rfl, h, x, s2, e2, xs, h2, h3, q⟩
    exact ⟨.ref n, s, e, ys, lstAt_iff.mpr h, x, s2, e2, xs, lstAt_iff.mpr h2, h3, q⟩
  · rintro ⟨o, s, e, q⟩
    unfold KApp at q
    split at q
    · rename_i n
      obtain ⟨ys, h, x, s2, e2, xs, h2, h3, q⟩ := q
      exact ⟨.ref n, s, e, n, ys, rfl, lstAt_iff.mp h, x, s2, e2, xs, lstAt_iff.mp h2, h3, q⟩
    · exact q.elim
theorem kapp {n : Nat} : KApp F env Q (.ref n) st ↔ Ob (lstAt st n) (KApp15 n F env Q st) := Iff.rfl
theorem kapp15 {n : Nat} {ys : List D} : KApp15 n F env Q st ys ↔ Wp (F env st) (KApp2 n env Q) := Iff.rfl
theorem kapp2 {n : Nat} : KApp2 n env Q x st ↔ Ob (lstAt st n) (KApp3 n x env Q st) := Iff.rfl
theorem kapp3 {n : Nat} {xs : List D} : KApp3 n x env Q st xs ↔ Cd (xs.length < 16777216) (Q (.nx env) (st.set n (.lst (xs ++ [x])))) := Iff.rfl
def KExt4 (n : Nat) (xs : List D) (env : En) (Q : Out → Store → Prop) (st : Store) : List D → Prop := fun ys => Cd (xs.length + ys.length ≤ 16777216) (Q (.nx env) (st.set n (.lst (xs ++ ys))))
def KExt3 (n : Nat) (x : D) (env : En) (Q : Out → Store → Prop) (st : Store) : List D → Prop := fun xs => Ob (extOf st x) (KExt4 n xs env Q st)
def KExt2 (n : Nat) (env : En) (Q : Out → Store → Prop) : D → Store → Prop := fun x st => Ob (lstAt st n) (KExt3 n x env Q st)
def KExt15 (n : Nat) (F : FE) (env : En) (Q : Out → Store → Prop) (st : Store) : List D → Prop := fun _ => Wp (F env st) (KExt2 n env Q)
def KExt (F : FE) (env : En) (Q : Out → Store → Prop) : D → Store → Prop := fun o st => match o with
  | .ref n => Ob (lstAt st n) (KExt15 n F env Q st)
  | _ => False
theorem ev_ext {Fo : FE} : Wp (sExt Fo F env st) Q ↔ Wp (Fo env st) (KExt F env Q) := by
  rw [wps_ext]
  constructor
  · rintro ⟨o, s, e, n, ys, rfl, h, x, s2, e2, xs, zs, h2, h3, h4, q⟩
    exact ⟨.ref n, s, e, ys, lstAt_iff.mpr h, x, s2, e2, xs, lstAt_iff.mpr h2, zs, h3, h4, q⟩
  · rintro ⟨o, s, e, q⟩
    unfold KExt at q
    split at q
    · rename_i n
      obtain ⟨ys, h, x, s2, e2, xs, h2, zs, h3, h4, q⟩ := q
      exact ⟨.ref n, s, e, n, ys, rfl, lstAt_iff.mp h, x, s2, e2, xs, zs, lstAt_iff.mp h2, h3, h4, q⟩
    · exact q.elim
theorem kext {n : Nat} : KExt F env Q (.ref n) st ↔ Ob (lstAt st n) (KExt15 n F env Q st) := Iff.rfl
theorem kext15 {n : Nat} {ys : List D} : KExt15 n F env Q st ys ↔ Wp (F env st) (KExt2 n env Q) := Iff.rfl
theorem kext2 {n : Nat} : KExt2 n env Q x st ↔ Ob (lstAt st n) (KExt3 n x env Q st) := Iff.rfl
theorem kext3 {n : Nat} {xs : List D} : KExt3 n x env Q st xs ↔ Ob (extOf st x) (KExt4 n xs env Q st) := Iff.rfl
theorem kext4 {n : Nat} {xs ys : List D} : KExt4 n xs env Q st ys ↔ Cd (xs.length + ys.length ≤ 16777216) (Q (.nx env) (st.set n (.lst (xs ++ ys)))) := Iff.rfl
/-! loops -/
def KFor (T : FG) (B : FS) (env : En) (Q : Out → Store → Prop) : (List D × Gd) → Store → Prop := fun r st => Wp (forN r.2 T B r.1 env st) Q
theorem ev_for : Wp (sFor I T B env st) Q ↔ Wp (I env st) (KFor T B env Q) := wps_for
theorem kfor {ds : List D} {g : Gd} : KFor T B env Q (ds, g) st ↔ Wp (forN g T B ds env st) Q := Iff.rfl
/-- a turn's end: on with the next, by an invariant -/
def KInv (P : En → Store → Prop) (Q : Out → Store → Prop) : Out → Store → Prop := fun o st => match o with
  | .nx e => P e st
  | .ct e => P e st
  | .bk e => Q (.nx e) st
  | .rt v => Q (.rt v) st
theorem kinv_congr {P : En → Store → Prop} {o o' : Out} (h : o = o') : KInv P Q o st = KInv P Q o' st := by rw [h]
theorem kinv_nx {P : En → Store → Prop} : KInv P Q (.nx e) st ↔ P e st := Iff.rfl
theorem kinv_ct {P : En → Store → Prop} : KInv P Q (.ct e) st ↔ P e st := Iff.rfl
theorem kinv_bk {P : En → Store → Prop} : KInv P Q (.bk e) st ↔ Q (.nx e) st := Iff.rfl
theorem kinv_rt {P : En → Store → Prop} : KInv P Q (.rt d) st ↔ Q (.rt d) st := Iff.rfl
theorem ev_forI {g : Gd} (Iv : Nat → En → Store → Prop) {ds : List D} (h0 : Iv 0 env st)
    (hs : ∀ j d e s, ds[j]? = some d → Iv j e s → g s ∧ Ob (T d e) fun e1 => Wp (B e1 s) (KInv (Iv (j + 1)) Q))
    (hd : ∀ e s, Iv ds.length e s → g s ∧ Q (.nx e) s) : Wp (forN g T B ds env st) Q := by
  refine wp_forI Iv ds 0 env st Q h0 (fun j d e s hj hI => ?_) fun e s hI => hd e s (by rw [Nat.zero_add] at hI; exact hI)
  rw [Nat.zero_add] at hI
  obtain ⟨hg, e1, ht, hb⟩ := hs j d e s hj hI
  refine ⟨hg, e1, ht, hb.mono fun o s1 ho => ?_⟩
  rw [Nat.zero_add]
  cases o <;> exact ho
def KTurn (g : Gd) (T : FG) (B : FS) (ds : List D) (Q : Out → Store → Prop) (st : Store) : En → Prop := fun e => Wp (B e st) (KInv (fun e2 s => Wp (forN g T B ds e2 s) Q) Q)
theorem ev_for_cons {g : Gd} {ds : List D} : Wp (forN g T B (d :: ds) env st) Q ↔ Cd (g st) (Ob (T d env) (KTurn g T B ds Q st)) := by
  rw [wpf_cons]
  constructor
  · rintro ⟨hg, e1, ht, o, s, h, q⟩
    refine ⟨hg, e1, ht, o, s, h, ?_⟩
    cases o <;> exact q
  · rintro ⟨hg, e1, ht, o, s, h, q⟩
    refine ⟨hg, e1, ht, o, s, h, ?_⟩
    cases o <;> exact q
theorem kturn {g : Gd} {ds : List D} : KTurn g T B ds Q st e ↔ Wp (B e st) (KInv (fun e2 s => Wp (forN g T B ds e2 s) Q) Q) := Iff.rfl
theorem ev_for_nil {g : Gd} : Wp (forN g T B [] env st) Q ↔ Cd (g st) (Q (.nx env) st) := wpf_nil
end
section
variable {env : En} {st : Store} {F : FE} {A : FA} {T : FG} {C : FT} {I : FI} {d y : D} {e : En}
def KIv (Q : (List D × Gd) → Store → Prop) : D → Store → Prop := fun d st => Ob (itemsOf st d) (KV Q st)
theorem ev_ival {Q : (List D × Gd) → Store → Prop} : Wp (iVal F env st) Q ↔ Wp (F env st) (KIv Q) := wpi_val
theorem kiv {Q : (List D × Gd) → Store → Prop} : KIv Q d st ↔ Ob (itemsOf st d) (KV Q st) := Iff.rfl
def KR1 (Q : (List D × Gd) → Store → Prop) : List D → Store → Prop := fun ds st => ∃ j, ds = [.int j] ∧ (-4611686018427387904 ≤ j ∧ j < 4611686018427387904) ∧ Q (rangeD 0 j.toNat, fun _ => True) st
theorem ev_range1 {Q : (List D × Gd) → Store → Prop} : Wp (iRange1 A env st) Q ↔ Wp (A env st) (KR1 Q) := wpi_range1
theorem kr1 {Q : (List D × Gd) → Store → Prop} {j : Int} : KR1 Q [.int j] st ↔ Cd (-4611686018427387904 ≤ j ∧ j < 4611686018427387904) (Q (rangeD 0 j.toNat, fun _ => True) st) :=
  ⟨fun ⟨_, e, h, q⟩ => by cases e; exact ⟨h, q⟩, fun ⟨h, q⟩ => ⟨j, rfl, h, q⟩⟩
def KTl (Q : D → Store → Prop) : List D → Store → Prop := fun ys st => Q (.tl ys) st
theorem ktl {Q : D → Store → Prop} {ys : List D} : KTl Q ys st ↔ Q (.tl ys) st := Iff.rfl
def KComp (vs : List Nat) (T : FG) (C : FT) (F : FE) (env : En) (Q : D → Store → Prop) : (List D × Gd) → Store → Prop := fun r st => Cd (r.1.length ≤ 16777216) (Wp (compN r.2 T C F r.1 (wipeE env vs) st) (KTl Q))
theorem ev_comp {vs : List Nat} {Q : D → Store → Prop} : Wp (fComp vs I T C F env st) Q ↔ Wp (I env st) (KComp vs T C F env Q) := wp_comp
theorem kcomp {vs : List Nat} {Q : D → Store → Prop} {ds : List D} {g : Gd} : KComp vs T C F env Q (ds, g) st ↔ Cd (ds.length ≤ 16777216) (Wp (compN g T C F ds (wipeE env vs) st) (KTl Q)) := Iff.rfl
theorem wipe_nil : wipeE env [] = env := rfl
theorem wipe_cons {v : Nat} {vs : List Nat} : wipeE env (v :: vs) = (wipeE env vs).set v none := rfl
theorem rangeD_zero {lo : Int} : rangeD lo 0 = [] := rfl
theorem rangeD_succ {lo : Int} {n : Nat} : rangeD lo (n + 1) = .int lo :: rangeD (lo + 1) n := by
  unfold rangeD
  rw [List.range_succ_eq_map, List.map_cons, List.map_map]
  refine congr (congrArg List.cons (by simp)) (List.map_congr_left fun i _ => ?_)
  simp only [Function.comp]
  congr 1
  omega
end

/-! values -/
section
variable {st : Store} {n : Nat} {xs : List D}
theorem atI3 {α : Type} {x y z u : α} {xs : List α} : L2.atI (x :: y :: z :: u :: xs) 3 = some u := by
  have : (3 : Int) < (xs.length : Int) + 1 + 1 + 1 + 1 := by omega
  simp [L2.atI, ixN, this]
theorem atI4 {α : Type} {x y z u v : α} {xs : List α} : L2.atI (x :: y :: z :: u :: v :: xs) 4 = some v := by
  have : (4 : Int) < (xs.length : Int) + 1 + 1 + 1 + 1 + 1 := by omega
  simp [L2.atI, ixN, this]
theorem atI5 {α : Type} {x y z u v w : α} {xs : List α} : L2.atI (x :: y :: z :: u :: v :: w :: xs) 5 = some w := by
  have : (5 : Int) < (xs.length : Int) + 1 + 1 + 1 + 1 + 1 + 1 := by omega
  simp [L2.atI, ixN, this]
theorem items_tup : itemsOf st (.tup xs) = some (xs, fun _ => True) := rfl
theorem items_ref (h : lstAt st n = some xs) : itemsOf st (.ref n) = some (xs, fun st' => st'[n]? = some (.lst xs)) := by
  unfold itemsOf
  simp only [lstAt_iff.mp h]
theorem bTuple_tl : bTuple [.tl xs] st = some (.tup xs, st) := rfl
theorem bTuple_tup : bTuple [.tup xs] st = some (.tup xs, st) := rfl
theorem bTuple_ref (h : lstAt st n = some xs) : bTuple [.ref n] st = some (.tup xs, st) := by
  simp only [bTuple, seqOf, lsqOf, lstAt_iff.mp h]
theorem bList_tl : bList [.tl xs] st = some (.tl xs, st) := rfl
theorem bListS_tup : bListS [.tup xs] st = some (.ref st.length, st ++ [.lst xs]) := rfl
theorem bListS_tl : bListS [.tl xs] st = some (.ref st.length, st ++ [.lst xs]) := rfl
theorem bLen_ref (h : lstAt st n = some xs) : bLen [.ref n] st = some (.int xs.length, st) := by
  simp only [bLen, lenOf, lstAt_iff.mp h]
theorem dIdx_tl {i : Int} : dIdx (.tl xs) (.int i) st = L2.atI xs i := rfl
theorem dIdx_ref (h : lstAt st n = some xs) {i : Int} : dIdx (.ref n) (.int i) st = L2.atI xs i := by
  simp only [dIdx, lsqOf, lstAt_iff.mp h]
theorem extOf_tup : extOf st (.tup xs) = some xs := rfl
theorem extOf_tl : extOf st (.tl xs) = some xs := rfl
theorem extOf_ref (h : lstAt st n = some xs) : extOf st (.ref n) = some xs := by
  simp only [extOf, lstOf, lstAt_iff.mp h]
theorem lstOf_tl : lstOf st (.tl xs) = some xs := rfl
theorem okEq_int {a b : Int} : okEq (.int a) (.int b) = true := rfl
theorem dAdd_tupc {ys : List D} (h : xs.length + ys.length ≤ 16777216) : dAdd (.tup xs) (.tup ys) st = some (.tup (xs ++ ys)) := by rw [dAdd_tup, if_pos h]
theorem dAdd_tlc {ys : List D} (h : xs.length + ys.length ≤ 16777216) : dAdd (.tl xs) (.tl ys) st = some (.tl (xs ++ ys)) := by rw [dAdd_tl, if_pos h]
theorem bAll_map {p : D → Bool} : bAll [.tl (xs.map fun d => .bl (p d))] st = some (.bl (xs.all p), st) := by
  simp only [bAll, lsqOf, boolsOf_map, all_id]
theorem wipe_length (env : En) : ∀ vs : List Nat, (wipeE env vs).length = env.length
  | [] => rfl
  | v :: vs => by rw [wipe_cons, List.length_set, wipe_length env vs]
theorem bl_int {a b : Int} : cEq (.int a) (.int b) st = some (decide (a = b)) := cEq_int a b st
end
section
variable {st : Store} {n : Nat} {xs : List D}
theorem tag_non : tagOf st .non = some .non := rfl
theorem tag_bl {b : Bool} : tagOf st (.bl b) = some .bl := rfl
theorem tag_int {i : Int} : tagOf st (.int i) = some .int := rfl
theorem tag_str {z : Str} : tagOf st (.str z) = some .str := rfl
theorem tag_tup : tagOf st (.tup xs) = some .tup := rfl
theorem tag_tl : tagOf st (.tl xs) = some .lst := rfl
theorem tag_sl : tagOf st (.sl xs) = some .lst := rfl
theorem tru_non : tru st .non = some false := rfl
theorem tru_bl {b : Bool} : tru st (.bl b) = some b := rfl
theorem tru_int {i : Int} : tru st (.int i) = some (i != 0) := rfl
theorem tru_tup : tru st (.tup xs) = some (!xs.isEmpty) := rfl
theorem tru_tl : tru st (.tl xs) = some (!xs.isEmpty) := rfl
theorem tru_sl : tru st (.sl xs) = some (!xs.isEmpty) := rfl
theorem tru_ref (h : lstAt st n = some xs) : tru st (.ref n) = some (!xs.isEmpty) := by simp only [tru, lstAt_iff.mp h]
end
theorem cast0 : ((0 : Nat) : Int) = 0 := rfl
theorem cast1 : ((1 : Nat) : Int) = 1 := rfl
theorem cLt_int {i j : Int} {st : Store} : cLt (.int i) (.int j) st = some (decide (i < j)) := rfl
theorem cLe_int {i j : Int} {st : Store} : cLe (.int i) (.int j) st = some (decide (i ≤ j)) := rfl
theorem cGt_int {i j : Int} {st : Store} : cGt (.int i) (.int j) st = some (decide (j < i)) := rfl
theorem cGe_int {i j : Int} {st : Store} : cGe (.int i) (.int j) st = some (decide (j ≤ i)) := rfl
section
variable {env : En} {st : Store} {F : FE} {T : FG} {C : FT} {d : D} {e : En} {g : Gd} {ds : List D} {Q : List D → Store → Prop}
def KCp3 (y : D) (Q : List D → Store → Prop) : List D → Store → Prop := fun ys st => Q (y :: ys) st
def KCp2 (g : Gd) (T : FG) (C : FT) (F : FE) (ds : List D) (env : En) (Q : List D → Store → Prop) : D → Store → Prop := fun y st => Wp (compN g T C F ds env st) (KCp3 y Q)
def KCp1 (g : Gd) (T : FG) (C : FT) (F : FE) (ds : List D) (env : En) (Q : List D → Store → Prop) (e : En) : Bool → Store → Prop := fun k st => if k = true then Wp (F e st) (KCp2 g T C F ds env Q) else Wp (compN g T C F ds env st) Q
def KCp (g : Gd) (T : FG) (C : FT) (F : FE) (ds : List D) (env : En) (Q : List D → Store → Prop) (st : Store) : En → Prop := fun e => Wp (C e st) (KCp1 g T C F ds env Q e)
theorem ev_comp_nil : Wp (compN g T C F [] env st) Q ↔ Cd (g st) (Q [] st) := by
  unfold compN Cd
  by_cases h : g st
  · simp [h]
  · simp [h]
theorem ev_comp_cons : Wp (compN g T C F (d :: ds) env st) Q ↔ Cd (g st) (Ob (T d env) (KCp g T C F ds env Q st)) := by
  unfold Cd
  rw [compN]
  by_cases h : g st
  · simp only [h, if_true, true_and]
    cases h1 : T d env with
    | none => simp [Ob]
    | some e1 =>
      simp only [ob_some, KCp]
      cases h2 : C e1 st with
      | none => simp
      | some r =>
        obtain ⟨k, s1⟩ := r
        cases k with
        | false => simp [KCp1]
        | true =>
          simp only [wp_some, KCp1, if_true]
          cases h3 : F e1 s1 with
          | none => simp
          | some r =>
            obtain ⟨y, s2⟩ := r
            simp only [wp_some, KCp2]
            cases h4 : compN g T C F ds env s2 with
            | none => simp
            | some r =>
              obtain ⟨ys, s3⟩ := r
              simp [KCp3]
  · simp [h]
theorem kcp : KCp g T C F ds env Q st e ↔ Wp (C e st) (KCp1 g T C F ds env Q e) := Iff.rfl
theorem kcp1_t : KCp1 g T C F ds env Q e true st ↔ Wp (F e st) (KCp2 g T C F ds env Q) := by simp [KCp1]
theorem kcp1_f : KCp1 g T C F ds env Q e false st ↔ Wp (compN g T C F ds env st) Q := by simp [KCp1]
theorem kcp1_congr {k k' : Bool} (h : k = k') : KCp1 g T C F ds env Q e k st = KCp1 g T C F ds env Q e k' st := by rw [h]
theorem kcp2 : KCp2 g T C F ds env Q d st ↔ Wp (compN g T C F ds env st) (KCp3 d Q) := Iff.rfl
theorem kcp3 {ys : List D} : KCp3 d Q ys st ↔ Q (d :: ys) st := Iff.rfl
end
theorem cd_pos {p q : Prop} (h : p) : Cd p q ↔ q := by simp [Cd, h]
section
variable {st : Store} {n : Nat} {xs ys : List D}
theorem dAdd_refc (h : lstAt st n = some xs) (hl : xs.length + ys.length ≤ 16777216) : dAdd (.ref n) (.tl ys) st = some (.tl (xs ++ ys)) := by
  show (match lstOf st (.ref n) with | some xs => (match lstOf st (.tl ys) with | some ys => if xs.length + ys.length ≤ 16777216 then some (D.tl (xs ++ ys)) else none | none => none) | none => none) = _
  rw [lstOf_ref, h, lstOf_tl]
  simp [hl]
theorem dAdd_tlrefc (h : lstAt st n = some ys) (hl : xs.length + ys.length ≤ 16777216) : dAdd (.tl xs) (.ref n) st = some (.tl (xs ++ ys)) := by
  show (match lstOf st (.tl xs) with | some xs => (match lstOf st (.ref n) with | some ys => if xs.length + ys.length ≤ 16777216 then some (D.tl (xs ++ ys)) else none | none => none) | none => none) = _
  rw [lstOf_ref, h, lstOf_tl]
  simp [hl]
theorem lstAt_push_set {o : O} : lstAt ((st ++ [o]).set st.length (.lst ys)) st.length = some ys := lstAt_set (by simp)
theorem dMul_tlc {k : Nat} (h1 : xs.length ≤ 1000) (h2 : k ≤ 1000) : dMul (.tl xs) (.int k) st = some (.tl (List.replicate k xs).flatten) := by
  show (match lstOf st (.tl xs) with | some xs => if xs.length ≤ 1000 ∧ -1000 ≤ (k : Int) ∧ (k : Int) ≤ 1000 then some (D.tl (List.replicate (k : Int).toNat xs).flatten) else none | none => none) = _
  rw [lstOf_tl]
  have : xs.length ≤ 1000 ∧ -1000 ≤ (k : Int) ∧ (k : Int) ≤ 1000 := ⟨h1, by omega, by omega⟩
  simp [this]
end
section
variable {st : Store} {xs ys : List D} {o o2 o3 : O}
theorem lstAt_push1 : lstAt (st ++ [o] ++ [.lst xs]) (st.length + 1) = some xs := by
  have := lstAt_push (st := st ++ [o]) (xs := xs)
  rwa [List.length_append] at this
theorem lstAt_push1_set : lstAt ((st ++ [o] ++ [o2]).set (st.length + 1) (.lst ys)) (st.length + 1) = some ys := lstAt_set (by simp)
theorem lstAt_push2 : lstAt (st ++ [o] ++ [o2] ++ [.lst xs]) (st.length + 2) = some xs := by
  have := lstAt_push (st := st ++ [o] ++ [o2]) (xs := xs)
  rwa [List.length_append, List.length_append] at this
theorem lstAt_push2_set : lstAt ((st ++ [o] ++ [o2] ++ [o3]).set (st.length + 2) (.lst ys)) (st.length + 2) = some ys := lstAt_set (by simp)
end
theorem bMin_int {i j : Int} {st : Store} : bMin [.int i, .int j] st = some (.int (if j < i then j else i), st) := rfl
theorem bMax_int {i j : Int} {st : Store} : bMax [.int i, .int j] st = some (.int (if j > i then j else i), st) := rfl
theorem bAbs_int {i : Int} {st : Store} : bAbs [.int i] st = some (.int (if i < 0 then -i else i), st) := rfl
end Vm
/-! data that is drawn: of a fair size, near, light and not deep; the names of the laws -/
namespace Vm
open PySem PySem.Spec PyProof.Rows L2
structure Fx (W E : Nat) (d : D) : Prop where
  sm : small d = true
  nr : nrd d = true
  w : wt d ≤ W
  e : dep d ≤ E
structure Fxs (W E : Nat) (ds : List D) : Prop where
  sm : smalls ds = true
  nr : nrds ds = true
  w : wts ds ≤ W
  e : deps ds ≤ E
theorem Fx.mono {W E W' E' : Nat} {d : D} (h : Fx W E d) (hw : W ≤ W') (he : E ≤ E') : Fx W' E' d := ⟨h.sm, h.nr, Nat.le_trans h.w hw, Nat.le_trans h.e he⟩
theorem Fxs.mono {W E W' E' : Nat} {d : List D} (h : Fxs W E d) (hw : W ≤ W') (he : E ≤ E') : Fxs W' E' d := ⟨h.sm, h.nr, Nat.le_trans h.w hw, Nat.le_trans h.e he⟩
theorem Fxs.nil : Fxs 0 0 [] := ⟨rfl, rfl, Nat.le_refl _, Nat.le_refl _⟩
theorem Fxs.cons {W E W' E' : Nat} {d : D} {ds : List D} (h : Fx W E d) (h' : Fxs W' E' ds) : Fxs (W + 1 + W') (max E E') (d :: ds) := by
  refine ⟨by simp [smalls, h.sm, h'.sm], by simp [nrds, h.nr, h'.nr], ?_, ?_⟩
  · have := h.w
    have := h'.w
    simp only [wts]
    omega
  · have := h.e
    have := h'.e
    simp only [deps]
    omega
theorem nrds_append : ∀ xs ys : List D, nrds (xs ++ ys) = (nrds xs && nrds ys)
  | [], ys => by simp [nrds]
  | x :: xs, ys => by simp only [List.cons_append, nrds, nrds_append xs ys, Bool.and_assoc]
theorem wts_append : ∀ xs ys : List D, wts (xs ++ ys) = wts xs + wts ys
  | [], ys => by simp [wts]
  | x :: xs, ys => by simp only [List.cons_append, wts, wts_append xs ys]; omega
theorem deps_append : ∀ xs ys : List D, deps (xs ++ ys) = max (deps xs) (deps ys)
  | [], ys => by simp [deps]
  | x :: xs, ys => by simp only [List.cons_append, deps, deps_append xs ys]; omega
theorem Fxs.append {W E W' E' : Nat} {xs ys : List D} (h : Fxs W E xs) (h' : Fxs W' E' ys) : Fxs (W + W') (max E E') (xs ++ ys) := by
  have := h.w
  have := h'.w
  have := h.e
  have := h'.e
  refine ⟨by rw [smalls_append, h.sm, h'.sm]; rfl, by rw [nrds_append, h.nr, h'.nr]; rfl, by rw [wts_append]; omega, by rw [deps_append]; omega⟩
theorem Fxs.mem {W E : Nat} {ds : List D} (h : Fxs W E ds) {d : D} (hd : d ∈ ds) : Fx W E d := by
  obtain ⟨xs, ys, rfl⟩ := List.append_of_mem hd
  have h1 := h.sm; have h2 := h.nr; have h3 := h.w; have h4 := h.e
  rw [smalls_append] at h1
  rw [nrds_append] at h2
  rw [wts_append] at h3
  rw [deps_append] at h4
  simp only [smalls, nrds, wts, deps, Bool.and_eq_true] at h1 h2 h3 h4
  exact ⟨h1.2.1, h2.2.1, by omega, by omega⟩
theorem Fxs.sub {W E : Nat} {ds xs ys zs : List D} (h : Fxs W E ds) (e : ds = xs ++ (ys ++ zs)) : Fxs W E ys := by
  subst e
  have h1 := h.sm; have h2 := h.nr; have h3 := h.w; have h4 := h.e
  rw [smalls_append, smalls_append] at h1
  rw [nrds_append, nrds_append] at h2
  rw [wts_append, wts_append] at h3
  rw [deps_append, deps_append] at h4
  simp only [Bool.and_eq_true] at h1 h2
  exact ⟨h1.2.1, h2.2.1, by omega, by omega⟩
theorem Fxs.take {W E : Nat} {ds : List D} (h : Fxs W E ds) (n : Nat) : Fxs W E (ds.take n) := h.sub (xs := []) (zs := ds.drop n) (by simp)
theorem Fxs.drop {W E : Nat} {ds : List D} (h : Fxs W E ds) (n : Nat) : Fxs W E (ds.drop n) := h.sub (xs := ds.take n) (zs := []) (by simp)
theorem Fxs.cut {W E : Nat} {ds : List D} (h : Fxs W E ds) (lo hi : Option Int) : Fxs W E (Vm.cutD ds lo hi) := (h.drop _).take _
theorem smalls_reverse {xs : List D} (h : smalls xs = true) : smalls xs.reverse = true := smalls_of fun d hd => smalls_mem h (List.mem_reverse.mp hd)
theorem Fxs.reverse {W E : Nat} {ds : List D} (h : Fxs W E ds) : Fxs W E ds.reverse := by
  have : ∀ ds : List D, nrds ds.reverse = nrds ds ∧ wts ds.reverse = wts ds ∧ deps ds.reverse = deps ds := by
    intro ds
    induction ds with
    | nil => exact ⟨rfl, rfl, rfl⟩
    | cons d ds ih =>
      rw [List.reverse_cons, nrds_append, wts_append, deps_append, ih.1, ih.2.1, ih.2.2]
      simp only [nrds, wts, deps]
      refine ⟨?_, by omega, by omega⟩
      cases nrd d <;> cases nrds ds <;> rfl
  obtain ⟨h1, h2, h3⟩ := this ds
  exact ⟨smalls_reverse h.sm, by rw [h1]; exact h.nr, by rw [h2]; exact h.w, by rw [h3]; exact h.e⟩
/-- so many of one thing -/
theorem Fxs.same {W E : Nat} {d : D} (h : Fx W E d) : ∀ n, Fxs (n * (W + 1)) E (List.replicate n d)
  | 0 => Fxs.nil.mono (Nat.zero_le _) (Nat.zero_le _)
  | n + 1 => by
    rw [List.replicate_succ]
    refine (Fxs.cons h (Fxs.same h n)).mono ?_ (by omega)
    rw [Nat.add_mul]
    omega
theorem Fx.tup {W E : Nat} {ds : List D} (h : Fxs W E ds) (hl : ds.length ≤ 1000) : Fx W (E + 1) (.tup ds) :=
  ⟨by simp [small, h.sm, hl], by simp only [nrd]; exact h.nr, by simp only [wt]; exact h.w, by simp only [dep]; have := h.e; omega⟩
theorem Fx.tl {W E : Nat} {ds : List D} (h : Fxs W E ds) (hl : ds.length ≤ 1000) : Fx W (E + 1) (.tl ds) :=
  ⟨by simp [small, h.sm, hl], by simp only [nrd]; exact h.nr, by simp only [wt]; exact h.w, by simp only [dep]; have := h.e; omega⟩
theorem Fx.ofTup {W E : Nat} {ds : List D} (h : Fx W E (.tup ds)) : Fxs W (E - 1) ds ∧ ds.length ≤ 1000 := by
  have h1 := h.sm; have h2 := h.nr; have h3 := h.w; have h4 := h.e
  simp only [small, Bool.and_eq_true, decide_eq_true_eq] at h1
  simp only [nrd] at h2
  simp only [wt] at h3
  simp only [dep] at h4
  exact ⟨⟨h1.1, h2, h3, by omega⟩, h1.2⟩
theorem Fx.non : Fx 0 0 .non := ⟨rfl, rfl, Nat.le_refl _, Nat.le_refl _⟩
theorem Fx.int {i : Int} (h1 : -999999999 ≤ i) (h2 : i ≤ 999999999) : Fx 30 0 (.int i) := ⟨rfl, by simp [nrd, near, h1, h2], Nat.le_refl _, Nat.le_refl _⟩
theorem Fx.nm {d : D} (h : isNm d = true) : Fx 30 0 d := by
  refine ⟨small_nm h, ?_, ?_, ?_⟩
  · cases d <;> simp [isNm] at h <;> simp [nrd, near]
  · cases d <;> simp [isNm] at h
    simp only [wt]
    have := h.1.2
    unfold Str.length at this
    omega
  · cases d <;> simp [isNm] at h <;> simp [dep]
theorem Fx.tm {d : D} (h : isTm d = true) : Fx 30 0 d := by
  cases d with
  | int i =>
    simp only [isTm, Bool.and_eq_true, decide_eq_true_eq] at h
    exact Fx.int h.1 h.2
  | str s => exact Fx.nm h
  | _ => simp [isTm, isNm] at h
def okB (W E : Nat) (d : D) : Bool := small d && nrd d && decide (wt d ≤ W) && decide (dep d ≤ E)
theorem okB_ok {W E : Nat} {d : D} (h : okB W E d = true) : Fx W E d := by
  simp only [okB, Bool.and_eq_true, decide_eq_true_eq] at h
  exact ⟨h.1.1.1, h.1.1.2, h.1.2, h.2⟩
theorem Fx.reprA {W E : Nat} {d : D} {st : Store} (h : Fx W E d) (hw : W ≤ 1048576) (he : E ≤ 60) : bReprA [d] st = some (.str (pd d).shown, st) := by
  have h1 := repr_eq (st := st) (okd_small _ h.sm) h.nr (Nat.le_trans h.w hw) (Nat.le_trans h.e he) (deref_small h.sm)
  rw [← h1]
  cases d with
  | ref n => have := h.sm; simp [small] at this
  | _ => rfl
/-! the names: a letter and a tail -/
def nmS (j : Nat) (t : List Nat) : Str := ⟨((97 + j) :: t).toArray⟩
def nmD (r : Nat) (t : List Nat) (i : Nat) : D := .str (nmS ((r + 5 * i) % 26) t)
theorem nmS_nm {j : Nat} {t : List Nat} (hj : j < 26) (ht : t.length ≤ 7) (ha : t.all azS = true) : isNm (.str (nmS j t)) = true := by
  have e : (nmS j t).cps.toList = (97 + j) :: t := rfl
  have el : (nmS j t).length = t.length + 1 := by
    unfold Str.length
    rw [← Array.length_toList, e]
    rfl
  simp only [isNm, el, e, List.all_cons, ha, Bool.and_true, azS, Bool.and_eq_true, decide_eq_true_eq]
  omega
theorem nmS_inj {j k : Nat} {t : List Nat} (h : nmS j t = nmS k t) : j = k := by
  have : (nmS j t).cps.toList = (nmS k t).cps.toList := by rw [h]
  simp only [nmS, List.cons.injEq] at this
  omega
theorem nmD_inj {r i k : Nat} {t : List Nat} (hi : i < 26) (hk : k < 26) (h : nmD r t i = nmD r t k) : i = k := by
  unfold nmD at h
  have := nmS_inj (D.str.inj h)
  omega
theorem nmD_nm {r i : Nat} {t : List Nat} (ht : t.length ≤ 7) (ha : t.all azS = true) : isNm (nmD r t i) = true := nmS_nm (Nat.mod_lt _ (by omega)) ht ha
theorem abc_idx {j : Nat} (hj : j < 26) (st : Store) : dIdx (.str abc) (.int j) st = some (.str ⟨#[97 + j]⟩) := by
  have key : ∀ j : Fin 26, L2.atI abc.cps.toList (j.val : Int) = some (97 + j.val) := by
    rw [abc_cps]
    decide +kernel
  have := key ⟨j, hj⟩
  simp only at this
  simp only [dIdx]
  rw [if_pos (by rw [abc_len]; omega), this]
  rfl
def Nms (ns : List D) (r m : Nat) (t : List Nat) : Prop := r < 26 ∧ t.length ≤ 7 ∧ t.all azS = true ∧ ns = (List.range m).map fun i => nmD r t i
local macro_rules | `(tactic| walk_at "ev") => `(tactic| simp only [↓ev_bin, ↓kbin, ↓kbin2, ↓kv, ↓kbl, ↓ev_cmp, ↓kcmp, ↓kcmp2, ↓ev_chain, ↓kch, ↓kch2, kch3_t, kch3_f, ↓ev_cons, ↓kcons, ↓kcons2, ↓ev_tup, ↓ktup, ↓ev_lst, ↓klst, ↓ev_lstS, ↓klstS, ↓ev_neg, ↓kneg, ↓ev_or, ↓kor, kor2_t, kor2_f, ↓ev_and, ↓kand, kand2_t, kand2_f, ↓ev_not, ↓knot, ↓knt, kif_t, kif_f, ↓ev_ite, ↓ev_oSome, ↓kos, ↓ev_cut, ↓kcut, ↓kcut2, ↓kcut3, ↓ev_call, ↓kcall, ↓ev_blt, ↓kblt, ↓ev_isi, ↓kisi, ↓ktg, ↓ev_rev, ↓krev, ↓ev_addS, ↓kas, ↓kas2, ↓kas25, ↓kas3, ↓kfn_rt, ↓kfn_nx, ↓ev_tcmp, ↓ktc, ↓ktc2, ↓ev_tchain, ↓ktch, ↓ev_tru, ↓ktru, ↓ev_tand, ktand_t, ktand_f, ↓ev_tor, ktor_t, ktor_f, ↓ev_tnot, ↓ktnot, ↓ev_tite, ↓ev_seq, kt_nx, kt_rt, kt_bk, kt_ct, ↓ev_ret, ↓kret, ↓ev_expr, ↓kexpr, ↓ev_set, ↓kset, ↓knx, ↓ev_asg, ↓kasg, ↓ev_if, ↓ev_put, ↓kput, ↓kput1, ↓kputs, ↓kput2, ↓ev_aug, ↓kaug, ↓kaug2, ↓kaug3, ↓ev_app, ↓kapp, ↓kapp15, ↓kapp2, ↓kapp3, ↓ev_ext, ↓kext, ↓kext15, ↓kext2, ↓kext3, ↓kext4, ↓ev_for, ↓kfor, kinv_nx, kinv_ct, kinv_bk, kinv_rt, ↓kturn, ↓ev_ival, ↓kiv, ↓ev_range1, ↓kr1, ↓ktl, ↓ev_comp, ↓kcomp, wipe_nil, wipe_cons,
  fv0, fvS, fcon, fnil, ev_oNone, ev_dicN, ev_disp, ev_tyes, snil, spass, sbrk, scnt, sretn, wp_some, ob_some, cd_true,
  List.map_cons, List.map_nil, List.replicate, List.cons_append, List.nil_append, List.append_nil, List.set_cons_zero, List.set_cons_succ, List.length_cons, List.length_nil, Nat.reduceSub, Nat.reduceAdd, Nat.reduceLeDiff, Nat.zero_add, Nat.zero_le, Bool.not_true, Bool.not_false, gSet, gTupF, gConsF, gNilF, dAdd_int, dSub_int, dIdx_tup, dCut_tup, dCut_tl, dRev_tup, bLen_tup, bLen_tl, bList_tup, bList_tl, bTuple_tl, bTuple_tup, bListS_tup, bListS_tl, dIdx_tl, extOf_tup, extOf_tl, lstOf_tl, lstOf_ref, items_tl, items_tup, dAdd_tup, dAdd_tl, List.length_append, atI3, atI4, atI5, cEq_int, cNe_int, atI0, atI1, atI2, tag_non, tag_bl, tag_int, tag_str, tag_tup, tag_tl, tag_sl, isTag, reduceCtorEq, decide_true, decide_false, tru_non, tru_bl, tru_int, tru_tup, tru_tl, tru_sl, Bool.false_eq_true, if_true, if_false, reduceIte, Int.cast_ofNat_Int, cast0, cast1, Int.reduceEq, Int.reduceLE, Int.reduceLT, Int.reduceToNat, Int.reduceAdd, Int.reduceSub, Int.reduceNeg, cLt_int, cLe_int, cGt_int, cGe_int, and_self, rangeD_zero, rangeD_succ, Option.isSome_some, Option.isSome_none, List.isEmpty_nil, List.isEmpty_cons])
local macro_rules | `(tactic| walk_at "evs") => `(tactic| simp only [↓ev_bin, ↓kbin, ↓kbin2, ↓kv, ↓kbl, ↓ev_cmp, ↓kcmp, ↓kcmp2, ↓ev_chain, ↓kch, ↓kch2, kch3_t, kch3_f, ↓ev_cons, ↓kcons, ↓kcons2, ↓ev_tup, ↓ktup, ↓ev_lst, ↓klst, ↓ev_lstS, ↓klstS, ↓ev_neg, ↓kneg, ↓ev_or, ↓kor, kor2_t, kor2_f, ↓ev_and, ↓kand, kand2_t, kand2_f, ↓ev_not, ↓knot, ↓knt, kif_t, kif_f, ↓ev_ite, ↓ev_oSome, ↓kos, ↓ev_cut, ↓kcut, ↓kcut2, ↓kcut3, ↓ev_call, ↓kcall, ↓ev_blt, ↓kblt, ↓ev_isi, ↓kisi, ↓ktg, ↓ev_rev, ↓krev, ↓ev_addS, ↓kas, ↓kas2, ↓kas25, ↓kas3, ↓kfn_rt, ↓kfn_nx, ↓ev_tcmp, ↓ktc, ↓ktc2, ↓ev_tchain, ↓ktch, ↓ev_tru, ↓ktru, ↓ev_tand, ktand_t, ktand_f, ↓ev_tor, ktor_t, ktor_f, ↓ev_tnot, ↓ktnot, ↓ev_tite, ↓ev_seq, kt_nx, kt_rt, kt_bk, kt_ct, ↓ev_ret, ↓kret, ↓ev_expr, ↓kexpr, ↓ev_set, ↓kset, ↓knx, ↓ev_asg, ↓kasg, ↓ev_if, ↓ev_put, ↓kput, ↓kput1, ↓kputs, ↓kput2, ↓ev_aug, ↓kaug, ↓kaug2, ↓kaug3, ↓ev_app, ↓kapp, ↓kapp15, ↓kapp2, ↓kapp3, ↓ev_ext, ↓kext, ↓kext15, ↓kext2, ↓kext3, ↓kext4, ↓ev_for, ↓kfor, kinv_nx, kinv_ct, kinv_bk, kinv_rt, ↓kturn, ↓ev_ival, ↓kiv, ↓ev_range1, ↓kr1, ↓ktl, ↓ev_comp, ↓kcomp, wipe_nil, wipe_cons,
  fv0, fvS, fcon, fnil, ev_oNone, ev_dicN, ev_disp, ev_tyes, snil, spass, sbrk, scnt, sretn, wp_some, ob_some, cd_true,
  List.map_cons, List.map_nil, List.replicate, List.cons_append, List.nil_append, List.append_nil, List.set_cons_zero, List.set_cons_succ, List.length_cons, List.length_nil, Nat.reduceSub, Nat.reduceAdd, Nat.reduceLeDiff, Nat.zero_add, Nat.zero_le, Bool.not_true, Bool.not_false, gSet, gTupF, gConsF, gNilF, dAdd_int, dSub_int, dIdx_tup, dCut_tup, dCut_tl, dRev_tup, bLen_tup, bLen_tl, bList_tup, bList_tl, bTuple_tl, bTuple_tup, bListS_tup, bListS_tl, dIdx_tl, extOf_tup, extOf_tl, lstOf_tl, lstOf_ref, items_tl, items_tup, dAdd_tup, dAdd_tl, List.length_append, atI3, atI4, atI5, cEq_int, cNe_int, atI0, atI1, atI2, tag_non, tag_bl, tag_int, tag_str, tag_tup, tag_tl, tag_sl, isTag, reduceCtorEq, decide_true, decide_false, tru_non, tru_bl, tru_int, tru_tup, tru_tl, tru_sl, Bool.false_eq_true, if_true, if_false, reduceIte, Int.cast_ofNat_Int, cast0, cast1, Int.reduceEq, Int.reduceLE, Int.reduceLT, Int.reduceToNat, Int.reduceAdd, Int.reduceSub, Int.reduceNeg, cLt_int, cLe_int, cGt_int, cGe_int, and_self, rangeD_zero, rangeD_succ, Option.isSome_some, Option.isSome_none, List.isEmpty_nil, List.isEmpty_cons, *])
theorem names_ok2 {st : Store} {n : Nat} {m : Nat} (h : Fd n st) (hm : m ≤ 1000) :
    Wp (L_names [.ref n, .int m] st) (fun d st' => ∃ ns r t, d = .tl ns ∧ Nms ns r m t ∧ Fr n st st') := by
  unfold L_names
  rw [ev_fn]
  refine ⟨rfl, ?_⟩
  rw [show ("abcdefghijklmnopqrstuvwxyz" : Str) = abc from rfl]
  walk_at "ev"
  refine (take_ok h (m := 26) (by omega) (by omega)).mono fun d st1 hd => ?_
  obtain ⟨r, rfl, r0, r1, f1⟩ := hd
  walk_at "ev"
  refine (take_ok f1.fd (m := 26) (by omega) (by omega)).mono fun d st2 hd => ?_
  obtain ⟨r2, rfl, r20, r21, f2⟩ := hd
  obtain ⟨c, hc, e1⟩ := abc_at r20 r21
  walk_at "ev"
  simp only [e1]
  walk_at "ev"
  refine (take_ok f2.fd (m := 8) (by omega) (by omega)).mono fun d st3 hd => ?_
  obtain ⟨r3, rfl, r30, r31, f3⟩ := hd
  have e2 : ∀ st, dMul (.str ⟨#[c]⟩) (.int r3) st = some (.str ⟨(List.replicate r3.toNat [c]).flatten.toArray⟩) := by
    intro st
    show (if decide ((⟨#[c]⟩ : Str).length ≤ 1000) && decide (-1000 ≤ r3) && decide (r3 ≤ 1000) then some (D.str ⟨(List.replicate r3.toNat [c]).flatten.toArray⟩) else none) = _
    rw [if_pos]
    simp [Str.length]
    omega
  walk_at "ev"
  simp only [e2]
  have c1 : (-4611686018427387904 ≤ (m : Int) ∧ (m : Int) < 4611686018427387904) = True := by simp; omega
  have c2 : (rangeD 0 (m : Int).toNat).length ≤ 16777216 := by simp [rangeD]; omega
  walk_at "evs"
  obtain ⟨rn, rfl⟩ := Int.eq_ofNat_of_zero_le r0
  rw [compN_map (f := fun d => match d with | .int i => nmD rn (List.replicate r3.toNat [c]).flatten i.toNat | _ => .non)]
  · rw [wp_some, ktl, kret, kfn_rt]
    refine ⟨_, rn, (List.replicate r3.toNat [c]).flatten, rfl, ⟨by omega, by simp; omega, ?_, ?_⟩, (f1.trans f2).trans f3⟩
    · apply List.all_eq_true.mpr
      intro y hy
      simp at hy
      rw [hy.2]
      exact hc
    · unfold rangeD
      rw [List.map_map]
      simp only [Int.toNat_natCast]
      refine List.map_congr_left fun i _ => ?_
      simp
  · intro d hd
    obtain ⟨i, hi, rfl⟩ := List.mem_map.mp hd
    have hi' := List.mem_range.mp hi
    refine ⟨_, rfl, ?_⟩
    apply wp_eq
    have hc5 : cMul 5 (0 + (i : Int)) = true := by
      unfold cMul
      rw [decide_eq_true (show -(2 ^ 64 : Int) < 5 by omega), decide_eq_true (show (5 : Int) < 2 ^ 64 by omega)]
      rfl
    have h3' := abc_idx (j := (rn + 5 * i) % 26) (Nat.mod_lt _ (by omega))
    have e5 : ((rn : Int) + 5 * (0 + (i : Int))) % 26 = (((rn + 5 * i) % 26 : Nat) : Int) := by omega
    have dm := fun i j st => dMul_int i j st
    have dmod := fun i st => dMod_int (i := i) (show (0 : Int) < 26 by omega) st
    walk_at "ev"
    simp only [dm, hc5, if_true]
    walk_at "ev"
    simp only [dmod]
    walk_at "ev"
    rw [e5, h3']
    walk_at "ev"
    have ea : ∀ st, dAdd (.str ⟨#[97 + (rn + 5 * i) % 26]⟩) (.str ⟨(List.replicate r3.toNat [c]).flatten.toArray⟩) st = some (nmD rn (List.replicate r3.toNat [c]).flatten i) := by
      intro st
      show (if (⟨#[97 + (rn + 5 * i) % 26]⟩ : Str).length + (⟨(List.replicate r3.toNat [c]).flatten.toArray⟩ : Str).length ≤ 16777216 then some (D.str (⟨#[97 + (rn + 5 * i) % 26]⟩ ++ ⟨(List.replicate r3.toNat [c]).flatten.toArray⟩)) else none) = _
      rw [if_pos (by simp [Str.length]; omega)]
      congr 2
      apply str_eqT
      show (#[97 + (rn + 5 * i) % 26] ++ (List.replicate r3.toNat [c]).flatten.toArray).toList = (97 + (rn + 5 * i) % 26) :: (List.replicate r3.toNat [c]).flatten
      simp
    rw [ea, ob_some, kv]
    exact ⟨by simp, rfl⟩
end Vm
namespace k03
open PySem PySem.Spec PyProof.Rows L2 Vm
def topS (i : Nat) : Stmt := PySem.Challenge.pw_cellvouch_k03_what_is_a_claim.main.body.getD i (.Pass ⟨0, 0, 0, 0⟩)
structure Tx (mg : Str → Option Value) : Prop where
  n_abs : mg "abs" = none
  n_all : mg "all" = none
  n_bool : mg "bool" = none
  n_int : mg "int" = none
  n_isinstance : mg "isinstance" = none
  n_len : mg "len" = none
  n_list : mg "list" = none
  n_max : mg "max" = none
  n_min : mg "min" = none
  n_range : mg "range" = none
  n_repr : mg "repr" = none
  n_set : mg "set" = none
  n_sorted : mg "sorted" = none
  n_str : mg "str" = none
  n_tuple : mg "tuple" = none
  c_LARGEST : ∃ t, mg "LARGEST" = some (.int 999999999 t)
  c_MOST_FACTS : ∃ t, mg "MOST_FACTS" = some (.int 4 t)
  c_MOST_LETTERS : ∃ t, mg "MOST_LETTERS" = some (.int 8 t)
  c_MOST_PARTS : ∃ t, mg "MOST_PARTS" = some (.int 5 t)
  c_MOST_PIECES : ∃ t, mg "MOST_PIECES" = some (.int 6 t)
abbrev N_is_whole : List Str := ["thing"]
theorem sc_is_whole : FnScope N_is_whole ["thing"] (defScope (topS 4)) := ⟨rfl, rfl, rfl, by decide +kernel, rfl, by decide +kernel, by decide +kernel⟩
noncomputable def B_is_whole : FS := sRet (fAnd (fIsi .int (fVar 0)) (fNot (fIsi .bl (fVar 0))))
noncomputable def F_is_whole : FnF := fnD 1 1 B_is_whole
abbrev N_is_name : List Str := ["thing", "letter"]
theorem sc_is_name : FnScope N_is_name ["thing"] (defScope (topS 5)) := ⟨rfl, rfl, rfl, by decide +kernel, rfl, by decide +kernel, by decide +kernel⟩
noncomputable def B_is_name : FS := sSeq (sIf (tOrF (tNotF (tTru (fIsi .str (fVar 0)))) (tNotF (tChainF cLe cLe (fCon (.int 1)) (fBlt bLen (fCons (fVar 0) (fNil))) (fCon (.int 8))))) (sRet (fCon (.bl false))) (sNil))
  (sRet (fBlt bAll (fCons (fComp [1] (iVal (fVar 0)) (gSet 1) (tYesF) (fChain cLe cLe (fCon (.str "a")) (fVar 1) (fCon (.str "z")))) (fNil))))
noncomputable def F_is_name : FnF := fnD 1 2 B_is_name
abbrev N_terms_in : List Str := ["item", "kind", "term"]
theorem sc_terms_in : FnScope N_terms_in ["item"] (defScope (topS 16)) := ⟨rfl, rfl, rfl, by decide +kernel, rfl, by decide +kernel, by decide +kernel⟩
noncomputable def B_terms_in : FS := sSeq (sIf (tCmpF cNe (fBin dIdx (fVar 0) (fCon (.int 0))) (fCon (.str "row"))) (sRet (fBlt bList (fCons (fCut (fVar 0) (oSome (fCon (.int 1))) (oNone)) (fNil)))) (sNil))
  (sRet (fBin dAdd (fLst (fCons (fBin dIdx (fVar 0) (fCon (.int 1))) (fCons (fBin dIdx (fVar 0) (fCon (.int 2))) (fNil)))) (fComp [1, 2] (iVal (fBin dIdx (fVar 0) (fCon (.int 3)))) (gTupF 2 (gConsF (gSet 1) (gConsF (gSet 2) (gNilF)))) (tCmpF cEq (fVar 1) (fCon (.str "one"))) (fVar 2))))
noncomputable def F_terms_in : FnF := fnD 1 3 B_terms_in
abbrev N_rows_in : List Str := ["item", "kind", "name"]
theorem sc_rows_in : FnScope N_rows_in ["item"] (defScope (topS 17)) := ⟨rfl, rfl, rfl, by decide +kernel, rfl, by decide +kernel, by decide +kernel⟩
noncomputable def B_rows_in : FS := sSeq (sIf (tCmpF cNe (fBin dIdx (fVar 0) (fCon (.int 0))) (fCon (.str "row"))) (sRet (fLst (fNil))) (sNil))
  (sRet (fComp [1, 2] (iVal (fBin dIdx (fVar 0) (fCon (.int 3)))) (gTupF 2 (gConsF (gSet 1) (gConsF (gSet 2) (gNilF)))) (tCmpF cNe (fVar 1) (fCon (.str "one"))) (fVar 2)))
noncomputable def F_rows_in : FnF := fnD 1 3 B_rows_in
abbrev N__law_feed : List Str := ["script", "k", "cell", "digits", "state"]
theorem sc__law_feed : FnScope N__law_feed ["script", "k"] (defScope (topS 21)) := ⟨rfl, rfl, rfl, by decide +kernel, rfl, by decide +kernel, by decide +kernel⟩
noncomputable def B__law_feed : FS := sSeq (sSet 2 (fIte (tCmpF cLt (fVar 1) (fBlt bLen (fCons (fVar 0) (fNil)))) (fBin dIdx (fVar 0) (fVar 1)) (fBin dAdd (fBin dMul (fCon (.int 71)) (fVar 1)) (fCon (.int 23)))))
  (sSeq (sSet 3 (fBlt bMax (fCons (fCon (.int 0)) (fCons (fBin dSub (fBlt bAbs (fCons (fVar 2) (fNil))) (fBin dPow (fCon (.int 10)) (fCon (.int 18)))) (fNil)))))
  (sSeq (sSet 4 (fBin dMod (fBin dAdd (fBin dAdd (fBin dMul (fVar 2) (fCon (.int 6364136223846793005))) (fBin dMul (fCon (.int 9973)) (fVar 1))) (fCon (.int 1442695040888963407))) (fCon (.int 2305843009213693951))))
  (sRet (fLstS (fCons (fVar 3) (fCons (fVar 4) (fNil)))))))
noncomputable def F__law_feed : FnF := fnD 2 5 B__law_feed
abbrev N__law_take : List Str := ["feed", "many", "found"]
theorem sc__law_take : FnScope N__law_take ["feed", "many"] (defScope (topS 22)) := ⟨rfl, rfl, rfl, by decide +kernel, rfl, by decide +kernel, by decide +kernel⟩
noncomputable def B__law_take : FS := sSeq (sIf (tCmpF cGt (fBin dIdx (fVar 0) (fCon (.int 0))) (fCon (.int 0))) (sSeq (sSet 2 (fBin dMod (fBin dIdx (fVar 0) (fCon (.int 0))) (fVar 1)))
  (sSeq (sPut (fVar 0) (fCon (.int 0)) (fBin dFdiv (fBin dIdx (fVar 0) (fCon (.int 0))) (fVar 1)))
  (sRet (fVar 2)))) (sNil))
  (sSeq (sPut (fVar 0) (fCon (.int 1)) (fBin dMod (fBin dAdd (fBin dMul (fBin dIdx (fVar 0) (fCon (.int 1))) (fCon (.int 6364136223846793005))) (fCon (.int 1442695040888963407))) (fCon (.int 2305843009213693951))))
  (sRet (fBin dMod (fBin dFdiv (fBin dIdx (fVar 0) (fCon (.int 1))) (fCon (.int 65536))) (fVar 1))))
noncomputable def F__law_take : FnF := fnD 2 3 B__law_take
abbrev N__law_whole : List Str := ["thing"]
theorem sc__law_whole : FnScope N__law_whole ["thing"] (defScope (topS 26)) := ⟨rfl, rfl, rfl, by decide +kernel, rfl, by decide +kernel, by decide +kernel⟩
noncomputable def B__law_whole : FS := sRet (fAnd (fIsi .int (fVar 0)) (fNot (fIsi .bl (fVar 0))))
noncomputable def F__law_whole : FnF := fnD 1 1 B__law_whole
abbrev N__law_is_name : List Str := ["thing", "sign"]
theorem sc__law_is_name : FnScope N__law_is_name ["thing"] (defScope (topS 27)) := ⟨rfl, rfl, rfl, by decide +kernel, rfl, by decide +kernel, by decide +kernel⟩
noncomputable def B__law_is_name : FS := sSeq (sIf (tOrF (tNotF (tTru (fIsi .str (fVar 0)))) (tOrF (tCmpF cEq (fVar 0) (fCon (.str ""))) (tCmpF cGt (fBlt bLen (fCons (fVar 0) (fNil))) (fCon (.int 8))))) (sRet (fCon (.bl false))) (sNil))
  (sRet (fCmp cEq (fComp [1] (iVal (fVar 0)) (gSet 1) (tCmpF cNotIn (fVar 1) (fCon (.str "abcdefghijklmnopqrstuvwxyz"))) (fVar 1)) (fLst (fNil))))
noncomputable def F__law_is_name : FnF := fnD 1 2 B__law_is_name
abbrev N__law_names_in : List Str := ["item", "terms", "rows", "sort", "inner", "term"]
theorem sc__law_names_in : FnScope N__law_names_in ["item"] (defScope (topS 32)) := ⟨rfl, rfl, rfl, by decide +kernel, rfl, by decide +kernel, by decide +kernel⟩
noncomputable def B__law_names_in : FS := sSeq (sSet 1 (fIte (tCmpF cEq (fBin dIdx (fVar 0) (fCon (.int 0))) (fCon (.str "row"))) (fBlt bListS (fCons (fCut (fVar 0) (oSome (fCon (.int 1))) (oSome (fCon (.int 3)))) (fNil))) (fBlt bListS (fCons (fCut (fVar 0) (oSome (fCon (.int 1))) (oNone)) (fNil)))))
  (sSeq (sSet 2 (fLstS (fNil)))
  (sSeq (sFor (iVal (fIte (tCmpF cEq (fBin dIdx (fVar 0) (fCon (.int 0))) (fCon (.str "row"))) (fBin dIdx (fVar 0) (fCon (.int 3))) (fTup (fNil)))) (gTupF 2 (gConsF (gSet 3) (gConsF (gSet 4) (gNilF)))) (sIf (tCmpF cEq (fVar 3) (fCon (.str "one"))) (sApp (fVar 1) (fVar 4)) (sApp (fVar 2) (fVar 4))))
  (sRet (fTup (fCons (fComp [5] (iVal (fVar 1)) (gSet 5) (tTru (fIsi .str (fVar 5))) (fVar 5)) (fCons (fVar 2) (fNil)))))))
noncomputable def F__law_names_in : FnF := fnD 1 6 B__law_names_in
abbrev N__law_may_bend : List Str := ["thing", "item", "one"]
theorem sc__law_may_bend : FnScope N__law_may_bend ["thing"] (defScope (topS 39)) := ⟨rfl, rfl, rfl, by decide +kernel, rfl, by decide +kernel, by decide +kernel⟩
noncomputable def B__law_may_bend : FS := sSeq (sIf (tOrF (tNotF (tTru (fIsi .tup (fVar 0)))) (tOrF (tCmpF cNe (fBlt bLen (fCons (fVar 0) (fNil))) (fCon (.int 2))) (tCmpF cIn (fCon (.bl false)) (fComp [2] (iVal (fVar 0)) (gSet 2) (tYesF) (fIsi .tup (fVar 2)))))) (sRet (fCon (.bl false))) (sNil))
  (sRet (fCmp cEq (fComp [1] (iVal (fBin dAdd (fBin dIdx (fVar 0) (fCon (.int 0))) (fBin dIdx (fVar 0) (fCon (.int 1))))) (gSet 1) (tOrF (tNotF (tTru (fIsi .tup (fVar 1)))) (tCmpF cEq (fVar 1) (fTup (fNil)))) (fVar 1)) (fLst (fNil))))
noncomputable def F__law_may_bend : FnF := fnD 1 3 B__law_may_bend
abbrev N_is_term : List Str := ["thing"]
theorem sc_is_term : FnScope N_is_term ["thing"] (defScope (topS 6)) := ⟨rfl, rfl, rfl, by decide +kernel, rfl, by decide +kernel, by decide +kernel⟩
noncomputable def B_is_term : FS := sRet (fOr (fCall 1 F_is_name (fCons (fVar 0) (fNil))) (fAnd (fCall 1 F_is_whole (fCons (fVar 0) (fNil))) (fChain cLe cLe (fNeg (fCon (.int 999999999))) (fVar 0) (fCon (.int 999999999)))))
noncomputable def F_is_term : FnF := fnD 1 1 B_is_term
abbrev N_term_names : List Str := ["claim", "terms", "item", "term"]
theorem sc_term_names : FnScope N_term_names ["claim"] (defScope (topS 18)) := ⟨rfl, rfl, rfl, by decide +kernel, rfl, by decide +kernel, by decide +kernel⟩
noncomputable def B_term_names : FS := sSeq (sSet 1 (fLstS (fNil)))
  (sSeq (sFor (iVal (fBin dAdd (fBin dIdx (fVar 0) (fCon (.int 0))) (fBin dIdx (fVar 0) (fCon (.int 1))))) (gSet 2) (sExt (fVar 1) (fCall 1 F_terms_in (fCons (fVar 2) (fNil)))))
  (sRet (fSortSet (fComp [3] (iVal (fVar 1)) (gSet 3) (tTru (fCall 1 F_is_name (fCons (fVar 3) (fNil)))) (fVar 3)))))
noncomputable def F_term_names : FnF := fnD 1 4 B_term_names
abbrev N_row_names : List Str := ["claim", "names", "part"]
theorem sc_row_names : FnScope N_row_names ["claim"] (defScope (topS 19)) := ⟨rfl, rfl, rfl, by decide +kernel, rfl, by decide +kernel, by decide +kernel⟩
noncomputable def B_row_names : FS := sSeq (sSet 1 (fLstS (fNil)))
  (sSeq (sFor (iVal (fBin dIdx (fVar 0) (fCon (.int 0)))) (gSet 2) (sExt (fVar 1) (fCall 1 F_rows_in (fCons (fVar 2) (fNil)))))
  (sRet (fSortSet (fVar 1))))
noncomputable def F_row_names : FnF := fnD 1 3 B_row_names
abbrev N__law_pick : List Str := ["feed", "some"]
theorem sc__law_pick : FnScope N__law_pick ["feed", "some"] (defScope (topS 23)) := ⟨rfl, rfl, rfl, by decide +kernel, rfl, by decide +kernel, by decide +kernel⟩
noncomputable def B__law_pick : FS := sRet (fBin dIdx (fVar 1) (fCall 2 F__law_take (fCons (fVar 0) (fCons (fBlt bLen (fCons (fVar 1) (fNil))) (fNil)))))
noncomputable def F__law_pick : FnF := fnD 2 2 B__law_pick
abbrev N__law_names : List Str := ["feed", "many", "letters", "first", "tail", "k"]
theorem sc__law_names : FnScope N__law_names ["feed", "many"] (defScope (topS 24)) := ⟨rfl, rfl, rfl, by decide +kernel, rfl, by decide +kernel, by decide +kernel⟩
noncomputable def B__law_names : FS := sSeq (sSet 2 (fCon (.str "abcdefghijklmnopqrstuvwxyz")))
  (sSeq (sSet 3 (fCall 2 F__law_take (fCons (fVar 0) (fCons (fCon (.int 26)) (fNil)))))
  (sSeq (sSet 4 (fBin dMul (fBin dIdx (fVar 2) (fCall 2 F__law_take (fCons (fVar 0) (fCons (fCon (.int 26)) (fNil))))) (fCall 2 F__law_take (fCons (fVar 0) (fCons (fCon (.int 8)) (fNil))))))
  (sRet (fComp [5] (iRange1 (fCons (fVar 1) (fNil))) (gSet 5) (tYesF) (fBin dAdd (fBin dIdx (fVar 2) (fBin dMod (fBin dAdd (fVar 3) (fBin dMul (fCon (.int 5)) (fVar 5))) (fCon (.int 26)))) (fVar 4))))))
noncomputable def F__law_names : FnF := fnD 2 6 B__law_names
abbrev N__law_is_term : List Str := ["thing"]
theorem sc__law_is_term : FnScope N__law_is_term ["thing"] (defScope (topS 28)) := ⟨rfl, rfl, rfl, by decide +kernel, rfl, by decide +kernel, by decide +kernel⟩
noncomputable def B__law_is_term : FS := sRet (fOr (fCall 1 F__law_is_name (fCons (fVar 0) (fNil))) (fAnd (fCall 1 F__law_whole (fCons (fVar 0) (fNil))) (fChain cLt cLt (fNeg (fBin dPow (fCon (.int 10)) (fCon (.int 9)))) (fVar 0) (fBin dPow (fCon (.int 10)) (fCon (.int 9))))))
noncomputable def F__law_is_term : FnF := fnD 1 1 B__law_is_term
abbrev N_is_piece : List Str := ["thing", "kind", "term"]
theorem sc_is_piece : FnScope N_is_piece ["thing"] (defScope (topS 7)) := ⟨rfl, rfl, rfl, by decide +kernel, rfl, by decide +kernel, by decide +kernel⟩
noncomputable def B_is_piece : FS := sSeq (sIf (tOrF (tNotF (tTru (fIsi .tup (fVar 0)))) (tCmpF cNe (fBlt bLen (fCons (fVar 0) (fNil))) (fCon (.int 2)))) (sRet (fCon (.bl false))) (sNil))
  (sSeq (sAsg (gTupF 2 (gConsF (gSet 1) (gConsF (gSet 2) (gNilF)))) (fVar 0))
  (sSeq (sIf (tCmpF cEq (fVar 1) (fCon (.str "one"))) (sRet (fCall 1 F_is_term (fCons (fVar 2) (fNil)))) (sNil))
  (sRet (fAnd (fCmp cIn (fVar 1) (fTup (fCons (fCon (.str "row")) (fCons (fCon (.str "back")) (fNil))))) (fCall 1 F_is_name (fCons (fVar 2) (fNil)))))))
noncomputable def F_is_piece : FnF := fnD 1 3 B_is_piece
abbrev N_is_fact : List Str := ["thing"]
theorem sc_is_fact : FnScope N_is_fact ["thing"] (defScope (topS 13)) := ⟨rfl, rfl, rfl, by decide +kernel, rfl, by decide +kernel, by decide +kernel⟩
noncomputable def B_is_fact : FS := sSeq (sIf (tOrF (tNotF (tTru (fIsi .tup (fVar 0)))) (tCmpF cNe (fBlt bLen (fCons (fVar 0) (fNil))) (fCon (.int 3)))) (sRet (fCon (.bl false))) (sNil))
  (sRet (fAnd (fCmp cIn (fBin dIdx (fVar 0) (fCon (.int 0))) (fTup (fCons (fCon (.str "same")) (fCons (fCon (.str "apart")) (fNil))))) (fAnd (fCall 1 F_is_term (fCons (fBin dIdx (fVar 0) (fCon (.int 1))) (fNil))) (fCall 1 F_is_term (fCons (fBin dIdx (fVar 0) (fCon (.int 2))) (fNil))))))
noncomputable def F_is_fact : FnF := fnD 1 1 B_is_fact
abbrev N__law_number : List Str := ["feed", "far"]
theorem sc__law_number : FnScope N__law_number ["feed"] (defScope (topS 25)) := ⟨rfl, rfl, rfl, by decide +kernel, rfl, by decide +kernel, by decide +kernel⟩
noncomputable def B__law_number : FS := sSeq (sSet 1 (fLst (fCons (fBin dSub (fBin dPow (fCon (.int 10)) (fCon (.int 9))) (fCon (.int 1))) (fCons (fBin dSub (fCon (.int 1)) (fBin dPow (fCon (.int 10)) (fCon (.int 9)))) (fCons (fBin dSub (fCall 2 F__law_take (fCons (fVar 0) (fCons (fBin dPow (fCon (.int 10)) (fCon (.int 9))) (fNil)))) (fBin dMul (fCon (.int 5)) (fBin dPow (fCon (.int 10)) (fCon (.int 8))))) (fNil))))))
  (sRet (fCall 2 F__law_pick (fCons (fVar 0) (fCons (fLst (fCons (fCon (.int 0)) (fCons (fCon (.int 1)) (fCons (fNeg (fCon (.int 1))) (fCons (fCall 2 F__law_take (fCons (fVar 0) (fCons (fCon (.int 9)) (fNil)))) (fCons (fCall 2 F__law_take (fCons (fVar 0) (fCons (fCon (.int 60)) (fNil)))) (fCons (fCall 2 F__law_pick (fCons (fVar 0) (fCons (fVar 1) (fNil)))) (fNil)))))))) (fNil)))))
noncomputable def F__law_number : FnF := fnD 1 2 B__law_number
abbrev N__law_is_word : List Str := ["thing", "piece"]
theorem sc__law_is_word : FnScope N__law_is_word ["thing"] (defScope (topS 29)) := ⟨rfl, rfl, rfl, by decide +kernel, rfl, by decide +kernel, by decide +kernel⟩
noncomputable def B__law_is_word : FS := sSeq (sIf (tOrF (tNotF (tTru (fIsi .tup (fVar 0)))) (tCmpF cGt (fBlt bLen (fCons (fVar 0) (fNil))) (fCon (.int 6)))) (sRet (fCon (.bl false))) (sNil))
  (sSeq (sFor (iVal (fVar 0)) (gSet 1) (sSeq (sIf (tOrF (tNotF (tTru (fIsi .tup (fVar 1)))) (tCmpF cNe (fBlt bLen (fCons (fVar 1) (fNil))) (fCon (.int 2)))) (sRet (fCon (.bl false))) (sNil))
  (sSeq (sIf (tCmpF cNotIn (fBin dIdx (fVar 1) (fCon (.int 0))) (fLst (fCons (fCon (.str "one")) (fCons (fCon (.str "row")) (fCons (fCon (.str "back")) (fNil)))))) (sRet (fCon (.bl false))) (sNil))
  (sIf (tNotF (tIteF (tCmpF cEq (fBin dIdx (fVar 1) (fCon (.int 0))) (fCon (.str "one"))) (tTru (fCall 1 F__law_is_term (fCons (fBin dIdx (fVar 1) (fCon (.int 1))) (fNil)))) (tTru (fCall 1 F__law_is_name (fCons (fBin dIdx (fVar 1) (fCon (.int 1))) (fNil)))))) (sRet (fCon (.bl false))) (sNil)))))
  (sRet (fCon (.bl true))))
noncomputable def F__law_is_word : FnF := fnD 1 2 B__law_is_word
abbrev N__law_odd : List Str := ["feed", "some"]
theorem sc__law_odd : FnScope N__law_odd ["feed"] (defScope (topS 31)) := ⟨rfl, rfl, rfl, by decide +kernel, rfl, by decide +kernel, by decide +kernel⟩
noncomputable def B__law_odd : FS := sSeq (sSet 1 (fLst (fCons (fCon .non) (fCons (fCon (.bl true)) (fCons (fCon (.bl false)) (fCons (fCon (.str "")) (fCons (fCon (.str "A")) (fCons (fCon (.str "a b")) (fCons (fCon (.str "abcdefghi")) (fCons (fCon (.str "a-")) (fCons (fCon (.str "1")) (fCons (fCon (.str "~a")) (fCons (fCon (.str " a")) (fCons (fCon (.str "a\n")) (fCons (fLst (fNil)) (fCons (fTup (fNil)) (fCons (fLst (fCons (fCon (.str "one")) (fCons (fCon (.int 1)) (fNil)))) (fNil))))))))))))))))))
  (sSeq (sSet 1 (fBin dAdd (fVar 1) (fLst (fCons (fTup (fCons (fCon (.str "one")) (fNil))) (fCons (fTup (fCons (fCon (.str "row")) (fCons (fCon (.str "a")) (fCons (fCon (.str "b")) (fNil))))) (fCons (fTup (fCons (fCon (.str "one")) (fCons (fCon (.int 1)) (fNil)))) (fCons (fLst (fCons (fTup (fCons (fCon (.str "row")) (fCons (fCon (.str "a")) (fNil)))) (fNil))) (fCons (fTup (fCons (fTup (fNil)) (fNil))) (fCons (fCon (.str "row")) (fCons (fTup (fCons (fCon (.str "two")) (fCons (fCon (.int 1)) (fNil)))) (fNil)))))))))))
  (sSeq (sSet 1 (fBin dAdd (fVar 1) (fLst (fCons (fCon (.int 0)) (fCons (fNeg (fCon (.int 7))) (fCons (fCon (.str "tail")) (fNil)))))))
  (sRet (fCall 2 F__law_pick (fCons (fVar 0) (fCons (fVar 1) (fNil)))))))
noncomputable def F__law_odd : FnF := fnD 1 2 B__law_odd
abbrev N_is_word : List Str := ["thing", "piece"]
theorem sc_is_word : FnScope N_is_word ["thing"] (defScope (topS 8)) := ⟨rfl, rfl, rfl, by decide +kernel, rfl, by decide +kernel, by decide +kernel⟩
noncomputable def B_is_word : FS := sSeq (sIf (tOrF (tNotF (tTru (fIsi .tup (fVar 0)))) (tCmpF cGt (fBlt bLen (fCons (fVar 0) (fNil))) (fCon (.int 6)))) (sRet (fCon (.bl false))) (sNil))
  (sRet (fBlt bAll (fCons (fComp [1] (iVal (fVar 0)) (gSet 1) (tYesF) (fCall 1 F_is_piece (fCons (fVar 1) (fNil)))) (fNil))))
noncomputable def F_is_word : FnF := fnD 1 2 B_is_word
abbrev N__law_word : List Str := ["feed", "numbers", "rows", "most", "found", "turn", "some"]
theorem sc__law_word : FnScope N__law_word ["feed", "numbers", "rows", "most"] (defScope (topS 30)) := ⟨rfl, rfl, rfl, by decide +kernel, rfl, by decide +kernel, by decide +kernel⟩
noncomputable def B__law_word : FS := sSeq (sSet 4 (fLstS (fNil)))
  (sSeq (sFor (iRange1 (fCons (fCall 2 F__law_take (fCons (fVar 0) (fCons (fBin dAdd (fVar 3) (fCon (.int 1))) (fNil)))) (fNil))) (gSet 5) (sSeq (sSet 6 (fLst (fCons (fTup (fCons (fCon (.str "one")) (fCons (fCall 2 F__law_pick (fCons (fVar 0) (fCons (fVar 1) (fNil)))) (fNil)))) (fCons (fTup (fCons (fCon (.str "one")) (fCons (fCall 1 F__law_number (fCons (fVar 0) (fNil))) (fNil)))) (fNil)))))
  (sSeq (sSet 6 (fBin dAdd (fVar 6) (fLst (fCons (fTup (fCons (fCon (.str "row")) (fCons (fCall 2 F__law_pick (fCons (fVar 0) (fCons (fVar 2) (fNil)))) (fNil)))) (fCons (fTup (fCons (fCon (.str "back")) (fCons (fCall 2 F__law_pick (fCons (fVar 0) (fCons (fVar 2) (fNil)))) (fNil)))) (fNil))))))
  (sApp (fVar 4) (fCall 2 F__law_pick (fCons (fVar 0) (fCons (fVar 6) (fNil))))))))
  (sRet (fBlt bTuple (fCons (fVar 4) (fNil)))))
noncomputable def F__law_word : FnF := fnD 4 7 B__law_word
abbrev N__law_is_item : List Str := ["thing", "sorts", "terms", "term"]
theorem sc__law_is_item : FnScope N__law_is_item ["thing"] (defScope (topS 33)) := ⟨rfl, rfl, rfl, by decide +kernel, rfl, by decide +kernel, by decide +kernel⟩
noncomputable def B__law_is_item : FS := sSeq (sIf (tOrF (tNotF (tTru (fIsi .tup (fVar 0)))) (tCmpF cEq (fVar 0) (fTup (fNil)))) (sRet (fCon (.int 0))) (sNil))
  (sSeq (sSet 1 (fDisp [(.inr "cell", .int 4), (.inr "row", .int 4), (.inr "same", .int 3), (.inr "apart", .int 3)]))
  (sSeq (sIf (tOrF (tNotF (tTru (fIsi .str (fBin dIdx (fVar 0) (fCon (.int 0)))))) (tOrF (tCmpF cNotInA (fBin dIdx (fVar 0) (fCon (.int 0))) (fVar 1)) (tCmpF cNe (fBlt bLen (fCons (fVar 0) (fNil))) (fBin dIdxA (fVar 1) (fBin dIdx (fVar 0) (fCon (.int 0))))))) (sRet (fCon (.int 0))) (sNil))
  (sSeq (sSet 2 (fIte (tCmpF cEq (fBin dIdx (fVar 0) (fCon (.int 0))) (fCon (.str "row"))) (fCut (fVar 0) (oSome (fCon (.int 1))) (oSome (fCon (.int 3)))) (fCut (fVar 0) (oSome (fCon (.int 1))) (oNone))))
  (sSeq (sIf (tOrF (tCmpF cIn (fCon (.bl false)) (fComp [3] (iVal (fVar 2)) (gSet 3) (tYesF) (fCall 1 F__law_is_term (fCons (fVar 3) (fNil))))) (tAndF (tCmpF cEq (fBin dIdx (fVar 0) (fCon (.int 0))) (fCon (.str "row"))) (tNotF (tTru (fCall 1 F__law_is_word (fCons (fBin dIdx (fVar 0) (fCon (.int 3))) (fNil))))))) (sRet (fCon (.int 0))) (sNil))
  (sRet (fBlt bLen (fCons (fVar 0) (fNil))))))))
noncomputable def F__law_is_item : FnF := fnD 1 4 B__law_is_item
abbrev N__law_term : List Str := ["feed", "names"]
theorem sc__law_term : FnScope N__law_term ["feed", "names"] (defScope (topS 35)) := ⟨rfl, rfl, rfl, by decide +kernel, rfl, by decide +kernel, by decide +kernel⟩
noncomputable def B__law_term : FS := sRet (fCall 2 F__law_pick (fCons (fVar 0) (fCons (fBin dAdd (fBin dAdd (fVar 1) (fVar 1)) (fLst (fCons (fCon (.int 0)) (fCons (fCall 1 F__law_number (fCons (fVar 0) (fNil))) (fNil))))) (fNil))))
noncomputable def F__law_term : FnF := fnD 2 2 B__law_term
abbrev N__law_bent_item : List Str := ["feed", "item", "names", "rows", "at", "some"]
theorem sc__law_bent_item : FnScope N__law_bent_item ["feed", "item", "names", "rows"] (defScope (topS 37)) := ⟨rfl, rfl, rfl, by decide +kernel, rfl, by decide +kernel, by decide +kernel⟩
noncomputable def B__law_bent_item : FS := sSeq (sSet 4 (fCall 2 F__law_take (fCons (fVar 0) (fCons (fBin dAdd (fBlt bLen (fCons (fVar 1) (fNil))) (fCon (.int 1))) (fNil)))))
  (sSeq (sSet 5 (fLst (fCons (fBin dAdd (fBin dAdd (fCut (fVar 1) (oNone) (oSome (fVar 4))) (fTup (fCons (fCall 1 F__law_odd (fCons (fVar 0) (fNil))) (fNil)))) (fCut (fVar 1) (oSome (fBin dAdd (fVar 4) (fCon (.int 1)))) (oNone))) (fCons (fBin dAdd (fCut (fVar 1) (oNone) (oSome (fVar 4))) (fCut (fVar 1) (oSome (fBin dAdd (fVar 4) (fCon (.int 1)))) (oNone))) (fNil)))))
  (sSeq (sSet 5 (fBin dAdd (fVar 5) (fLst (fCons (fBin dAdd (fVar 1) (fCut (fVar 1) (oSome (fNeg (fCon (.int 1)))) (oNone))) (fCons (fBlt bList (fCons (fVar 1) (fNil))) (fNil))))))
  (sSeq (sSet 5 (fBin dAdd (fVar 5) (fLst (fCons (fTup (fCons (fCon (.str "row")) (fCons (fBin dIdx (fVar 2) (fCon (.int 0))) (fCons (fCon (.int 0)) (fCons (fTup (fCons (fTup (fCons (fCon (.str "back")) (fCons (fBin dIdx (fVar 2) (fCon (.int 1))) (fNil)))) (fNil))) (fNil)))))) (fCons (fTup (fCons (fCon (.str "cell")) (fCons (fBin dIdx (fVar 3) (fCon (.int 0))) (fCons (fCon (.int 0)) (fCons (fCon (.int 0)) (fNil)))))) (fCons (fTup (fCons (fCon (.str "same")) (fCons (fBin dIdx (fVar 3) (fCon (.int 0))) (fCons (fCon (.int 1)) (fNil))))) (fNil)))))))
  (sSeq (sSet 5 (fBin dAdd (fVar 5) (fLst (fCons (fTup (fCons (fCon (.str "row")) (fCons (fBin dIdx (fVar 2) (fCon (.int 0))) (fCons (fCon (.int 0)) (fCons (fTup (fCons (fCall 1 F__law_odd (fCons (fVar 0) (fNil))) (fNil))) (fNil)))))) (fCons (fTup (fCons (fCon (.str "row")) (fCons (fBin dIdx (fVar 2) (fCon (.int 0))) (fCons (fCon (.int 0)) (fCons (fCall 1 F__law_odd (fCons (fVar 0) (fNil))) (fNil)))))) (fCons (fCall 1 F__law_odd (fCons (fVar 0) (fNil))) (fNil)))))))
  (sSeq (sSet 5 (fBin dAdd (fVar 5) (fLst (fCons (fBin dAdd (fTup (fCons (fCall 2 F__law_pick (fCons (fVar 0) (fCons (fLst (fCons (fCon (.str "cell")) (fCons (fCon (.str "row")) (fCons (fCon (.str "same")) (fCons (fCon (.str "apart")) (fCons (fCon (.str "cells")) (fCons (fCon (.str "")) (fNil)))))))) (fNil)))) (fNil))) (fCut (fVar 1) (oSome (fCon (.int 1))) (oNone))) (fCons (fTup (fCons (fVar 1) (fNil))) (fNil))))))
  (sRet (fCall 2 F__law_pick (fCons (fVar 0) (fCons (fVar 5) (fNil))))))))))
noncomputable def F__law_bent_item : FnF := fnD 4 6 B__law_bent_item
abbrev N_is_part : List Str := ["thing", "kind", "x", "third", "fourth"]
theorem sc_is_part : FnScope N_is_part ["thing"] (defScope (topS 12)) := ⟨rfl, rfl, rfl, by decide +kernel, rfl, by decide +kernel, by decide +kernel⟩
noncomputable def B_is_part : FS := sSeq (sIf (tOrF (tNotF (tTru (fIsi .tup (fVar 0)))) (tCmpF cNe (fBlt bLen (fCons (fVar 0) (fNil))) (fCon (.int 4)))) (sRet (fCon (.bl false))) (sNil))
  (sSeq (sAsg (gTupF 4 (gConsF (gSet 1) (gConsF (gSet 2) (gConsF (gSet 3) (gConsF (gSet 4) (gNilF)))))) (fVar 0))
  (sSeq (sIf (tCmpF cEq (fVar 1) (fCon (.str "cell"))) (sRet (fAnd (fCall 1 F_is_term (fCons (fVar 2) (fNil))) (fAnd (fCall 1 F_is_term (fCons (fVar 3) (fNil))) (fCall 1 F_is_term (fCons (fVar 4) (fNil)))))) (sNil))
  (sRet (fAnd (fCmp cEq (fVar 1) (fCon (.str "row"))) (fAnd (fCall 1 F_is_term (fCons (fVar 2) (fNil))) (fAnd (fCall 1 F_is_term (fCons (fVar 3) (fNil))) (fCall 1 F_is_word (fCons (fVar 4) (fNil)))))))))
noncomputable def F_is_part : FnF := fnD 1 5 B_is_part
abbrev N__law_is_claim : List Str := ["thing", "k", "numbers", "rows", "item", "name"]
theorem sc__law_is_claim : FnScope N__law_is_claim ["thing"] (defScope (topS 34)) := ⟨rfl, rfl, rfl, by decide +kernel, rfl, by decide +kernel, by decide +kernel⟩
noncomputable def B__law_is_claim : FS := sSeq (sIf (tOrF (tNotF (tTru (fIsi .tup (fVar 0)))) (tCmpF cNe (fBlt bLen (fCons (fVar 0) (fNil))) (fCon (.int 2)))) (sRet (fCon (.bl false))) (sNil))
  (sSeq (sFor (iRange1 (fCons (fCon (.int 2)) (fNil))) (gSet 1) (sSeq (sIf (tOrF (tNotF (tTru (fIsi .tup (fBin dIdx (fVar 0) (fVar 1))))) (tCmpF cGt (fBlt bLen (fCons (fBin dIdx (fVar 0) (fVar 1)) (fNil))) (fBin dSub (fCon (.int 5)) (fVar 1)))) (sRet (fCon (.bl false))) (sNil))
  (sIf (tCmpF cNe (fComp [4] (iVal (fBin dIdx (fVar 0) (fVar 1))) (gSet 4) (tCmpF cNe (fCall 1 F__law_is_item (fCons (fVar 4) (fNil))) (fBin dSub (fCon (.int 4)) (fVar 1))) (fVar 4)) (fLst (fNil))) (sRet (fCon (.bl false))) (sNil))))
  (sSeq (sSet 2 (fLst (fNil)))
  (sSeq (sSet 3 (fLst (fNil)))
  (sSeq (sFor (iVal (fBin dAdd (fBin dIdx (fVar 0) (fCon (.int 0))) (fBin dIdx (fVar 0) (fCon (.int 1))))) (gSet 4) (sSeq (sSet 2 (fBin dAdd (fVar 2) (fBin dIdx (fCall 1 F__law_names_in (fCons (fVar 4) (fNil))) (fCon (.int 0)))))
  (sSet 3 (fBin dAdd (fVar 3) (fBin dIdx (fCall 1 F__law_names_in (fCons (fVar 4) (fNil))) (fCon (.int 1)))))))
  (sRet (fCmp cEq (fComp [5] (iVal (fVar 3)) (gSet 5) (tCmpF cIn (fVar 5) (fVar 2)) (fVar 5)) (fLst (fNil))))))))
noncomputable def F__law_is_claim : FnF := fnD 1 6 B__law_is_claim
abbrev N__law_any_claim : List Str := ["feed", "names", "rows", "most", "parts", "turn", "facts", "some", "word", "k"]
theorem sc__law_any_claim : FnScope N__law_any_claim ["feed", "names", "rows", "most"] (defScope (topS 36)) := ⟨rfl, rfl, rfl, by decide +kernel, rfl, by decide +kernel, by decide +kernel⟩
noncomputable def B__law_any_claim : FS := sSeq (sSet 4 (fLstS (fNil)))
  (sSeq (sFor (iRange1 (fCons (fCall 2 F__law_take (fCons (fVar 0) (fCons (fBin dAdd (fVar 3) (fCon (.int 1))) (fNil)))) (fNil))) (gSet 5) (sSeq (sSet 7 (fComp [9] (iRange1 (fCons (fCon (.int 3)) (fNil))) (gSet 9) (tYesF) (fCall 2 F__law_term (fCons (fVar 0) (fCons (fVar 1) (fNil))))))
  (sSeq (sSet 8 (fCall 2 F__law_pick (fCons (fVar 0) (fCons (fLst (fCons (fTup (fCons (fTup (fCons (fCon (.str "row")) (fCons (fCall 2 F__law_pick (fCons (fVar 0) (fCons (fVar 2) (fNil)))) (fNil)))) (fNil))) (fCons (fCall 4 F__law_word (fCons (fVar 0) (fCons (fVar 1) (fCons (fVar 2) (fCons (fCon (.int 6)) (fNil)))))) (fNil)))) (fNil)))))
  (sApp (fVar 4) (fCall 2 F__law_pick (fCons (fVar 0) (fCons (fLst (fCons (fBin dAdd (fTup (fCons (fCon (.str "cell")) (fNil))) (fBlt bTuple (fCons (fVar 7) (fNil)))) (fCons (fTup (fCons (fCon (.str "row")) (fCons (fBin dIdx (fVar 7) (fCon (.int 0))) (fCons (fBin dIdx (fVar 7) (fCon (.int 1))) (fCons (fVar 8) (fNil)))))) (fNil)))) (fNil))))))))
  (sSeq (sSet 6 (fLstS (fNil)))
  (sSeq (sFor (iRange1 (fCons (fCall 2 F__law_take (fCons (fVar 0) (fCons (fVar 3) (fNil)))) (fNil))) (gSet 5) (sApp (fVar 6) (fTup (fCons (fCall 2 F__law_pick (fCons (fVar 0) (fCons (fLst (fCons (fCon (.str "same")) (fCons (fCon (.str "apart")) (fNil)))) (fNil)))) (fCons (fCall 2 F__law_term (fCons (fVar 0) (fCons (fVar 1) (fNil)))) (fCons (fCall 2 F__law_term (fCons (fVar 0) (fCons (fVar 1) (fNil)))) (fNil)))))))
  (sRet (fTup (fCons (fBlt bTuple (fCons (fVar 4) (fNil))) (fCons (fBlt bTuple (fCons (fVar 6) (fNil))) (fNil))))))))
noncomputable def F__law_any_claim : FnF := fnD 4 10 B__law_any_claim
abbrev N__law_bent : List Str := ["feed", "claim", "names", "rows", "side", "items", "at", "item", "more", "changed", "both"]
theorem sc__law_bent : FnScope N__law_bent ["feed", "claim", "names", "rows"] (defScope (topS 38)) := ⟨rfl, rfl, rfl, by decide +kernel, rfl, by decide +kernel, by decide +kernel⟩
noncomputable def B__law_bent : FS := sSeq (sSet 4 (fCall 2 F__law_take (fCons (fVar 0) (fCons (fCon (.int 2)) (fNil)))))
  (sSeq (sSet 5 (fBin dIdx (fVar 1) (fVar 4)))
  (sSeq (sSet 6 (fCall 2 F__law_take (fCons (fVar 0) (fCons (fBin dAdd (fBlt bLen (fCons (fVar 5) (fNil))) (fCon (.int 1))) (fNil)))))
  (sSeq (sSet 7 (fBin dIdx (fBin dAdd (fVar 5) (fTup (fCons (fTup (fCons (fCon (.str "cell")) (fCons (fBin dIdx (fVar 2) (fCon (.int 0))) (fCons (fBin dIdx (fVar 2) (fCon (.int 1))) (fCons (fCon (.int 0)) (fNil)))))) (fNil)))) (fVar 6)))
  (sSeq (sSet 8 (fBin dMul (fLst (fCons (fVar 7) (fNil))) (fCall 2 F__law_pick (fCons (fVar 0) (fCons (fLst (fCons (fCon (.int 2)) (fCons (fCon (.int 5)) (fCons (fCon (.int 6)) (fNil))))) (fNil))))))
  (sSeq (sSet 9 (fLstS (fCons (fBin dAdd (fBin dAdd (fCut (fVar 5) (oNone) (oSome (fVar 6))) (fTup (fCons (fCall 4 F__law_bent_item (fCons (fVar 0) (fCons (fVar 7) (fCons (fVar 2) (fCons (fVar 3) (fNil)))))) (fNil)))) (fCut (fVar 5) (oSome (fBin dAdd (fVar 6) (fCon (.int 1)))) (oNone))) (fCons (fBin dAdd (fVar 5) (fBlt bTuple (fCons (fVar 8) (fNil)))) (fNil)))))
  (sSeq (sSet 9 (fAddS (fVar 9) (fLst (fCons (fBin dAdd (fBin dAdd (fCut (fVar 5) (oNone) (oSome (fVar 6))) (fBin dIdx (fVar 1) (fBin dSub (fCon (.int 1)) (fVar 4)))) (fCut (fVar 5) (oSome (fVar 6)) (oNone))) (fCons (fBlt bList (fCons (fVar 5) (fNil))) (fCons (fCon .non) (fNil)))))))
  (sSeq (sApp (fVar 9) (fBin dAdd (fCut (fVar 5) (oNone) (oSome (fVar 6))) (fCut (fVar 5) (oSome (fBin dAdd (fVar 6) (fCon (.int 1)))) (oNone))))
  (sSeq (sSet 9 (fCall 2 F__law_pick (fCons (fVar 0) (fCons (fBin dAdd (fVar 9) (fLst (fCons (fCut (fBin dAdd (fVar 5) (fBlt bTuple (fCons (fVar 8) (fNil)))) (oNone) (oSome (fBin dSub (fCon (.int 6)) (fVar 4)))) (fNil)))) (fNil)))))
  (sSeq (sSet 10 (fBin dIdx (fLst (fCons (fTup (fCons (fVar 9) (fCons (fBin dIdx (fVar 1) (fCon (.int 1))) (fNil)))) (fCons (fTup (fCons (fBin dIdx (fVar 1) (fCon (.int 0))) (fCons (fVar 9) (fNil)))) (fNil)))) (fVar 4)))
  (sRet (fCall 2 F__law_pick (fCons (fVar 0) (fCons (fLst (fCons (fVar 10) (fCons (fVar 10) (fCons (fVar 10) (fCons (fVar 10) (fCons (fBlt bList (fCons (fVar 10) (fNil))) (fCons (fBin dAdd (fVar 10) (fTup (fCons (fTup (fNil)) (fNil)))) (fCons (fCut (fVar 10) (oNone) (oSome (fCon (.int 1)))) (fCons (fTup (fCons (fVar 10) (fNil))) (fCons (fRev (fVar 1)) (fNil))))))))))) (fNil))))))))))))))
noncomputable def F__law_bent : FnF := fnD 4 11 B__law_bent
abbrev N_has_form : List Str := ["thing", "parts", "facts", "part", "fact"]
theorem sc_has_form : FnScope N_has_form ["thing"] (defScope (topS 14)) := ⟨rfl, rfl, rfl, by decide +kernel, rfl, by decide +kernel, by decide +kernel⟩
noncomputable def B_has_form : FS := sSeq (sIf (tOrF (tNotF (tTru (fIsi .tup (fVar 0)))) (tCmpF cNe (fBlt bLen (fCons (fVar 0) (fNil))) (fCon (.int 2)))) (sRet (fCon (.bl false))) (sNil))
  (sSeq (sAsg (gTupF 2 (gConsF (gSet 1) (gConsF (gSet 2) (gNilF)))) (fVar 0))
  (sSeq (sIf (tOrF (tNotF (tTru (fIsi .tup (fVar 1)))) (tNotF (tTru (fIsi .tup (fVar 2))))) (sRet (fCon (.bl false))) (sNil))
  (sSeq (sIf (tOrF (tCmpF cGt (fBlt bLen (fCons (fVar 1) (fNil))) (fCon (.int 5))) (tCmpF cGt (fBlt bLen (fCons (fVar 2) (fNil))) (fCon (.int 4)))) (sRet (fCon (.bl false))) (sNil))
  (sRet (fAnd (fBlt bAll (fCons (fComp [3] (iVal (fVar 1)) (gSet 3) (tYesF) (fCall 1 F_is_part (fCons (fVar 3) (fNil)))) (fNil))) (fBlt bAll (fCons (fComp [4] (iVal (fVar 2)) (gSet 4) (tYesF) (fCall 1 F_is_fact (fCons (fVar 4) (fNil)))) (fNil))))))))
noncomputable def F_has_form : FnF := fnD 1 5 B_has_form
abbrev N_is_claim : List Str := ["thing", "terms", "name"]
theorem sc_is_claim : FnScope N_is_claim ["thing"] (defScope (topS 15)) := ⟨rfl, rfl, rfl, by decide +kernel, rfl, by decide +kernel, by decide +kernel⟩
noncomputable def B_is_claim : FS := sSeq (sIf (tNotF (tTru (fCall 1 F_has_form (fCons (fVar 0) (fNil))))) (sRet (fCon (.bl false))) (sNil))
  (sSeq (sSet 1 (fCall 1 F_term_names (fCons (fVar 0) (fNil))))
  (sRet (fNot (fComp [2] (iVal (fCall 1 F_row_names (fCons (fVar 0) (fNil)))) (gSet 2) (tCmpF cIn (fVar 2) (fVar 1)) (fVar 2)))))
noncomputable def F_is_claim : FnF := fnD 1 3 B_is_claim
abbrev N_law : List Str := ["script", "k", "feed", "names", "claim", "turn", "thing", "seen", "told"]
theorem sc_law : FnScope N_law ["script"] (defScope (topS 40)) := ⟨rfl, rfl, rfl, by decide +kernel, rfl, by decide +kernel, by decide +kernel⟩
noncomputable def B_law : FS := sSeq (sFor (iRange1 (fCons (fBlt bMax (fCons (fCon (.int 2)) (fCons (fBlt bMin (fCons (fCon (.int 5)) (fCons (fBlt bLen (fCons (fVar 0) (fNil))) (fNil)))) (fNil)))) (fNil))) (gSet 1) (sSeq (sSet 2 (fCall 2 F__law_feed (fCons (fVar 0) (fCons (fVar 1) (fNil)))))
  (sSeq (sSet 3 (fCall 2 F__law_names (fCons (fVar 2) (fCons (fCon (.int 8)) (fNil)))))
  (sSeq (sSet 4 (fCall 4 F__law_any_claim (fCons (fVar 2) (fCons (fCut (fVar 3) (oNone) (oSome (fCon (.int 4)))) (fCons (fCut (fVar 3) (oSome (fCon (.int 4))) (oNone)) (fCons (fCon (.int 5)) (fNil)))))))
  (sSeq (sIf (tCmpF cIsNot (fCall 1 F_is_claim (fCons (fVar 4) (fNil))) (fCon (.bl true))) (sRet (fCon (.bl false))) (sNil))
  (sFor (iRange1 (fCons (fCon (.int 7)) (fNil))) (gSet 5) (sSeq (sSet 6 (fCall 4 F__law_bent (fCons (fVar 2) (fCons (fVar 4) (fCons (fCut (fVar 3) (oNone) (oSome (fCon (.int 4)))) (fCons (fCut (fVar 3) (oSome (fCon (.int 4))) (oNone)) (fNil)))))))
  (sSeq (sIf (tAndF (tTru (fCall 1 F__law_may_bend (fCons (fVar 6) (fNil)))) (tCmpF cEq (fCall 2 F__law_take (fCons (fVar 2) (fCons (fCon (.int 3)) (fNil)))) (fCon (.int 0)))) (sSet 6 (fCall 4 F__law_bent (fCons (fVar 2) (fCons (fVar 6) (fCons (fCut (fVar 3) (oNone) (oSome (fCon (.int 4)))) (fCons (fCut (fVar 3) (oSome (fCon (.int 4))) (oNone)) (fNil))))))) (sNil))
  (sSeq (sSet 7 (fBlt bReprA (fCons (fVar 6) (fNil))))
  (sSeq (sSet 8 (fCall 1 F_is_claim (fCons (fVar 6) (fNil))))
  (sIf (tOrF (tNotF (tTru (fIsi .bl (fVar 8)))) (tOrF (tCmpF cNe (fVar 8) (fCall 1 F__law_is_claim (fCons (fVar 6) (fNil)))) (tCmpF cNeS (fBlt bReprA (fCons (fVar 6) (fNil))) (fVar 7)))) (sRet (fCon (.bl false))) (sNil))))))))))))
  (sRet (fAnd (fCmp cIs (fCall 1 F_is_claim (fCons (fTup (fCons (fTup (fNil)) (fCons (fTup (fNil)) (fNil)))) (fNil))) (fCon (.bl true))) (fCmp cIs (fCall 1 F_is_claim (fCons (fTup (fNil)) (fNil))) (fCon (.bl false)))))
noncomputable def F_law : FnF := fnD 1 9 B_law
section
variable {P : Program} {w : World} {K : PySem.W.Frag} {mg : Str → Option Value} {base : Heap}
theorem ok_is_whole (T : Tx mg) (D : Df K mg "is_whole" (topS 4) ["thing"])  : Ok P w K mg base 1 "is_whole" 1 F_is_whole := by
  have sc := sc_is_whole
  refine fn_okO D sc fun cdv A outer s H E f hr => ?_
  exact (ss_one (s_ret (e_and (e_isi .int (by rfl) T.n_isinstance (by rfl) T.n_int boot_int (e_var 0)) (e_one (e_not (e_isi .bl (by rfl) T.n_isinstance (by rfl) T.n_bool boot_bool (e_var 0)))))))
theorem ok_is_name (T : Tx mg) (D : Df K mg "is_name" (topS 5) ["thing"])  : Ok P w K mg base 1 "is_name" 1 F_is_name := by
  have sc := sc_is_name
  refine fn_okO D sc fun cdv A outer s H E f hr => ?_
  exact (ss_cons (s_if (PW.pt (w_or (t_not (t_val (e_isi .str (by rfl) T.n_isinstance (by rfl) T.n_str boot_str (e_var 0)))) (w_or1 (t_not (t_chain (c_le) (c_le) (e_int) (e_callB b_len (by rfl) T.n_len boot_len (a_cons (e_var 0) (a_nil))) (e_globI (by rfl) T.c_MOST_LETTERS)))))) (ss_one (s_ret (e_bl))) (ss_nil))
    (ss_one (s_ret (e_callB (b_all rfl) (by rfl) T.n_all boot_all (a_cons (e_comp (own := [("letter", 1)]) rfl sc.nd (i_val (e_var 0)) (blkOk_by (N := N_is_name) (sc := defScope (topS 5)) (by decide +kernel)) (fun _ _ _ _ _ => g_name [1] sc.nd rfl (by first | exact Or.inl rfl | exact Or.inr rfl) (by decide)) (fun _ _ _ _ _ => c_nil) (fun _ _ _ _ _ => e_chain (c_le) (c_le) (e_str) (e_var 1) (e_str))) (a_nil))))))
theorem ok_terms_in (T : Tx mg) (D : Df K mg "terms_in" (topS 16) ["item"])  : Ok P w K mg base 1 "terms_in" 1 F_terms_in := by
  have sc := sc_terms_in
  refine fn_okO D sc fun cdv A outer s H E f hr => ?_
  exact (ss_cons (s_if (t_cmp (c_ne hr) (e_idx (e_var 0) (e_int)) (e_str)) (ss_one (s_ret (e_callTy b_list (by rfl) T.n_list boot_list (a_cons (e_cut (e_var 0) (o_some (e_int)) (o_none)) (a_nil))))) (ss_nil))
    (ss_one (s_ret (e_add (e_lst (a_cons (e_idx (e_var 0) (e_int)) (a_cons (e_idx (e_var 0) (e_int)) (a_nil)))) (e_comp (own := [("kind", 1), ("term", 2)]) rfl sc.nd (i_val (e_idx (e_var 0) (e_int))) (blkOk_by (N := N_terms_in) (sc := defScope (topS 16)) (by decide +kernel)) (fun _ _ _ _ _ => g_tup rfl (gs_cons (g_name [1, 2] sc.nd rfl (by first | exact Or.inl rfl | exact Or.inr rfl) (by decide)) (gs_cons (g_name [1, 2] sc.nd rfl (by first | exact Or.inl rfl | exact Or.inr rfl) (by decide)) (gs_nil [1, 2])))) (fun _ _ _ _ _ => c_one (t_cmp (c_eq hr) (e_var 1) (e_str))) (fun _ _ _ _ _ => e_var 2))))))
theorem ok_rows_in (T : Tx mg) (D : Df K mg "rows_in" (topS 17) ["item"])  : Ok P w K mg base 1 "rows_in" 1 F_rows_in := by
  have sc := sc_rows_in
  refine fn_okO D sc fun cdv A outer s H E f hr => ?_
  exact (ss_cons (s_if (t_cmp (c_ne hr) (e_idx (e_var 0) (e_int)) (e_str)) (ss_one (s_ret (e_lst (a_nil)))) (ss_nil))
    (ss_one (s_ret (e_comp (own := [("kind", 1), ("name", 2)]) rfl sc.nd (i_val (e_idx (e_var 0) (e_int))) (blkOk_by (N := N_rows_in) (sc := defScope (topS 17)) (by decide +kernel)) (fun _ _ _ _ _ => g_tup rfl (gs_cons (g_name [1, 2] sc.nd rfl (by first | exact Or.inl rfl | exact Or.inr rfl) (by decide)) (gs_cons (g_name [1, 2] sc.nd rfl (by first | exact Or.inl rfl | exact Or.inr rfl) (by decide)) (gs_nil [1, 2])))) (fun _ _ _ _ _ => c_one (t_cmp (c_ne hr) (e_var 1) (e_str))) (fun _ _ _ _ _ => e_var 2)))))
theorem ok__law_feed (T : Tx mg) (D : Df K mg "_law_feed" (topS 21) ["script", "k"])  : Ok P w K mg base 1 "_law_feed" 2 F__law_feed := by
  have sc := sc__law_feed
  refine fn_okO D sc fun cdv A outer s H E f hr => ?_
  exact (ss_cons (s_set (i := 2) sc.nd rfl (by first | exact Or.inl rfl | exact Or.inr rfl) (e_ite (t_cmp (c_lt) (e_var 1) (e_callB b_len (by rfl) T.n_len boot_len (a_cons (e_var 0) (a_nil)))) (e_idx (e_var 0) (e_var 1)) (e_add (e_mul (e_int) (e_var 1)) (e_int))))
    (ss_cons (s_set (i := 3) sc.nd rfl (by first | exact Or.inl rfl | exact Or.inr rfl) (e_callB (b_max rfl) (by rfl) T.n_max boot_max (a_cons (e_int) (a_cons (e_sub (e_callB b_abs (by rfl) T.n_abs boot_abs (a_cons (e_var 2) (a_nil))) (e_pow (e_int) (e_int))) (a_nil)))))
    (ss_cons (s_set (i := 4) sc.nd rfl (by first | exact Or.inl rfl | exact Or.inr rfl) (e_mod (e_add (e_add (e_mul (e_var 2) (e_int)) (e_mul (e_int) (e_var 1))) (e_int)) (e_int)))
    (ss_one (s_ret (e_lstS (a_cons (e_var 3) (a_cons (e_var 4) (a_nil)))))))))
theorem ok__law_take (T : Tx mg) (D : Df K mg "_law_take" (topS 22) ["feed", "many"])  : Ok P w K mg base 1 "_law_take" 2 F__law_take := by
  have sc := sc__law_take
  refine fn_okO D sc fun cdv A outer s H E f hr => ?_
  exact (ss_cons (s_if (t_cmp (c_gt) (e_idx (e_var 0) (e_int)) (e_int)) (ss_cons (s_set (i := 2) sc.nd rfl (by first | exact Or.inl rfl | exact Or.inr rfl) (e_mod (e_idx (e_var 0) (e_int)) (e_var 1)))
    (ss_cons (s_put (e_fdiv (e_idx (e_var 0) (e_int)) (e_var 1)) (e_var 0) (e_int))
    (ss_one (s_ret (e_var 2))))) (ss_nil))
    (ss_cons (s_put (e_mod (e_add (e_mul (e_idx (e_var 0) (e_int)) (e_int)) (e_int)) (e_int)) (e_var 0) (e_int))
    (ss_one (s_ret (e_mod (e_fdiv (e_idx (e_var 0) (e_int)) (e_int)) (e_var 1))))))
theorem ok__law_whole (T : Tx mg) (D : Df K mg "_law_whole" (topS 26) ["thing"])  : Ok P w K mg base 1 "_law_whole" 1 F__law_whole := by
  have sc := sc__law_whole
  refine fn_okO D sc fun cdv A outer s H E f hr => ?_
  exact (ss_one (s_ret (e_and (e_isi .int (by rfl) T.n_isinstance (by rfl) T.n_int boot_int (e_var 0)) (e_one (e_not (e_isi .bl (by rfl) T.n_isinstance (by rfl) T.n_bool boot_bool (e_var 0)))))))
theorem ok__law_is_name (T : Tx mg) (D : Df K mg "_law_is_name" (topS 27) ["thing"])  : Ok P w K mg base 1 "_law_is_name" 1 F__law_is_name := by
  have sc := sc__law_is_name
  refine fn_okO D sc fun cdv A outer s H E f hr => ?_
  exact (ss_cons (s_if (PW.pt (w_or (t_not (t_val (e_isi .str (by rfl) T.n_isinstance (by rfl) T.n_str boot_str (e_var 0)))) (w_or (t_cmp (c_eq hr) (e_var 0) (e_str)) (w_or1 (t_cmp (c_gt) (e_callB b_len (by rfl) T.n_len boot_len (a_cons (e_var 0) (a_nil))) (e_int)))))) (ss_one (s_ret (e_bl))) (ss_nil))
    (ss_one (s_ret (e_cmp (c_eq hr) (e_comp (own := [("sign", 1)]) rfl sc.nd (i_val (e_var 0)) (blkOk_by (N := N__law_is_name) (sc := defScope (topS 27)) (by decide +kernel)) (fun _ _ _ _ _ => g_name [1] sc.nd rfl (by first | exact Or.inl rfl | exact Or.inr rfl) (by decide)) (fun _ _ _ _ _ => c_one (t_cmp (c_notIn hr) (e_var 1) (e_str))) (fun _ _ _ _ _ => e_var 1)) (e_lst (a_nil))))))
theorem ok__law_names_in (T : Tx mg) (D : Df K mg "_law_names_in" (topS 32) ["item"])  : Ok P w K mg base 1 "_law_names_in" 1 F__law_names_in := by
  have sc := sc__law_names_in
  refine fn_okO D sc fun cdv A outer s H E f hr => ?_
  exact (ss_cons (s_set (i := 1) sc.nd rfl (by first | exact Or.inl rfl | exact Or.inr rfl) (e_ite (t_cmp (c_eq hr) (e_idx (e_var 0) (e_int)) (e_str)) (e_callTy b_listS (by rfl) T.n_list boot_list (a_cons (e_cut (e_var 0) (o_some (e_int)) (o_some (e_int))) (a_nil))) (e_callTy b_listS (by rfl) T.n_list boot_list (a_cons (e_cut (e_var 0) (o_some (e_int)) (o_none)) (a_nil)))))
    (ss_cons (s_set (i := 2) sc.nd rfl (by first | exact Or.inl rfl | exact Or.inr rfl) (e_lstS (a_nil)))
    (ss_cons (s_for (vs := [3, 4]) PassesOwn.never rfl (i_val (e_ite (t_cmp (c_eq hr) (e_idx (e_var 0) (e_int)) (e_str)) (e_idx (e_var 0) (e_int)) (e_tup (a_nil)))) (g_tup rfl (gs_cons (g_name [3, 4] sc.nd rfl (by first | exact Or.inl rfl | exact Or.inr rfl) (by decide)) (gs_cons (g_name [3, 4] sc.nd rfl (by first | exact Or.inl rfl | exact Or.inr rfl) (by decide)) (gs_nil [3, 4])))) (ss_one (s_if (t_cmp (c_eq hr) (e_var 3) (e_str)) (ss_one (s_app (e_var 1) (e_var 4))) (ss_one (s_app (e_var 2) (e_var 4))))))
    (ss_one (s_ret (e_tup (a_cons (e_comp (own := [("term", 5)]) rfl sc.nd (i_val (e_var 1)) (blkOk_by (N := N__law_names_in) (sc := defScope (topS 32)) (by decide +kernel)) (fun _ _ _ _ _ => g_name [5] sc.nd rfl (by first | exact Or.inl rfl | exact Or.inr rfl) (by decide)) (fun _ _ _ _ _ => c_one (t_val (e_isi .str (by rfl) T.n_isinstance (by rfl) T.n_str boot_str (e_var 5)))) (fun _ _ _ _ _ => e_var 5)) (a_cons (e_var 2) (a_nil)))))))))
theorem ok__law_may_bend (T : Tx mg) (D : Df K mg "_law_may_bend" (topS 39) ["thing"])  : Ok P w K mg base 1 "_law_may_bend" 1 F__law_may_bend := by
  have sc := sc__law_may_bend
  refine fn_okO D sc fun cdv A outer s H E f hr => ?_
  exact (ss_cons (s_if (PW.pt (w_or (t_not (t_val (e_isi .tup (by rfl) T.n_isinstance (by rfl) T.n_tuple boot_tuple (e_var 0)))) (w_or (t_cmp (c_ne hr) (e_callB b_len (by rfl) T.n_len boot_len (a_cons (e_var 0) (a_nil))) (e_int)) (w_or1 (t_cmp (c_in hr) (e_bl) (e_comp (own := [("one", 2)]) rfl sc.nd (i_val (e_var 0)) (blkOk_by (N := N__law_may_bend) (sc := defScope (topS 39)) (by decide +kernel)) (fun _ _ _ _ _ => g_name [2] sc.nd rfl (by first | exact Or.inl rfl | exact Or.inr rfl) (by decide)) (fun _ _ _ _ _ => c_nil) (fun _ _ _ _ _ => e_isi .tup (by rfl) T.n_isinstance (by rfl) T.n_tuple boot_tuple (e_var 2)))))))) (ss_one (s_ret (e_bl))) (ss_nil))
    (ss_one (s_ret (e_cmp (c_eq hr) (e_comp (own := [("item", 1)]) rfl sc.nd (i_val (e_add (e_idx (e_var 0) (e_int)) (e_idx (e_var 0) (e_int)))) (blkOk_by (N := N__law_may_bend) (sc := defScope (topS 39)) (by decide +kernel)) (fun _ _ _ _ _ => g_name [1] sc.nd rfl (by first | exact Or.inl rfl | exact Or.inr rfl) (by decide)) (fun _ _ _ _ _ => c_one (PW.pt (w_or (t_not (t_val (e_isi .tup (by rfl) T.n_isinstance (by rfl) T.n_tuple boot_tuple (e_var 1)))) (w_or1 (t_cmp (c_eq hr) (e_var 1) (e_tup (a_nil))))))) (fun _ _ _ _ _ => e_var 1)) (e_lst (a_nil))))))
theorem ok_is_term (T : Tx mg) (D : Df K mg "is_term" (topS 6) ["thing"]) (OK_is_whole : Ok P w K mg base 1 "is_whole" 1 F_is_whole) (OK_is_name : Ok P w K mg base 1 "is_name" 1 F_is_name) : Ok P w K mg base 2 "is_term" 1 F_is_term := by
  have sc := sc_is_term
  refine fn_okO D sc fun cdv A outer s H E f hr => ?_
  exact (ss_one (s_ret (e_or (e_callO OK_is_name hr (by decide) (by rfl) (a_cons (e_var 0) (a_nil))) (e_one (e_and (e_callO OK_is_whole hr (by decide) (by rfl) (a_cons (e_var 0) (a_nil))) (e_one (e_chain (c_le) (c_le) (e_neg (e_globI (by rfl) T.c_LARGEST)) (e_var 0) (e_globI (by rfl) T.c_LARGEST))))))))
theorem ok_term_names (T : Tx mg) (D : Df K mg "term_names" (topS 18) ["claim"]) (OK_is_name : Ok P w K mg base 1 "is_name" 1 F_is_name) (OK_terms_in : Ok P w K mg base 1 "terms_in" 1 F_terms_in) : Ok P w K mg base 2 "term_names" 1 F_term_names := by
  have sc := sc_term_names
  refine fn_okO D sc fun cdv A outer s H E f hr => ?_
  exact (ss_cons (s_set (i := 1) sc.nd rfl (by first | exact Or.inl rfl | exact Or.inr rfl) (e_lstS (a_nil)))
    (ss_cons (s_for (vs := [2]) PassesOwn.never rfl (i_val (e_add (e_idx (e_var 0) (e_int)) (e_idx (e_var 0) (e_int)))) (g_name [2] sc.nd rfl (by first | exact Or.inl rfl | exact Or.inr rfl) (by decide)) (ss_one (s_ext (e_var 1) (e_callO OK_terms_in hr (by decide) (by rfl) (a_cons (e_var 2) (a_nil))))))
    (ss_one (s_ret (e_sortSet (by rfl) T.n_sorted (by rfl) T.n_set (e_comp (own := [("term", 3)]) rfl sc.nd (i_val (e_var 1)) (blkOk_by (N := N_term_names) (sc := defScope (topS 18)) (by decide +kernel)) (fun _ _ _ _ _ => g_name [3] sc.nd rfl (by first | exact Or.inl rfl | exact Or.inr rfl) (by decide)) (fun _ _ _ _ _ => c_one (t_val (e_callO OK_is_name hr (by decide) (by rfl) (a_cons (e_var 3) (a_nil))))) (fun _ _ _ _ _ => e_var 3)))))))
theorem ok_row_names (T : Tx mg) (D : Df K mg "row_names" (topS 19) ["claim"]) (OK_rows_in : Ok P w K mg base 1 "rows_in" 1 F_rows_in) : Ok P w K mg base 2 "row_names" 1 F_row_names := by
  have sc := sc_row_names
  refine fn_okO D sc fun cdv A outer s H E f hr => ?_
  exact (ss_cons (s_set (i := 1) sc.nd rfl (by first | exact Or.inl rfl | exact Or.inr rfl) (e_lstS (a_nil)))
    (ss_cons (s_for (vs := [2]) PassesOwn.never rfl (i_val (e_idx (e_var 0) (e_int))) (g_name [2] sc.nd rfl (by first | exact Or.inl rfl | exact Or.inr rfl) (by decide)) (ss_one (s_ext (e_var 1) (e_callO OK_rows_in hr (by decide) (by rfl) (a_cons (e_var 2) (a_nil))))))
    (ss_one (s_ret (e_sortSet (by rfl) T.n_sorted (by rfl) T.n_set (e_var 1))))))
theorem ok__law_pick (T : Tx mg) (D : Df K mg "_law_pick" (topS 23) ["feed", "some"]) (OK__law_take : Ok P w K mg base 1 "_law_take" 2 F__law_take) : Ok P w K mg base 2 "_law_pick" 2 F__law_pick := by
  have sc := sc__law_pick
  refine fn_okO D sc fun cdv A outer s H E f hr => ?_
  exact (ss_one (s_ret (e_idx (e_var 1) (e_callO OK__law_take hr (by decide) (by rfl) (a_cons (e_var 0) (a_cons (e_callB b_len (by rfl) T.n_len boot_len (a_cons (e_var 1) (a_nil))) (a_nil)))))))
theorem ok__law_names (T : Tx mg) (D : Df K mg "_law_names" (topS 24) ["feed", "many"]) (OK__law_take : Ok P w K mg base 1 "_law_take" 2 F__law_take) : Ok P w K mg base 2 "_law_names" 2 F__law_names := by
  have sc := sc__law_names
  refine fn_okO D sc fun cdv A outer s H E f hr => ?_
  exact (ss_cons (s_set (i := 2) sc.nd rfl (by first | exact Or.inl rfl | exact Or.inr rfl) (e_str))
    (ss_cons (s_set (i := 3) sc.nd rfl (by first | exact Or.inl rfl | exact Or.inr rfl) (e_callO OK__law_take hr (by decide) (by rfl) (a_cons (e_var 0) (a_cons (e_int) (a_nil)))))
    (ss_cons (s_set (i := 4) sc.nd rfl (by first | exact Or.inl rfl | exact Or.inr rfl) (e_mul (e_idx (e_var 2) (e_callO OK__law_take hr (by decide) (by rfl) (a_cons (e_var 0) (a_cons (e_int) (a_nil))))) (e_callO OK__law_take hr (by decide) (by rfl) (a_cons (e_var 0) (a_cons (e_int) (a_nil))))))
    (ss_one (s_ret (e_comp (own := [("k", 5)]) rfl sc.nd (i_range1 (by rfl) T.n_range (a_cons (e_var 1) (a_nil))) (blkOk_by (N := N__law_names) (sc := defScope (topS 24)) (by decide +kernel)) (fun _ _ _ _ _ => g_name [5] sc.nd rfl (by first | exact Or.inl rfl | exact Or.inr rfl) (by decide)) (fun _ _ _ _ _ => c_nil) (fun _ _ _ _ _ => e_add (e_idx (e_var 2) (e_mod (e_add (e_var 3) (e_mul (e_int) (e_var 5))) (e_int))) (e_var 4))))))))
theorem ok__law_is_term (T : Tx mg) (D : Df K mg "_law_is_term" (topS 28) ["thing"]) (OK__law_whole : Ok P w K mg base 1 "_law_whole" 1 F__law_whole) (OK__law_is_name : Ok P w K mg base 1 "_law_is_name" 1 F__law_is_name) : Ok P w K mg base 2 "_law_is_term" 1 F__law_is_term := by
  have sc := sc__law_is_term
  refine fn_okO D sc fun cdv A outer s H E f hr => ?_
  exact (ss_one (s_ret (e_or (e_callO OK__law_is_name hr (by decide) (by rfl) (a_cons (e_var 0) (a_nil))) (e_one (e_and (e_callO OK__law_whole hr (by decide) (by rfl) (a_cons (e_var 0) (a_nil))) (e_one (e_chain (c_lt) (c_lt) (e_neg (e_pow (e_int) (e_int))) (e_var 0) (e_pow (e_int) (e_int)))))))))
theorem ok_is_piece (T : Tx mg) (D : Df K mg "is_piece" (topS 7) ["thing"]) (OK_is_name : Ok P w K mg base 1 "is_name" 1 F_is_name) (OK_is_term : Ok P w K mg base 2 "is_term" 1 F_is_term) : Ok P w K mg base 3 "is_piece" 1 F_is_piece := by
  have sc := sc_is_piece
  refine fn_okO D sc fun cdv A outer s H E f hr => ?_
  exact (ss_cons (s_if (PW.pt (w_or (t_not (t_val (e_isi .tup (by rfl) T.n_isinstance (by rfl) T.n_tuple boot_tuple (e_var 0)))) (w_or1 (t_cmp (c_ne hr) (e_callB b_len (by rfl) T.n_len boot_len (a_cons (e_var 0) (a_nil))) (e_int))))) (ss_one (s_ret (e_bl))) (ss_nil))
    (ss_cons (s_asg (vs := [1, 2]) (e_var 0) (g_tup rfl (gs_cons (g_name [1, 2] sc.nd rfl (by first | exact Or.inl rfl | exact Or.inr rfl) (by decide)) (gs_cons (g_name [1, 2] sc.nd rfl (by first | exact Or.inl rfl | exact Or.inr rfl) (by decide)) (gs_nil [1, 2])))))
    (ss_cons (s_if (t_cmp (c_eq hr) (e_var 1) (e_str)) (ss_one (s_ret (e_callO OK_is_term hr (by decide) (by rfl) (a_cons (e_var 2) (a_nil))))) (ss_nil))
    (ss_one (s_ret (e_and (e_cmp (c_in hr) (e_var 1) (e_tup (a_cons (e_str) (a_cons (e_str) (a_nil))))) (e_one (e_callO OK_is_name hr (by decide) (by rfl) (a_cons (e_var 2) (a_nil))))))))))
theorem ok_is_fact (T : Tx mg) (D : Df K mg "is_fact" (topS 13) ["thing"]) (OK_is_term : Ok P w K mg base 2 "is_term" 1 F_is_term) : Ok P w K mg base 3 "is_fact" 1 F_is_fact := by
  have sc := sc_is_fact
  refine fn_okO D sc fun cdv A outer s H E f hr => ?_
  exact (ss_cons (s_if (PW.pt (w_or (t_not (t_val (e_isi .tup (by rfl) T.n_isinstance (by rfl) T.n_tuple boot_tuple (e_var 0)))) (w_or1 (t_cmp (c_ne hr) (e_callB b_len (by rfl) T.n_len boot_len (a_cons (e_var 0) (a_nil))) (e_int))))) (ss_one (s_ret (e_bl))) (ss_nil))
    (ss_one (s_ret (e_and (e_cmp (c_in hr) (e_idx (e_var 0) (e_int)) (e_tup (a_cons (e_str) (a_cons (e_str) (a_nil))))) (e_and (e_callO OK_is_term hr (by decide) (by rfl) (a_cons (e_idx (e_var 0) (e_int)) (a_nil))) (e_one (e_callO OK_is_term hr (by decide) (by rfl) (a_cons (e_idx (e_var 0) (e_int)) (a_nil)))))))))
theorem ok__law_number (T : Tx mg) (D : Df K mg "_law_number" (topS 25) ["feed"]) (OK__law_take : Ok P w K mg base 1 "_law_take" 2 F__law_take) (OK__law_pick : Ok P w K mg base 2 "_law_pick" 2 F__law_pick) : Ok P w K mg base 3 "_law_number" 1 F__law_number := by
  have sc := sc__law_number
  refine fn_okO D sc fun cdv A outer s H E f hr => ?_
  exact (ss_cons (s_set (i := 1) sc.nd rfl (by first | exact Or.inl rfl | exact Or.inr rfl) (e_lst (a_cons (e_sub (e_pow (e_int) (e_int)) (e_int)) (a_cons (e_sub (e_int) (e_pow (e_int) (e_int))) (a_cons (e_sub (e_callO OK__law_take hr (by decide) (by rfl) (a_cons (e_var 0) (a_cons (e_pow (e_int) (e_int)) (a_nil)))) (e_mul (e_int) (e_pow (e_int) (e_int)))) (a_nil))))))
    (ss_one (s_ret (e_callO OK__law_pick hr (by decide) (by rfl) (a_cons (e_var 0) (a_cons (e_lst (a_cons (e_int) (a_cons (e_int) (a_cons (e_neg (e_int)) (a_cons (e_callO OK__law_take hr (by decide) (by rfl) (a_cons (e_var 0) (a_cons (e_int) (a_nil)))) (a_cons (e_callO OK__law_take hr (by decide) (by rfl) (a_cons (e_var 0) (a_cons (e_int) (a_nil)))) (a_cons (e_callO OK__law_pick hr (by decide) (by rfl) (a_cons (e_var 0) (a_cons (e_var 1) (a_nil)))) (a_nil)))))))) (a_nil)))))))
theorem ok__law_is_word (T : Tx mg) (D : Df K mg "_law_is_word" (topS 29) ["thing"]) (OK__law_is_name : Ok P w K mg base 1 "_law_is_name" 1 F__law_is_name) (OK__law_is_term : Ok P w K mg base 2 "_law_is_term" 1 F__law_is_term) : Ok P w K mg base 3 "_law_is_word" 1 F__law_is_word := by
  have sc := sc__law_is_word
  refine fn_okO D sc fun cdv A outer s H E f hr => ?_
  exact (ss_cons (s_if (PW.pt (w_or (t_not (t_val (e_isi .tup (by rfl) T.n_isinstance (by rfl) T.n_tuple boot_tuple (e_var 0)))) (w_or1 (t_cmp (c_gt) (e_callB b_len (by rfl) T.n_len boot_len (a_cons (e_var 0) (a_nil))) (e_int))))) (ss_one (s_ret (e_bl))) (ss_nil))
    (ss_cons (s_for (vs := [1]) PassesOwn.never rfl (i_val (e_var 0)) (g_name [1] sc.nd rfl (by first | exact Or.inl rfl | exact Or.inr rfl) (by decide)) (ss_cons (s_if (PW.pt (w_or (t_not (t_val (e_isi .tup (by rfl) T.n_isinstance (by rfl) T.n_tuple boot_tuple (e_var 1)))) (w_or1 (t_cmp (c_ne hr) (e_callB b_len (by rfl) T.n_len boot_len (a_cons (e_var 1) (a_nil))) (e_int))))) (ss_one (s_ret (e_bl))) (ss_nil))
    (ss_cons (s_if (t_cmp (c_notIn hr) (e_idx (e_var 1) (e_int)) (e_lst (a_cons (e_str) (a_cons (e_str) (a_cons (e_str) (a_nil)))))) (ss_one (s_ret (e_bl))) (ss_nil))
    (ss_one (s_if (t_not (t_ite (t_cmp (c_eq hr) (e_idx (e_var 1) (e_int)) (e_str)) (t_val (e_callO OK__law_is_term hr (by decide) (by rfl) (a_cons (e_idx (e_var 1) (e_int)) (a_nil)))) (t_val (e_callO OK__law_is_name hr (by decide) (by rfl) (a_cons (e_idx (e_var 1) (e_int)) (a_nil)))))) (ss_one (s_ret (e_bl))) (ss_nil))))))
    (ss_one (s_ret (e_bl)))))
theorem ok__law_odd (T : Tx mg) (D : Df K mg "_law_odd" (topS 31) ["feed"]) (OK__law_pick : Ok P w K mg base 2 "_law_pick" 2 F__law_pick) : Ok P w K mg base 3 "_law_odd" 1 F__law_odd := by
  have sc := sc__law_odd
  refine fn_okO D sc fun cdv A outer s H E f hr => ?_
  exact (ss_cons (s_set (i := 1) sc.nd rfl (by first | exact Or.inl rfl | exact Or.inr rfl) (e_lst (a_cons (e_non) (a_cons (e_bl) (a_cons (e_bl) (a_cons (e_str) (a_cons (e_str) (a_cons (e_str) (a_cons (e_str) (a_cons (e_str) (a_cons (e_str) (a_cons (e_str) (a_cons (e_str) (a_cons (e_str) (a_cons (e_lst (a_nil)) (a_cons (e_tup (a_nil)) (a_cons (e_lst (a_cons (e_str) (a_cons (e_int) (a_nil)))) (a_nil))))))))))))))))))
    (ss_cons (s_set (i := 1) sc.nd rfl (by first | exact Or.inl rfl | exact Or.inr rfl) (e_add (e_var 1) (e_lst (a_cons (e_tup (a_cons (e_str) (a_nil))) (a_cons (e_tup (a_cons (e_str) (a_cons (e_str) (a_cons (e_str) (a_nil))))) (a_cons (e_tup (a_cons (e_str) (a_cons (e_int) (a_nil)))) (a_cons (e_lst (a_cons (e_tup (a_cons (e_str) (a_cons (e_str) (a_nil)))) (a_nil))) (a_cons (e_tup (a_cons (e_tup (a_nil)) (a_nil))) (a_cons (e_str) (a_cons (e_tup (a_cons (e_str) (a_cons (e_int) (a_nil)))) (a_nil)))))))))))
    (ss_cons (s_set (i := 1) sc.nd rfl (by first | exact Or.inl rfl | exact Or.inr rfl) (e_add (e_var 1) (e_lst (a_cons (e_int) (a_cons (e_neg (e_int)) (a_cons (e_str) (a_nil)))))))
    (ss_one (s_ret (e_callO OK__law_pick hr (by decide) (by rfl) (a_cons (e_var 0) (a_cons (e_var 1) (a_nil)))))))))
theorem ok_is_word (T : Tx mg) (D : Df K mg "is_word" (topS 8) ["thing"]) (OK_is_piece : Ok P w K mg base 3 "is_piece" 1 F_is_piece) : Ok P w K mg base 4 "is_word" 1 F_is_word := by
  have sc := sc_is_word
  refine fn_okO D sc fun cdv A outer s H E f hr => ?_
  exact (ss_cons (s_if (PW.pt (w_or (t_not (t_val (e_isi .tup (by rfl) T.n_isinstance (by rfl) T.n_tuple boot_tuple (e_var 0)))) (w_or1 (t_cmp (c_gt) (e_callB b_len (by rfl) T.n_len boot_len (a_cons (e_var 0) (a_nil))) (e_globI (by rfl) T.c_MOST_PIECES))))) (ss_one (s_ret (e_bl))) (ss_nil))
    (ss_one (s_ret (e_callB (b_all rfl) (by rfl) T.n_all boot_all (a_cons (e_comp (own := [("piece", 1)]) rfl sc.nd (i_val (e_var 0)) (blkOk_by (N := N_is_word) (sc := defScope (topS 8)) (by decide +kernel)) (fun _ _ _ _ _ => g_name [1] sc.nd rfl (by first | exact Or.inl rfl | exact Or.inr rfl) (by decide)) (fun _ _ _ _ _ => c_nil) (fun _ _ _ _ _ => e_callO OK_is_piece hr (by decide) (by rfl) (a_cons (e_var 1) (a_nil)))) (a_nil))))))
theorem ok__law_word (T : Tx mg) (D : Df K mg "_law_word" (topS 30) ["feed", "numbers", "rows", "most"]) (OK__law_take : Ok P w K mg base 1 "_law_take" 2 F__law_take) (OK__law_pick : Ok P w K mg base 2 "_law_pick" 2 F__law_pick) (OK__law_number : Ok P w K mg base 3 "_law_number" 1 F__law_number) : Ok P w K mg base 4 "_law_word" 4 F__law_word := by
  have sc := sc__law_word
  refine fn_okO D sc fun cdv A outer s H E f hr => ?_
  exact (ss_cons (s_set (i := 4) sc.nd rfl (by first | exact Or.inl rfl | exact Or.inr rfl) (e_lstS (a_nil)))
    (ss_cons (s_for (vs := [5]) PassesOwn.never rfl (i_range1 (by rfl) T.n_range (a_cons (e_callO OK__law_take hr (by decide) (by rfl) (a_cons (e_var 0) (a_cons (e_add (e_var 3) (e_int)) (a_nil)))) (a_nil))) (g_name [5] sc.nd rfl (by first | exact Or.inl rfl | exact Or.inr rfl) (by decide)) (ss_cons (s_set (i := 6) sc.nd rfl (by first | exact Or.inl rfl | exact Or.inr rfl) (e_lst (a_cons (e_tup (a_cons (e_str) (a_cons (e_callO OK__law_pick hr (by decide) (by rfl) (a_cons (e_var 0) (a_cons (e_var 1) (a_nil)))) (a_nil)))) (a_cons (e_tup (a_cons (e_str) (a_cons (e_callO OK__law_number hr (by decide) (by rfl) (a_cons (e_var 0) (a_nil))) (a_nil)))) (a_nil)))))
    (ss_cons (s_set (i := 6) sc.nd rfl (by first | exact Or.inl rfl | exact Or.inr rfl) (e_add (e_var 6) (e_lst (a_cons (e_tup (a_cons (e_str) (a_cons (e_callO OK__law_pick hr (by decide) (by rfl) (a_cons (e_var 0) (a_cons (e_var 2) (a_nil)))) (a_nil)))) (a_cons (e_tup (a_cons (e_str) (a_cons (e_callO OK__law_pick hr (by decide) (by rfl) (a_cons (e_var 0) (a_cons (e_var 2) (a_nil)))) (a_nil)))) (a_nil))))))
    (ss_one (s_app (e_var 4) (e_callO OK__law_pick hr (by decide) (by rfl) (a_cons (e_var 0) (a_cons (e_var 6) (a_nil)))))))))
    (ss_one (s_ret (e_callTy b_tuple (by rfl) T.n_tuple boot_tuple (a_cons (e_var 4) (a_nil)))))))
theorem ok__law_is_item (T : Tx mg) (D : Df K mg "_law_is_item" (topS 33) ["thing"]) (OK__law_is_term : Ok P w K mg base 2 "_law_is_term" 1 F__law_is_term) (OK__law_is_word : Ok P w K mg base 3 "_law_is_word" 1 F__law_is_word) : Ok P w K mg base 4 "_law_is_item" 1 F__law_is_item := by
  have sc := sc__law_is_item
  refine fn_okO D sc fun cdv A outer s H E f hr => ?_
  exact (ss_cons (s_if (PW.pt (w_or (t_not (t_val (e_isi .tup (by rfl) T.n_isinstance (by rfl) T.n_tuple boot_tuple (e_var 0)))) (w_or1 (t_cmp (c_eq hr) (e_var 0) (e_tup (a_nil)))))) (ss_one (s_ret (e_int))) (ss_nil))
    (ss_cons (s_set (i := 1) sc.nd rfl (by first | exact Or.inl rfl | exact Or.inr rfl) (e_disp [(.inr "cell", .int 4), (.inr "row", .int 4), (.inr "same", .int 3), (.inr "apart", .int 3)] (pps_cons pe_str pe_int (pps_cons pe_str pe_int (pps_cons pe_str pe_int (pps_cons pe_str pe_int (pps_nil))))) (by decide +kernel) rfl rfl (by decide) (by decide) (by decide)))
    (ss_cons (s_if (PW.pt (w_or (t_not (t_val (e_isi .str (by rfl) T.n_isinstance (by rfl) T.n_str boot_str (e_idx (e_var 0) (e_int))))) (w_or (t_cmp (c_notInA hr (hu_of hr)) (e_idx (e_var 0) (e_int)) (e_var 1)) (w_or1 (t_cmp (c_ne hr) (e_callB b_len (by rfl) T.n_len boot_len (a_cons (e_var 0) (a_nil))) (e_idxA (hu_of hr) (e_var 1) (e_idx (e_var 0) (e_int)))))))) (ss_one (s_ret (e_int))) (ss_nil))
    (ss_cons (s_set (i := 2) sc.nd rfl (by first | exact Or.inl rfl | exact Or.inr rfl) (e_ite (t_cmp (c_eq hr) (e_idx (e_var 0) (e_int)) (e_str)) (e_cut (e_var 0) (o_some (e_int)) (o_some (e_int))) (e_cut (e_var 0) (o_some (e_int)) (o_none))))
    (ss_cons (s_if (PW.pt (w_or (t_cmp (c_in hr) (e_bl) (e_comp (own := [("term", 3)]) rfl sc.nd (i_val (e_var 2)) (blkOk_by (N := N__law_is_item) (sc := defScope (topS 33)) (by decide +kernel)) (fun _ _ _ _ _ => g_name [3] sc.nd rfl (by first | exact Or.inl rfl | exact Or.inr rfl) (by decide)) (fun _ _ _ _ _ => c_nil) (fun _ _ _ _ _ => e_callO OK__law_is_term hr (by decide) (by rfl) (a_cons (e_var 3) (a_nil))))) (w_or1 (PW.pt (w_and (t_cmp (c_eq hr) (e_idx (e_var 0) (e_int)) (e_str)) (w_and1 (t_not (t_val (e_callO OK__law_is_word hr (by decide) (by rfl) (a_cons (e_idx (e_var 0) (e_int)) (a_nil))))))))))) (ss_one (s_ret (e_int))) (ss_nil))
    (ss_one (s_ret (e_callB b_len (by rfl) T.n_len boot_len (a_cons (e_var 0) (a_nil))))))))))
theorem ok__law_term (T : Tx mg) (D : Df K mg "_law_term" (topS 35) ["feed", "names"]) (OK__law_pick : Ok P w K mg base 2 "_law_pick" 2 F__law_pick) (OK__law_number : Ok P w K mg base 3 "_law_number" 1 F__law_number) : Ok P w K mg base 4 "_law_term" 2 F__law_term := by
  have sc := sc__law_term
  refine fn_okO D sc fun cdv A outer s H E f hr => ?_
  exact (ss_one (s_ret (e_callO OK__law_pick hr (by decide) (by rfl) (a_cons (e_var 0) (a_cons (e_add (e_add (e_var 1) (e_var 1)) (e_lst (a_cons (e_int) (a_cons (e_callO OK__law_number hr (by decide) (by rfl) (a_cons (e_var 0) (a_nil))) (a_nil))))) (a_nil))))))
theorem ok__law_bent_item (T : Tx mg) (D : Df K mg "_law_bent_item" (topS 37) ["feed", "item", "names", "rows"]) (OK__law_take : Ok P w K mg base 1 "_law_take" 2 F__law_take) (OK__law_pick : Ok P w K mg base 2 "_law_pick" 2 F__law_pick) (OK__law_odd : Ok P w K mg base 3 "_law_odd" 1 F__law_odd) : Ok P w K mg base 4 "_law_bent_item" 4 F__law_bent_item := by
  have sc := sc__law_bent_item
  refine fn_okO D sc fun cdv A outer s H E f hr => ?_
  exact (ss_cons (s_set (i := 4) sc.nd rfl (by first | exact Or.inl rfl | exact Or.inr rfl) (e_callO OK__law_take hr (by decide) (by rfl) (a_cons (e_var 0) (a_cons (e_add (e_callB b_len (by rfl) T.n_len boot_len (a_cons (e_var 1) (a_nil))) (e_int)) (a_nil)))))
    (ss_cons (s_set (i := 5) sc.nd rfl (by first | exact Or.inl rfl | exact Or.inr rfl) (e_lst (a_cons (e_add (e_add (e_cut (e_var 1) (o_none) (o_some (e_var 4))) (e_tup (a_cons (e_callO OK__law_odd hr (by decide) (by rfl) (a_cons (e_var 0) (a_nil))) (a_nil)))) (e_cut (e_var 1) (o_some (e_add (e_var 4) (e_int))) (o_none))) (a_cons (e_add (e_cut (e_var 1) (o_none) (o_some (e_var 4))) (e_cut (e_var 1) (o_some (e_add (e_var 4) (e_int))) (o_none))) (a_nil)))))
    (ss_cons (s_set (i := 5) sc.nd rfl (by first | exact Or.inl rfl | exact Or.inr rfl) (e_add (e_var 5) (e_lst (a_cons (e_add (e_var 1) (e_cut (e_var 1) (o_some (e_neg (e_int))) (o_none))) (a_cons (e_callTy b_list (by rfl) T.n_list boot_list (a_cons (e_var 1) (a_nil))) (a_nil))))))
    (ss_cons (s_set (i := 5) sc.nd rfl (by first | exact Or.inl rfl | exact Or.inr rfl) (e_add (e_var 5) (e_lst (a_cons (e_tup (a_cons (e_str) (a_cons (e_idx (e_var 2) (e_int)) (a_cons (e_int) (a_cons (e_tup (a_cons (e_tup (a_cons (e_str) (a_cons (e_idx (e_var 2) (e_int)) (a_nil)))) (a_nil))) (a_nil)))))) (a_cons (e_tup (a_cons (e_str) (a_cons (e_idx (e_var 3) (e_int)) (a_cons (e_int) (a_cons (e_int) (a_nil)))))) (a_cons (e_tup (a_cons (e_str) (a_cons (e_idx (e_var 3) (e_int)) (a_cons (e_int) (a_nil))))) (a_nil)))))))
    (ss_cons (s_set (i := 5) sc.nd rfl (by first | exact Or.inl rfl | exact Or.inr rfl) (e_add (e_var 5) (e_lst (a_cons (e_tup (a_cons (e_str) (a_cons (e_idx (e_var 2) (e_int)) (a_cons (e_int) (a_cons (e_tup (a_cons (e_callO OK__law_odd hr (by decide) (by rfl) (a_cons (e_var 0) (a_nil))) (a_nil))) (a_nil)))))) (a_cons (e_tup (a_cons (e_str) (a_cons (e_idx (e_var 2) (e_int)) (a_cons (e_int) (a_cons (e_callO OK__law_odd hr (by decide) (by rfl) (a_cons (e_var 0) (a_nil))) (a_nil)))))) (a_cons (e_callO OK__law_odd hr (by decide) (by rfl) (a_cons (e_var 0) (a_nil))) (a_nil)))))))
    (ss_cons (s_set (i := 5) sc.nd rfl (by first | exact Or.inl rfl | exact Or.inr rfl) (e_add (e_var 5) (e_lst (a_cons (e_add (e_tup (a_cons (e_callO OK__law_pick hr (by decide) (by rfl) (a_cons (e_var 0) (a_cons (e_lst (a_cons (e_str) (a_cons (e_str) (a_cons (e_str) (a_cons (e_str) (a_cons (e_str) (a_cons (e_str) (a_nil)))))))) (a_nil)))) (a_nil))) (e_cut (e_var 1) (o_some (e_int)) (o_none))) (a_cons (e_tup (a_cons (e_var 1) (a_nil))) (a_nil))))))
    (ss_one (s_ret (e_callO OK__law_pick hr (by decide) (by rfl) (a_cons (e_var 0) (a_cons (e_var 5) (a_nil))))))))))))
theorem ok_is_part (T : Tx mg) (D : Df K mg "is_part" (topS 12) ["thing"]) (OK_is_term : Ok P w K mg base 2 "is_term" 1 F_is_term) (OK_is_word : Ok P w K mg base 4 "is_word" 1 F_is_word) : Ok P w K mg base 5 "is_part" 1 F_is_part := by
  have sc := sc_is_part
  refine fn_okO D sc fun cdv A outer s H E f hr => ?_
  exact (ss_cons (s_if (PW.pt (w_or (t_not (t_val (e_isi .tup (by rfl) T.n_isinstance (by rfl) T.n_tuple boot_tuple (e_var 0)))) (w_or1 (t_cmp (c_ne hr) (e_callB b_len (by rfl) T.n_len boot_len (a_cons (e_var 0) (a_nil))) (e_int))))) (ss_one (s_ret (e_bl))) (ss_nil))
    (ss_cons (s_asg (vs := [1, 2, 3, 4]) (e_var 0) (g_tup rfl (gs_cons (g_name [1, 2, 3, 4] sc.nd rfl (by first | exact Or.inl rfl | exact Or.inr rfl) (by decide)) (gs_cons (g_name [1, 2, 3, 4] sc.nd rfl (by first | exact Or.inl rfl | exact Or.inr rfl) (by decide)) (gs_cons (g_name [1, 2, 3, 4] sc.nd rfl (by first | exact Or.inl rfl | exact Or.inr rfl) (by decide)) (gs_cons (g_name [1, 2, 3, 4] sc.nd rfl (by first | exact Or.inl rfl | exact Or.inr rfl) (by decide)) (gs_nil [1, 2, 3, 4])))))))
    (ss_cons (s_if (t_cmp (c_eq hr) (e_var 1) (e_str)) (ss_one (s_ret (e_and (e_callO OK_is_term hr (by decide) (by rfl) (a_cons (e_var 2) (a_nil))) (e_and (e_callO OK_is_term hr (by decide) (by rfl) (a_cons (e_var 3) (a_nil))) (e_one (e_callO OK_is_term hr (by decide) (by rfl) (a_cons (e_var 4) (a_nil)))))))) (ss_nil))
    (ss_one (s_ret (e_and (e_cmp (c_eq hr) (e_var 1) (e_str)) (e_and (e_callO OK_is_term hr (by decide) (by rfl) (a_cons (e_var 2) (a_nil))) (e_and (e_callO OK_is_term hr (by decide) (by rfl) (a_cons (e_var 3) (a_nil))) (e_one (e_callO OK_is_word hr (by decide) (by rfl) (a_cons (e_var 4) (a_nil))))))))))))
theorem ok__law_is_claim (T : Tx mg) (D : Df K mg "_law_is_claim" (topS 34) ["thing"]) (OK__law_names_in : Ok P w K mg base 1 "_law_names_in" 1 F__law_names_in) (OK__law_is_item : Ok P w K mg base 4 "_law_is_item" 1 F__law_is_item) : Ok P w K mg base 5 "_law_is_claim" 1 F__law_is_claim := by
  have sc := sc__law_is_claim
  refine fn_okO D sc fun cdv A outer s H E f hr => ?_
  exact (ss_cons (s_if (PW.pt (w_or (t_not (t_val (e_isi .tup (by rfl) T.n_isinstance (by rfl) T.n_tuple boot_tuple (e_var 0)))) (w_or1 (t_cmp (c_ne hr) (e_callB b_len (by rfl) T.n_len boot_len (a_cons (e_var 0) (a_nil))) (e_int))))) (ss_one (s_ret (e_bl))) (ss_nil))
    (ss_cons (s_for (vs := [1]) PassesOwn.never rfl (i_range1 (by rfl) T.n_range (a_cons (e_int) (a_nil))) (g_name [1] sc.nd rfl (by first | exact Or.inl rfl | exact Or.inr rfl) (by decide)) (ss_cons (s_if (PW.pt (w_or (t_not (t_val (e_isi .tup (by rfl) T.n_isinstance (by rfl) T.n_tuple boot_tuple (e_idx (e_var 0) (e_var 1))))) (w_or1 (t_cmp (c_gt) (e_callB b_len (by rfl) T.n_len boot_len (a_cons (e_idx (e_var 0) (e_var 1)) (a_nil))) (e_sub (e_int) (e_var 1)))))) (ss_one (s_ret (e_bl))) (ss_nil))
    (ss_one (s_if (t_cmp (c_ne hr) (e_comp (own := [("item", 4)]) rfl sc.nd (i_val (e_idx (e_var 0) (e_var 1))) (blkOk_by (N := N__law_is_claim) (sc := defScope (topS 34)) (by decide +kernel)) (fun _ _ _ _ _ => g_name [4] sc.nd rfl (by first | exact Or.inl rfl | exact Or.inr rfl) (by decide)) (fun _ _ _ _ _ => c_one (t_cmp (c_ne hr) (e_callO OK__law_is_item hr (by decide) (by rfl) (a_cons (e_var 4) (a_nil))) (e_sub (e_int) (e_var 1)))) (fun _ _ _ _ _ => e_var 4)) (e_lst (a_nil))) (ss_one (s_ret (e_bl))) (ss_nil)))))
    (ss_cons (s_set (i := 2) sc.nd rfl (by first | exact Or.inl rfl | exact Or.inr rfl) (e_lst (a_nil)))
    (ss_cons (s_set (i := 3) sc.nd rfl (by first | exact Or.inl rfl | exact Or.inr rfl) (e_lst (a_nil)))
    (ss_cons (s_for (vs := [4]) PassesOwn.never rfl (i_val (e_add (e_idx (e_var 0) (e_int)) (e_idx (e_var 0) (e_int)))) (g_name [4] sc.nd rfl (by first | exact Or.inl rfl | exact Or.inr rfl) (by decide)) (ss_cons (s_set (i := 2) sc.nd rfl (by first | exact Or.inl rfl | exact Or.inr rfl) (e_add (e_var 2) (e_idx (e_callO OK__law_names_in hr (by decide) (by rfl) (a_cons (e_var 4) (a_nil))) (e_int))))
    (ss_one (s_set (i := 3) sc.nd rfl (by first | exact Or.inl rfl | exact Or.inr rfl) (e_add (e_var 3) (e_idx (e_callO OK__law_names_in hr (by decide) (by rfl) (a_cons (e_var 4) (a_nil))) (e_int)))))))
    (ss_one (s_ret (e_cmp (c_eq hr) (e_comp (own := [("name", 5)]) rfl sc.nd (i_val (e_var 3)) (blkOk_by (N := N__law_is_claim) (sc := defScope (topS 34)) (by decide +kernel)) (fun _ _ _ _ _ => g_name [5] sc.nd rfl (by first | exact Or.inl rfl | exact Or.inr rfl) (by decide)) (fun _ _ _ _ _ => c_one (t_cmp (c_in hr) (e_var 5) (e_var 2))) (fun _ _ _ _ _ => e_var 5)) (e_lst (a_nil))))))))))
theorem ok__law_any_claim (T : Tx mg) (D : Df K mg "_law_any_claim" (topS 36) ["feed", "names", "rows", "most"]) (OK__law_take : Ok P w K mg base 1 "_law_take" 2 F__law_take) (OK__law_pick : Ok P w K mg base 2 "_law_pick" 2 F__law_pick) (OK__law_word : Ok P w K mg base 4 "_law_word" 4 F__law_word) (OK__law_term : Ok P w K mg base 4 "_law_term" 2 F__law_term) : Ok P w K mg base 5 "_law_any_claim" 4 F__law_any_claim := by
  have sc := sc__law_any_claim
  refine fn_okO D sc fun cdv A outer s H E f hr => ?_
  exact (ss_cons (s_set (i := 4) sc.nd rfl (by first | exact Or.inl rfl | exact Or.inr rfl) (e_lstS (a_nil)))
    (ss_cons (s_for (vs := [5]) PassesOwn.never rfl (i_range1 (by rfl) T.n_range (a_cons (e_callO OK__law_take hr (by decide) (by rfl) (a_cons (e_var 0) (a_cons (e_add (e_var 3) (e_int)) (a_nil)))) (a_nil))) (g_name [5] sc.nd rfl (by first | exact Or.inl rfl | exact Or.inr rfl) (by decide)) (ss_cons (s_setComp (i := 7) (own := [("k", 9)]) rfl sc.nd rfl rfl (sw_true rfl rfl rfl (by decide +kernel)) (i_range1 (by rfl) T.n_range (a_cons (e_int) (a_nil))) (blkOk_by (N := N__law_any_claim) (sc := defScope (topS 36)) (by decide +kernel)) (fun _ _ _ _ _ => g_name [9] sc.nd rfl (by first | exact Or.inl rfl | exact Or.inr rfl) (by decide)) (fun _ _ _ _ _ => c_nil) (fun _ _ _ _ _ => e_callO OK__law_term hr (by decide) (by rfl) (a_cons (e_var 0) (a_cons (e_var 1) (a_nil)))))
    (ss_cons (s_set (i := 8) sc.nd rfl (by first | exact Or.inl rfl | exact Or.inr rfl) (e_callO OK__law_pick hr (by decide) (by rfl) (a_cons (e_var 0) (a_cons (e_lst (a_cons (e_tup (a_cons (e_tup (a_cons (e_str) (a_cons (e_callO OK__law_pick hr (by decide) (by rfl) (a_cons (e_var 0) (a_cons (e_var 2) (a_nil)))) (a_nil)))) (a_nil))) (a_cons (e_callO OK__law_word hr (by decide) (by rfl) (a_cons (e_var 0) (a_cons (e_var 1) (a_cons (e_var 2) (a_cons (e_int) (a_nil)))))) (a_nil)))) (a_nil)))))
    (ss_one (s_app (e_var 4) (e_callO OK__law_pick hr (by decide) (by rfl) (a_cons (e_var 0) (a_cons (e_lst (a_cons (e_add (e_tup (a_cons (e_str) (a_nil))) (e_callTy b_tuple (by rfl) T.n_tuple boot_tuple (a_cons (e_var 7) (a_nil)))) (a_cons (e_tup (a_cons (e_str) (a_cons (e_idx (e_var 7) (e_int)) (a_cons (e_idx (e_var 7) (e_int)) (a_cons (e_var 8) (a_nil)))))) (a_nil)))) (a_nil)))))))))
    (ss_cons (s_set (i := 6) sc.nd rfl (by first | exact Or.inl rfl | exact Or.inr rfl) (e_lstS (a_nil)))
    (ss_cons (s_for (vs := [5]) PassesOwn.never rfl (i_range1 (by rfl) T.n_range (a_cons (e_callO OK__law_take hr (by decide) (by rfl) (a_cons (e_var 0) (a_cons (e_var 3) (a_nil)))) (a_nil))) (g_name [5] sc.nd rfl (by first | exact Or.inl rfl | exact Or.inr rfl) (by decide)) (ss_one (s_app (e_var 6) (e_tup (a_cons (e_callO OK__law_pick hr (by decide) (by rfl) (a_cons (e_var 0) (a_cons (e_lst (a_cons (e_str) (a_cons (e_str) (a_nil)))) (a_nil)))) (a_cons (e_callO OK__law_term hr (by decide) (by rfl) (a_cons (e_var 0) (a_cons (e_var 1) (a_nil)))) (a_cons (e_callO OK__law_term hr (by decide) (by rfl) (a_cons (e_var 0) (a_cons (e_var 1) (a_nil)))) (a_nil))))))))
    (ss_one (s_ret (e_tup (a_cons (e_callTy b_tuple (by rfl) T.n_tuple boot_tuple (a_cons (e_var 4) (a_nil))) (a_cons (e_callTy b_tuple (by rfl) T.n_tuple boot_tuple (a_cons (e_var 6) (a_nil))) (a_nil))))))))))
theorem ok__law_bent (T : Tx mg) (D : Df K mg "_law_bent" (topS 38) ["feed", "claim", "names", "rows"]) (OK__law_take : Ok P w K mg base 1 "_law_take" 2 F__law_take) (OK__law_pick : Ok P w K mg base 2 "_law_pick" 2 F__law_pick) (OK__law_bent_item : Ok P w K mg base 4 "_law_bent_item" 4 F__law_bent_item) : Ok P w K mg base 5 "_law_bent" 4 F__law_bent := by
  have sc := sc__law_bent
  refine fn_okO D sc fun cdv A outer s H E f hr => ?_
  exact (ss_cons (s_set (i := 4) sc.nd rfl (by first | exact Or.inl rfl | exact Or.inr rfl) (e_callO OK__law_take hr (by decide) (by rfl) (a_cons (e_var 0) (a_cons (e_int) (a_nil)))))
    (ss_cons (s_set (i := 5) sc.nd rfl (by first | exact Or.inl rfl | exact Or.inr rfl) (e_idx (e_var 1) (e_var 4)))
    (ss_cons (s_set (i := 6) sc.nd rfl (by first | exact Or.inl rfl | exact Or.inr rfl) (e_callO OK__law_take hr (by decide) (by rfl) (a_cons (e_var 0) (a_cons (e_add (e_callB b_len (by rfl) T.n_len boot_len (a_cons (e_var 5) (a_nil))) (e_int)) (a_nil)))))
    (ss_cons (s_set (i := 7) sc.nd rfl (by first | exact Or.inl rfl | exact Or.inr rfl) (e_idx (e_add (e_var 5) (e_tup (a_cons (e_tup (a_cons (e_str) (a_cons (e_idx (e_var 2) (e_int)) (a_cons (e_idx (e_var 2) (e_int)) (a_cons (e_int) (a_nil)))))) (a_nil)))) (e_var 6)))
    (ss_cons (s_set (i := 8) sc.nd rfl (by first | exact Or.inl rfl | exact Or.inr rfl) (e_mul (e_lst (a_cons (e_var 7) (a_nil))) (e_callO OK__law_pick hr (by decide) (by rfl) (a_cons (e_var 0) (a_cons (e_lst (a_cons (e_int) (a_cons (e_int) (a_cons (e_int) (a_nil))))) (a_nil))))))
    (ss_cons (s_set (i := 9) sc.nd rfl (by first | exact Or.inl rfl | exact Or.inr rfl) (e_lstS (a_cons (e_add (e_add (e_cut (e_var 5) (o_none) (o_some (e_var 6))) (e_tup (a_cons (e_callO OK__law_bent_item hr (by decide) (by rfl) (a_cons (e_var 0) (a_cons (e_var 7) (a_cons (e_var 2) (a_cons (e_var 3) (a_nil)))))) (a_nil)))) (e_cut (e_var 5) (o_some (e_add (e_var 6) (e_int))) (o_none))) (a_cons (e_add (e_var 5) (e_callTy b_tuple (by rfl) T.n_tuple boot_tuple (a_cons (e_var 8) (a_nil)))) (a_nil)))))
    (ss_cons (s_set (i := 9) sc.nd rfl (by first | exact Or.inl rfl | exact Or.inr rfl) (e_addS (e_var 9) (e_lst (a_cons (e_add (e_add (e_cut (e_var 5) (o_none) (o_some (e_var 6))) (e_idx (e_var 1) (e_sub (e_int) (e_var 4)))) (e_cut (e_var 5) (o_some (e_var 6)) (o_none))) (a_cons (e_callTy b_list (by rfl) T.n_list boot_list (a_cons (e_var 5) (a_nil))) (a_cons (e_non) (a_nil)))))))
    (ss_cons (s_app (e_var 9) (e_add (e_cut (e_var 5) (o_none) (o_some (e_var 6))) (e_cut (e_var 5) (o_some (e_add (e_var 6) (e_int))) (o_none))))
    (ss_cons (s_set (i := 9) sc.nd rfl (by first | exact Or.inl rfl | exact Or.inr rfl) (e_callO OK__law_pick hr (by decide) (by rfl) (a_cons (e_var 0) (a_cons (e_add (e_var 9) (e_lst (a_cons (e_cut (e_add (e_var 5) (e_callTy b_tuple (by rfl) T.n_tuple boot_tuple (a_cons (e_var 8) (a_nil)))) (o_none) (o_some (e_sub (e_int) (e_var 4)))) (a_nil)))) (a_nil)))))
    (ss_cons (s_set (i := 10) sc.nd rfl (by first | exact Or.inl rfl | exact Or.inr rfl) (e_idx (e_lst (a_cons (e_tup (a_cons (e_var 9) (a_cons (e_idx (e_var 1) (e_int)) (a_nil)))) (a_cons (e_tup (a_cons (e_idx (e_var 1) (e_int)) (a_cons (e_var 9) (a_nil)))) (a_nil)))) (e_var 4)))
    (ss_one (s_ret (e_callO OK__law_pick hr (by decide) (by rfl) (a_cons (e_var 0) (a_cons (e_lst (a_cons (e_var 10) (a_cons (e_var 10) (a_cons (e_var 10) (a_cons (e_var 10) (a_cons (e_callTy b_list (by rfl) T.n_list boot_list (a_cons (e_var 10) (a_nil))) (a_cons (e_add (e_var 10) (e_tup (a_cons (e_tup (a_nil)) (a_nil)))) (a_cons (e_cut (e_var 10) (o_none) (o_some (e_int))) (a_cons (e_tup (a_cons (e_var 10) (a_nil))) (a_cons (e_rev (e_var 1)) (a_nil))))))))))) (a_nil))))))))))))))))
theorem ok_has_form (T : Tx mg) (D : Df K mg "has_form" (topS 14) ["thing"]) (OK_is_fact : Ok P w K mg base 3 "is_fact" 1 F_is_fact) (OK_is_part : Ok P w K mg base 5 "is_part" 1 F_is_part) : Ok P w K mg base 6 "has_form" 1 F_has_form := by
  have sc := sc_has_form
  refine fn_okO D sc fun cdv A outer s H E f hr => ?_
  exact (ss_cons (s_if (PW.pt (w_or (t_not (t_val (e_isi .tup (by rfl) T.n_isinstance (by rfl) T.n_tuple boot_tuple (e_var 0)))) (w_or1 (t_cmp (c_ne hr) (e_callB b_len (by rfl) T.n_len boot_len (a_cons (e_var 0) (a_nil))) (e_int))))) (ss_one (s_ret (e_bl))) (ss_nil))
    (ss_cons (s_asg (vs := [1, 2]) (e_var 0) (g_tup rfl (gs_cons (g_name [1, 2] sc.nd rfl (by first | exact Or.inl rfl | exact Or.inr rfl) (by decide)) (gs_cons (g_name [1, 2] sc.nd rfl (by first | exact Or.inl rfl | exact Or.inr rfl) (by decide)) (gs_nil [1, 2])))))
    (ss_cons (s_if (PW.pt (w_or (t_not (t_val (e_isi .tup (by rfl) T.n_isinstance (by rfl) T.n_tuple boot_tuple (e_var 1)))) (w_or1 (t_not (t_val (e_isi .tup (by rfl) T.n_isinstance (by rfl) T.n_tuple boot_tuple (e_var 2))))))) (ss_one (s_ret (e_bl))) (ss_nil))
    (ss_cons (s_if (PW.pt (w_or (t_cmp (c_gt) (e_callB b_len (by rfl) T.n_len boot_len (a_cons (e_var 1) (a_nil))) (e_globI (by rfl) T.c_MOST_PARTS)) (w_or1 (t_cmp (c_gt) (e_callB b_len (by rfl) T.n_len boot_len (a_cons (e_var 2) (a_nil))) (e_globI (by rfl) T.c_MOST_FACTS))))) (ss_one (s_ret (e_bl))) (ss_nil))
    (ss_one (s_ret (e_and (e_callB (b_all rfl) (by rfl) T.n_all boot_all (a_cons (e_comp (own := [("part", 3)]) rfl sc.nd (i_val (e_var 1)) (blkOk_by (N := N_has_form) (sc := defScope (topS 14)) (by decide +kernel)) (fun _ _ _ _ _ => g_name [3] sc.nd rfl (by first | exact Or.inl rfl | exact Or.inr rfl) (by decide)) (fun _ _ _ _ _ => c_nil) (fun _ _ _ _ _ => e_callO OK_is_part hr (by decide) (by rfl) (a_cons (e_var 3) (a_nil)))) (a_nil))) (e_one (e_callB (b_all rfl) (by rfl) T.n_all boot_all (a_cons (e_comp (own := [("fact", 4)]) rfl sc.nd (i_val (e_var 2)) (blkOk_by (N := N_has_form) (sc := defScope (topS 14)) (by decide +kernel)) (fun _ _ _ _ _ => g_name [4] sc.nd rfl (by first | exact Or.inl rfl | exact Or.inr rfl) (by decide)) (fun _ _ _ _ _ => c_nil) (fun _ _ _ _ _ => e_callO OK_is_fact hr (by decide) (by rfl) (a_cons (e_var 4) (a_nil)))) (a_nil)))))))))))
theorem ok_is_claim (T : Tx mg) (D : Df K mg "is_claim" (topS 15) ["thing"]) (OK_term_names : Ok P w K mg base 2 "term_names" 1 F_term_names) (OK_row_names : Ok P w K mg base 2 "row_names" 1 F_row_names) (OK_has_form : Ok P w K mg base 6 "has_form" 1 F_has_form) : Ok P w K mg base 7 "is_claim" 1 F_is_claim := by
  have sc := sc_is_claim
  refine fn_okO D sc fun cdv A outer s H E f hr => ?_
  exact (ss_cons (s_if (t_not (t_val (e_callO OK_has_form hr (by decide) (by rfl) (a_cons (e_var 0) (a_nil))))) (ss_one (s_ret (e_bl))) (ss_nil))
    (ss_cons (s_set (i := 1) sc.nd rfl (by first | exact Or.inl rfl | exact Or.inr rfl) (e_callO OK_term_names hr (by decide) (by rfl) (a_cons (e_var 0) (a_nil))))
    (ss_one (s_ret (e_not (e_comp (own := [("name", 2)]) rfl sc.nd (i_val (e_callO OK_row_names hr (by decide) (by rfl) (a_cons (e_var 0) (a_nil)))) (blkOk_by (N := N_is_claim) (sc := defScope (topS 15)) (by decide +kernel)) (fun _ _ _ _ _ => g_name [2] sc.nd rfl (by first | exact Or.inl rfl | exact Or.inr rfl) (by decide)) (fun _ _ _ _ _ => c_one (t_cmp (c_in hr) (e_var 2) (e_var 1))) (fun _ _ _ _ _ => e_var 2)))))))
theorem ok_law {f : Addr} {fd : FuncData} (T : Tx mg) (u : Fun K "law" "law" (topS 40) f fd) (OK__law_feed : Ok P w K mg base 1 "_law_feed" 2 F__law_feed) (OK__law_take : Ok P w K mg base 1 "_law_take" 2 F__law_take) (OK__law_may_bend : Ok P w K mg base 1 "_law_may_bend" 1 F__law_may_bend) (OK__law_names : Ok P w K mg base 2 "_law_names" 2 F__law_names) (OK__law_is_claim : Ok P w K mg base 5 "_law_is_claim" 1 F__law_is_claim) (OK__law_any_claim : Ok P w K mg base 5 "_law_any_claim" 4 F__law_any_claim) (OK__law_bent : Ok P w K mg base 5 "_law_bent" 4 F__law_bent) (OK_is_claim : Ok P w K mg base 7 "is_claim" 1 F_is_claim) : FnAt P w K mg base callerA [] f fd ["script"] (spD K 1 F_law) := by
  have sc := sc_law
  refine fn_at (k := 7) u sc ⟨rfl, by decide, by decide⟩ fun cdv s H hr => ?_
  exact (ss_cons (s_for (vs := [1]) PassesOwn.never rfl (i_range1 (by rfl) T.n_range (a_cons (e_callB (b_max rfl) (by rfl) T.n_max boot_max (a_cons (e_int) (a_cons (e_callB (b_min rfl) (by rfl) T.n_min boot_min (a_cons (e_int) (a_cons (e_callB b_len (by rfl) T.n_len boot_len (a_cons (e_var 0) (a_nil))) (a_nil)))) (a_nil)))) (a_nil))) (g_name [1] sc.nd rfl (by first | exact Or.inl rfl | exact Or.inr rfl) (by decide)) (ss_cons (s_set (i := 2) sc.nd rfl (by first | exact Or.inl rfl | exact Or.inr rfl) (e_callO OK__law_feed hr (by decide) (by rfl) (a_cons (e_var 0) (a_cons (e_var 1) (a_nil)))))
    (ss_cons (s_set (i := 3) sc.nd rfl (by first | exact Or.inl rfl | exact Or.inr rfl) (e_callO OK__law_names hr (by decide) (by rfl) (a_cons (e_var 2) (a_cons (e_int) (a_nil)))))
    (ss_cons (s_set (i := 4) sc.nd rfl (by first | exact Or.inl rfl | exact Or.inr rfl) (e_callO OK__law_any_claim hr (by decide) (by rfl) (a_cons (e_var 2) (a_cons (e_cut (e_var 3) (o_none) (o_some (e_int))) (a_cons (e_cut (e_var 3) (o_some (e_int)) (o_none)) (a_cons (e_int) (a_nil)))))))
    (ss_cons (s_if (t_cmp (c_isNot) (e_callO OK_is_claim hr (by decide) (by rfl) (a_cons (e_var 4) (a_nil))) (e_bl)) (ss_one (s_ret (e_bl))) (ss_nil))
    (ss_one (s_for (vs := [5]) PassesOwn.never rfl (i_range1 (by rfl) T.n_range (a_cons (e_int) (a_nil))) (g_name [5] sc.nd rfl (by first | exact Or.inl rfl | exact Or.inr rfl) (by decide)) (ss_cons (s_set (i := 6) sc.nd rfl (by first | exact Or.inl rfl | exact Or.inr rfl) (e_callO OK__law_bent hr (by decide) (by rfl) (a_cons (e_var 2) (a_cons (e_var 4) (a_cons (e_cut (e_var 3) (o_none) (o_some (e_int))) (a_cons (e_cut (e_var 3) (o_some (e_int)) (o_none)) (a_nil)))))))
    (ss_cons (s_if (PW.pt (w_and (t_val (e_callO OK__law_may_bend hr (by decide) (by rfl) (a_cons (e_var 6) (a_nil)))) (w_and1 (t_cmp (c_eq hr) (e_callO OK__law_take hr (by decide) (by rfl) (a_cons (e_var 2) (a_cons (e_int) (a_nil)))) (e_int))))) (ss_one (s_set (i := 6) sc.nd rfl (by first | exact Or.inl rfl | exact Or.inr rfl) (e_callO OK__law_bent hr (by decide) (by rfl) (a_cons (e_var 2) (a_cons (e_var 6) (a_cons (e_cut (e_var 3) (o_none) (o_some (e_int))) (a_cons (e_cut (e_var 3) (o_some (e_int)) (o_none)) (a_nil)))))))) (ss_nil))
    (ss_cons (s_set (i := 7) sc.nd rfl (by first | exact Or.inl rfl | exact Or.inr rfl) (e_callB (b_reprA hr rfl) (by rfl) T.n_repr boot_repr (a_cons (e_var 6) (a_nil))))
    (ss_cons (s_set (i := 8) sc.nd rfl (by first | exact Or.inl rfl | exact Or.inr rfl) (e_callO OK_is_claim hr (by decide) (by rfl) (a_cons (e_var 6) (a_nil))))
    (ss_one (s_if (PW.pt (w_or (t_not (t_val (e_isi .bl (by rfl) T.n_isinstance (by rfl) T.n_bool boot_bool (e_var 8)))) (w_or (t_cmp (c_ne hr) (e_var 8) (e_callO OK__law_is_claim hr (by decide) (by rfl) (a_cons (e_var 6) (a_nil)))) (w_or1 (t_cmp (c_neS hr) (e_callB (b_reprA hr rfl) (by rfl) T.n_repr boot_repr (a_cons (e_var 6) (a_nil))) (e_var 7)))))) (ss_one (s_ret (e_bl))) (ss_nil))))))))))))))
    (ss_one (s_ret (e_and (e_cmp (c_is) (e_callO OK_is_claim hr (by decide) (by rfl) (a_cons (e_tup (a_cons (e_tup (a_nil)) (a_cons (e_tup (a_nil)) (a_nil)))) (a_nil))) (e_bl)) (e_one (e_cmp (c_is) (e_callO OK_is_claim hr (by decide) (by rfl) (a_cons (e_tup (a_nil)) (a_nil))) (e_bl)))))))
end
end k03
namespace Vm
open PySem PySem.Spec PyProof.Rows L2
/-- [f(x) for x in t], x in slot k -/
theorem map_comp' {f : FnF} {p : D → Bool} {st : Store} {xs : List D} {env : En} {i k : Nat} {v : D} (hv : env[i]? = some (some v)) (hit : itemsOf st v = some (xs, fun _ => True)) (hl : k < env.length) (hx : xs.length ≤ 16777216) (hf : ∀ d ∈ xs, f [d] st = some (.bl (p d), st)) :
    fComp [k] (iVal (fVar i)) (gSet k) (tYesF) (fCall 1 f (fCons (fVar k) (fNil))) env st = some (.tl (xs.map fun d => .bl (p d)), st) := by
  apply wp_eq
  simp only [wp_comp, wpi_val, wp_var, hv, hit, Option.some.injEq, exists_eq_left']
  refine ⟨hx, ?_⟩
  rw [compN_map (f := fun d => .bl (p d))]
  · simp only [wp_some, and_self]
  · intro d hd
    refine ⟨_, rfl, ?_⟩
    apply wp_eq
    simp [wipeE, hl, hf d hd]
theorem cIn_bls' {p : D → Bool} {st : Store} (b : Bool) (xs : List D) : cIn (.bl b) (.tl (xs.map fun d => .bl (p d))) st = some (xs.any fun d => p d == b) := by
  have hok : ∀ xs : List D, okds (xs.map fun d => D.bl (p d)) = true := by
    intro xs
    induction xs with
    | nil => rfl
    | cons x xs ih => simp [okds, okd, ih]
  unfold cIn isIn
  rw [show deref st (.tl (xs.map fun d => D.bl (p d))) = .tl (xs.map fun d => .bl (p d)) from rfl]
  show (if (okd (.bl b) && okds (xs.map fun d => D.bl (p d)) && decide (min (deps (xs.map fun d => D.bl (p d))) (dep (.bl b)) ≤ 60)) = true then some ((xs.map fun d => D.bl (p d)).any fun z => deq z (.bl b)) else none) = _
  simp only [hok, okd, dep, Bool.and_self, Bool.true_and, Nat.min_zero, Nat.zero_le, decide_true, if_true]
  rw [List.any_map]
  congr 2
end Vm
namespace k03
open PySem PySem.Spec PyProof.Rows L2 Vm
theorem e_take : F__law_take = L_take := rfl
theorem e_pick : F__law_pick = L_pick := rfl
theorem e_number : F__law_number = L_number := rfl
theorem e_names : F__law_names = L_names := rfl
theorem e_feed : F__law_feed = L_feed := rfl
theorem e_name : F_is_name = L_is_name := rfl
theorem e_term : F_is_term = L_is_term := rfl
theorem e_word : F_is_word = L_is_word := rfl
theorem e_w_term : F__law_is_term = W_is_term := rfl
theorem e_w_word : F__law_is_word = W_is_word := rfl
/-! ### parts, facts, the form of a claim -/
def isPt : D → Bool
  | .tup [k, a, b, c] => if isS "cell" k = true then isTm a && isTm b && isTm c else isS "row" k && isTm a && isTm b && isWd c
  | _ => false
def isFt : D → Bool
  | .tup [k, a, b] => (isS "same" k || isS "apart" k) && isTm a && isTm b
  | _ => false
def hasF : D → Bool
  | .tup [.tup ps, .tup fs] => decide (ps.length ≤ 5) && decide (fs.length ≤ 4) && ps.all isPt && fs.all isFt
  | _ => false
theorem is_fact_eq {d : D} {st : Store} (h : small d = true) : F_is_fact [d] st = some (.bl (isFt d), st) := by
  apply wp_eq
  unfold F_is_fact B_is_fact
  rw [wp_fn, e_term]
  refine ⟨rfl, ?_⟩
  cases d with
  | tup xs =>
    by_cases hl : xs.length = 3
    · obtain ⟨k, a, b, rfl⟩ : ∃ k a b, xs = [k, a, b] := by
        match xs, hl with
        | [k, a, b], _ => exact ⟨k, a, b, rfl⟩
      simp only [small, smalls, Bool.and_eq_true] at h
      obtain ⟨⟨hk, ha, hb, _⟩, _⟩ := h
      have e2 := cIn_strs (st := st) hk ["same", "apart"] (by decide +kernel)
      simp only [List.map_cons, List.map_nil, List.any_cons, List.any_nil, Bool.or_false] at e2
      simp [tagOf, isTag, tru, bLen, lenOf, cNe_int, dIdx, e2, is_term_eq ha, is_term_eq hb, -Bool.exists_bool]
      cases z : isS "same" k <;> cases y : isS "apart" k <;> cases z2 : isTm a <;> cases z3 : isTm b <;> simp [isFt, z, y, z2, z3]
    · have hl2 : ¬ ((xs.length : Int) = 3) := by omega
      have : isFt (.tup xs) = false := by
        unfold isFt
        split
        · rename_i e; cases e; exact absurd rfl hl
        · rfl
      simp [tagOf, isTag, tru, bLen, lenOf, cNe_int, hl2, this, -Bool.exists_bool]
  | _ => simp [small] at h <;> simp [tagOf, isTag, tru, isFt, -Bool.exists_bool]
theorem is_part_eq {d : D} {st : Store} (h : small d = true) : F_is_part [d] st = some (.bl (isPt d), st) := by
  apply wp_eq
  unfold F_is_part B_is_part
  rw [wp_fn, e_term, e_word]
  refine ⟨rfl, ?_⟩
  cases d with
  | tup xs =>
    by_cases hl : xs.length = 4
    · obtain ⟨k, a, b, c, rfl⟩ : ∃ k a b c, xs = [k, a, b, c] := by
        match xs, hl with
        | [k, a, b, c], _ => exact ⟨k, a, b, c, rfl⟩
      simp only [small, smalls, Bool.and_eq_true] at h
      obtain ⟨⟨hk, ha, hb, hc, _⟩, _⟩ := h
      have e1 := cEq_str (st := st) hk "cell" (by decide +kernel)
      have e2 := cEq_str (st := st) hk "row" (by decide +kernel)
      simp [tagOf, isTag, tru, bLen, lenOf, cNe_int, gTupF, gConsF, gSet, gNilF, e1, e2, is_term_eq ha, is_term_eq hb, is_term_eq hc, is_word_eq hc, -Bool.exists_bool]
      by_cases z : isS "cell" k = true
      · by_cases z1 : isTm a = true
        · by_cases z2 : isTm b = true
          · simp [isPt, z, z1, z2]
          · simp [isPt, z, z1, z2]
        · simp [isPt, z, z1]
      · by_cases y : isS "row" k = true
        · by_cases z1 : isTm a = true
          · by_cases z2 : isTm b = true
            · simp [isPt, z, y, z1, z2]
            · simp [isPt, z, y, z1, z2]
          · simp [isPt, z, y, z1]
        · simp [isPt, z, y]
    · have hl2 : ¬ ((xs.length : Int) = 4) := by omega
      have : isPt (.tup xs) = false := by
        unfold isPt
        split
        · rename_i e; cases e; exact absurd rfl hl
        · rfl
      simp [tagOf, isTag, tru, bLen, lenOf, cNe_int, hl2, this, -Bool.exists_bool]
  | _ => simp [small] at h <;> simp [tagOf, isTag, tru, isPt, -Bool.exists_bool]
set_option maxHeartbeats 4000000 in
theorem has_form_eq {d : D} {st : Store} (h : small d = true) : F_has_form [d] st = some (.bl (hasF d), st) := by
  apply wp_eq
  unfold F_has_form B_has_form
  rw [wp_fn]
  refine ⟨rfl, ?_⟩
  cases d with
  | tup xs =>
    by_cases hl : xs.length = 2
    · obtain ⟨a, b, rfl⟩ : ∃ a b, xs = [a, b] := by
        match xs, hl with
        | [a, b], _ => exact ⟨a, b, rfl⟩
      simp only [small, smalls, Bool.and_eq_true] at h
      obtain ⟨⟨ha, hb, _⟩, _⟩ := h
      by_cases ta : ∃ ps, a = .tup ps
      · obtain ⟨ps, rfl⟩ := ta
        by_cases tb : ∃ fs, b = .tup fs
        · obtain ⟨fs, rfl⟩ := tb
          simp only [small, Bool.and_eq_true, decide_eq_true_eq] at ha hb
          have k1 := map_comp' (f := F_is_part) (p := isPt) (st := st) (xs := ps) (env := [some (.tup [.tup ps, .tup fs]), some (.tup ps), some (.tup fs), none, none]) (i := 1) (k := 3) (v := .tup ps) rfl rfl (by simp) (by omega) fun d hd => is_part_eq (smalls_mem ha.1 hd)
          have k2 := map_comp' (f := F_is_fact) (p := isFt) (st := st) (xs := fs) (env := [some (.tup [.tup ps, .tup fs]), some (.tup ps), some (.tup fs), none, none]) (i := 2) (k := 4) (v := .tup fs) rfl rfl (by simp) (by omega) fun d hd => is_fact_eq (smalls_mem hb.1 hd)
          generalize fComp [3] (iVal (fVar 1)) (gSet 3) (tYesF) (fCall 1 F_is_part (fCons (fVar 3) (fNil))) = X1 at k1 ⊢
          generalize fComp [4] (iVal (fVar 2)) (gSet 4) (tYesF) (fCall 1 F_is_fact (fCons (fVar 4) (fNil))) = X2 at k2 ⊢
          by_cases l1 : ps.length ≤ 5
          · by_cases l2 : fs.length ≤ 4
            · cases z1 : ps.all isPt <;> cases z2 : fs.all isFt <;> simp [tagOf, isTag, tru, bLen, lenOf, cNe_int, cGt, cI, gTupF, gConsF, gSet, gNilF, show ¬ (5 : Int) < ps.length by omega, show ¬ (4 : Int) < fs.length by omega, k1, k2, bAll, lsqOf, boolsOf_map, all_id, z1, z2, hasF, l1, l2, -Bool.exists_bool, -List.all_eq_true, -List.all_eq_false]
            · simp [tagOf, isTag, tru, bLen, lenOf, cNe_int, cGt, cI, gTupF, gConsF, gSet, gNilF, show ¬ (5 : Int) < ps.length by omega, show (4 : Int) < fs.length by omega, hasF, l1, l2, -Bool.exists_bool]
          · simp [tagOf, isTag, tru, bLen, lenOf, cNe_int, cGt, cI, gTupF, gConsF, gSet, gNilF, show (5 : Int) < ps.length by omega, hasF, l1, -Bool.exists_bool]
        · have no : hasF (.tup [.tup ps, b]) = false := by
            unfold hasF
            split
            · rename_i e; cases e; exact absurd ⟨_, rfl⟩ tb
            · rfl
          cases b with
          | tup fs => exact absurd ⟨fs, rfl⟩ tb
          | _ => simp [small] at hb <;> simp [tagOf, isTag, tru, bLen, lenOf, cNe_int, gTupF, gConsF, gSet, gNilF, no, -Bool.exists_bool]
      · have no : hasF (.tup [a, b]) = false := by
          unfold hasF
          split
          · rename_i e; cases e; exact absurd ⟨_, rfl⟩ ta
          · rfl
        cases a with
        | tup ps => exact absurd ⟨ps, rfl⟩ ta
        | _ => simp [small] at ha <;> simp [tagOf, isTag, tru, bLen, lenOf, cNe_int, gTupF, gConsF, gSet, gNilF, no, -Bool.exists_bool]
    · have hl2 : ¬ ((xs.length : Int) = 2) := by omega
      have : hasF (.tup xs) = false := by
        unfold hasF
        split
        · rename_i e; cases e; exact absurd rfl hl
        · rfl
      simp [tagOf, isTag, tru, bLen, lenOf, cNe_int, hl2, this, -Bool.exists_bool]
  | _ => simp [small] at h <;> simp [tagOf, isTag, tru, hasF, -Bool.exists_bool]
end k03
namespace k03
open PySem PySem.Spec PyProof.Rows L2 Vm
local macro_rules | `(tactic| walk_at "ev") => `(tactic| simp only [↓ev_bin, ↓kbin, ↓kbin2, ↓kv, ↓kbl, ↓ev_cmp, ↓kcmp, ↓kcmp2, ↓ev_chain, ↓kch, ↓kch2, kch3_t, kch3_f, ↓ev_cons, ↓kcons, ↓kcons2, ↓ev_tup, ↓ktup, ↓ev_lst, ↓klst, ↓ev_lstS, ↓klstS, ↓ev_neg, ↓kneg, ↓ev_or, ↓kor, kor2_t, kor2_f, ↓ev_and, ↓kand, kand2_t, kand2_f, ↓ev_not, ↓knot, ↓knt, kif_t, kif_f, ↓ev_ite, ↓ev_oSome, ↓kos, ↓ev_cut, ↓kcut, ↓kcut2, ↓kcut3, ↓ev_call, ↓kcall, ↓ev_blt, ↓kblt, ↓ev_isi, ↓kisi, ↓ktg, ↓ev_rev, ↓krev, ↓ev_addS, ↓kas, ↓kas2, ↓kas25, ↓kas3, ↓kfn_rt, ↓kfn_nx, ↓ev_tcmp, ↓ktc, ↓ktc2, ↓ev_tchain, ↓ktch, ↓ev_tru, ↓ktru, ↓ev_tand, ktand_t, ktand_f, ↓ev_tor, ktor_t, ktor_f, ↓ev_tnot, ↓ktnot, ↓ev_tite, ↓ev_seq, kt_nx, kt_rt, kt_bk, kt_ct, ↓ev_ret, ↓kret, ↓ev_expr, ↓kexpr, ↓ev_set, ↓kset, ↓knx, ↓ev_asg, ↓kasg, ↓ev_if, ↓ev_put, ↓kput, ↓kput1, ↓kputs, ↓kput2, ↓ev_aug, ↓kaug, ↓kaug2, ↓kaug3, ↓ev_app, ↓kapp, ↓kapp15, ↓kapp2, ↓kapp3, ↓ev_ext, ↓kext, ↓kext15, ↓kext2, ↓kext3, ↓kext4, ↓ev_for, ↓kfor, kinv_nx, kinv_ct, kinv_bk, kinv_rt, ↓kturn, ↓ev_ival, ↓kiv, ↓ev_range1, ↓kr1, ↓ktl, ↓ev_comp, ↓kcomp, wipe_nil, wipe_cons,
  fv0, fvS, fcon, fnil, ev_oNone, ev_dicN, ev_disp, ev_tyes, snil, spass, sbrk, scnt, sretn, wp_some, ob_some, cd_true,
  List.map_cons, List.map_nil, List.replicate, List.cons_append, List.nil_append, List.append_nil, List.set_cons_zero, List.set_cons_succ, List.length_cons, List.length_nil, Nat.reduceSub, Nat.reduceAdd, Nat.reduceLeDiff, Nat.zero_add, Nat.zero_le, Bool.not_true, Bool.not_false, gSet, gTupF, gConsF, gNilF, dAdd_int, dSub_int, dIdx_tup, dCut_tup, dCut_tl, dRev_tup, bLen_tup, bLen_tl, bList_tup, bList_tl, bTuple_tl, bTuple_tup, bListS_tup, bListS_tl, dIdx_tl, extOf_tup, extOf_tl, lstOf_tl, lstOf_ref, items_tl, items_tup, dAdd_tup, dAdd_tl, List.length_append, atI3, atI4, atI5, cEq_int, cNe_int, atI0, atI1, atI2, tag_non, tag_bl, tag_int, tag_str, tag_tup, tag_tl, tag_sl, isTag, reduceCtorEq, decide_true, decide_false, tru_non, tru_bl, tru_int, tru_tup, tru_tl, tru_sl, Bool.false_eq_true, if_true, if_false, reduceIte, Int.cast_ofNat_Int, cast0, cast1, Int.reduceEq, Int.reduceLE, Int.reduceLT, Int.reduceToNat, Int.reduceAdd, Int.reduceSub, Int.reduceNeg, cLt_int, cLe_int, cGt_int, cGe_int, and_self, rangeD_zero, rangeD_succ, Option.isSome_some, Option.isSome_none, List.isEmpty_nil, List.isEmpty_cons])
local macro_rules | `(tactic| walk_at "evs") => `(tactic| simp only [↓ev_bin, ↓kbin, ↓kbin2, ↓kv, ↓kbl, ↓ev_cmp, ↓kcmp, ↓kcmp2, ↓ev_chain, ↓kch, ↓kch2, kch3_t, kch3_f, ↓ev_cons, ↓kcons, ↓kcons2, ↓ev_tup, ↓ktup, ↓ev_lst, ↓klst, ↓ev_lstS, ↓klstS, ↓ev_neg, ↓kneg, ↓ev_or, ↓kor, kor2_t, kor2_f, ↓ev_and, ↓kand, kand2_t, kand2_f, ↓ev_not, ↓knot, ↓knt, kif_t, kif_f, ↓ev_ite, ↓ev_oSome, ↓kos, ↓ev_cut, ↓kcut, ↓kcut2, ↓kcut3, ↓ev_call, ↓kcall, ↓ev_blt, ↓kblt, ↓ev_isi, ↓kisi, ↓ktg, ↓ev_rev, ↓krev, ↓ev_addS, ↓kas, ↓kas2, ↓kas25, ↓kas3, ↓kfn_rt, ↓kfn_nx, ↓ev_tcmp, ↓ktc, ↓ktc2, ↓ev_tchain, ↓ktch, ↓ev_tru, ↓ktru, ↓ev_tand, ktand_t, ktand_f, ↓ev_tor, ktor_t, ktor_f, ↓ev_tnot, ↓ktnot, ↓ev_tite, ↓ev_seq, kt_nx, kt_rt, kt_bk, kt_ct, ↓ev_ret, ↓kret, ↓ev_expr, ↓kexpr, ↓ev_set, ↓kset, ↓knx, ↓ev_asg, ↓kasg, ↓ev_if, ↓ev_put, ↓kput, ↓kput1, ↓kputs, ↓kput2, ↓ev_aug, ↓kaug, ↓kaug2, ↓kaug3, ↓ev_app, ↓kapp, ↓kapp15, ↓kapp2, ↓kapp3, ↓ev_ext, ↓kext, ↓kext15, ↓kext2, ↓kext3, ↓kext4, ↓ev_for, ↓kfor, kinv_nx, kinv_ct, kinv_bk, kinv_rt, ↓kturn, ↓ev_ival, ↓kiv, ↓ev_range1, ↓kr1, ↓ktl, ↓ev_comp, ↓kcomp, wipe_nil, wipe_cons,
  fv0, fvS, fcon, fnil, ev_oNone, ev_dicN, ev_disp, ev_tyes, snil, spass, sbrk, scnt, sretn, wp_some, ob_some, cd_true,
  List.map_cons, List.map_nil, List.replicate, List.cons_append, List.nil_append, List.append_nil, List.set_cons_zero, List.set_cons_succ, List.length_cons, List.length_nil, Nat.reduceSub, Nat.reduceAdd, Nat.reduceLeDiff, Nat.zero_add, Nat.zero_le, Bool.not_true, Bool.not_false, gSet, gTupF, gConsF, gNilF, dAdd_int, dSub_int, dIdx_tup, dCut_tup, dCut_tl, dRev_tup, bLen_tup, bLen_tl, bList_tup, bList_tl, bTuple_tl, bTuple_tup, bListS_tup, bListS_tl, dIdx_tl, extOf_tup, extOf_tl, lstOf_tl, lstOf_ref, items_tl, items_tup, dAdd_tup, dAdd_tl, List.length_append, atI3, atI4, atI5, cEq_int, cNe_int, atI0, atI1, atI2, tag_non, tag_bl, tag_int, tag_str, tag_tup, tag_tl, tag_sl, isTag, reduceCtorEq, decide_true, decide_false, tru_non, tru_bl, tru_int, tru_tup, tru_tl, tru_sl, Bool.false_eq_true, if_true, if_false, reduceIte, Int.cast_ofNat_Int, cast0, cast1, Int.reduceEq, Int.reduceLE, Int.reduceLT, Int.reduceToNat, Int.reduceAdd, Int.reduceSub, Int.reduceNeg, cLt_int, cLe_int, cGt_int, cGe_int, and_self, rangeD_zero, rangeD_succ, Option.isSome_some, Option.isSome_none, List.isEmpty_nil, List.isEmpty_cons, *])
def isOne : D → Bool
  | .tup [k, _] => isS "one" k
  | _ => false
def snd : D → D
  | .tup [_, t] => t
  | _ => .non
def onesW : D → List D
  | .tup ps => (ps.filter fun p => isOne p == true).map snd
  | _ => []
def rowsW : D → List D
  | .tup ps => (ps.filter fun p => isOne p == false).map snd
  | _ => []
def tmI : D → List D
  | .tup [k, a, b, c] => if isS "row" k = true then [a, b] ++ onesW c else [a, b, c]
  | .tup [_, a, b] => [a, b]
  | _ => []
def rwI : D → List D
  | .tup [k, _, _, c] => if isS "row" k = true then rowsW c else []
  | _ => []
theorem isS_ne {a b : Str} {k : D} (h : isS a k = true) (hab : (a == b) = false) : isS b k = false := by
  cases k <;> simp [isS] at h ⊢
  subst h
  intro e
  simp [e] at hab
theorem isPt_cases {d : D} (h : isPt d = true) : (∃ k a b c, d = .tup [k, a, b, c] ∧ isS "cell" k = true ∧ isTm a = true ∧ isTm b = true ∧ isTm c = true) ∨ (∃ k a b ps, d = .tup [k, a, b, .tup ps] ∧ isS "row" k = true ∧ isS "cell" k = false ∧ isTm a = true ∧ isTm b = true ∧ ps.length ≤ 6 ∧ ∀ p ∈ ps, isPc p = true) := by
  unfold isPt at h
  split at h
  · rename_i k a b c
    split at h
    · rename_i hk
      simp only [Bool.and_eq_true] at h
      exact .inl ⟨k, a, b, c, rfl, hk, h.1.1, h.1.2, h.2⟩
    · rename_i hk
      simp only [Bool.and_eq_true] at h
      obtain ⟨⟨⟨h1, h2⟩, h3⟩, h4⟩ := h
      unfold isWd at h4
      split at h4
      · rename_i ps
        simp only [Bool.and_eq_true, decide_eq_true_eq, List.all_eq_true] at h4
        exact .inr ⟨k, a, b, ps, rfl, h1, by simpa using hk, h2, h3, h4.1, h4.2⟩
      · cases h4
  · cases h
theorem isFt_cases {d : D} (h : isFt d = true) : ∃ k a b, d = .tup [k, a, b] ∧ (isS "same" k = true ∨ isS "apart" k = true) ∧ isTm a = true ∧ isTm b = true := by
  unfold isFt at h
  split at h
  · rename_i k a b
    simp only [Bool.and_eq_true, Bool.or_eq_true] at h
    exact ⟨k, a, b, rfl, h.1.1, h.1.2, h.2⟩
  · cases h
theorem isPc_cases {d : D} (h : isPc d = true) : ∃ k t, d = .tup [k, t] := by
  unfold isPc at h
  split at h
  · exact ⟨_, _, rfl⟩
  · cases h
theorem cNe_str {d : D} {st : Store} (h : small d = true) (s : Str) (hs : PyData.strOk s = true) : cNe d (.str s) st = some (!isS s d) := by
  have := cEq_str (st := st) h s hs
  unfold cEq at this
  unfold cNe
  split at this
  · rename_i q
    rw [if_pos q]
    rw [Option.some.inj this]
  · cases this
theorem ok_cell : PyData.strOk "cell" = true := by decide +kernel
theorem ok_row : PyData.strOk "row" = true := by decide +kernel
theorem ok_one : PyData.strOk "one" = true := by decide +kernel
theorem comp_snd {ps : List D} {env : En} {st : Store} {b : Bool} {c : CmpF} (hl : 2 < env.length) (hp : ∀ p ∈ ps, small p = true ∧ isPc p = true) (hc : ∀ k, small k = true → c k (.str "one") st = some (isS "one" k == b)) :
    compN (fun _ => True) (gTupF 2 (gConsF (gSet 1) (gConsF (gSet 2) gNilF))) (tCmpF c (fVar 1) (fCon (.str "one"))) (fVar 2) ps (wipeE env [1, 2]) st = some ((ps.filter fun p => isOne p == b).map snd, st) := by
  rw [compN_filter (f := snd) (p := fun p => isOne p == b)]
  intro d hd
  obtain ⟨hs, hpc⟩ := hp d hd
  obtain ⟨k, t, rfl⟩ := isPc_cases hpc
  simp only [small, smalls, Bool.and_eq_true] at hs
  obtain ⟨⟨hk, ht, _⟩, _⟩ := hs
  refine ⟨_, rfl, ?_, fun _ => ?_⟩
  · have h1 : fVar 1 (((wipeE env [1, 2]).set 1 (some k)).set 2 (some t)) st = some (k, st) := by
      unfold fVar
      rw [List.getElem?_set_ne (by omega), List.getElem?_set_self (by simp [wipeE]; omega)]
    unfold tCmpF
    simp only [h1, fCon, hc k hk]
    rfl
  · unfold fVar
    rw [List.getElem?_set_self (by simp [wipeE]; omega)]
    rfl
theorem terms_in_eq {d : D} {st : Store} (h : small d = true) (hp : isPt d = true ∨ isFt d = true) : F_terms_in [d] st = some (.tl (tmI d), st) := by
  apply wp_eq
  unfold F_terms_in B_terms_in
  rw [ev_fn]
  refine ⟨rfl, ?_⟩
  have main : (∃ k a b c, d = .tup [k, a, b, c] ∧ isS "row" k = false) ∨ (∃ k a b, d = .tup [k, a, b] ∧ isS "row" k = false) ∨ (∃ k a b ps, d = .tup [k, a, b, .tup ps] ∧ isS "row" k = true ∧ ps.length ≤ 6 ∧ ∀ p ∈ ps, isPc p = true) := by
    rcases hp with hp | hp
    · rcases isPt_cases hp with ⟨k, a, b, c, rfl, hk, _⟩ | ⟨k, a, b, ps, rfl, hk, _, _, _, hl, hw⟩
      · exact .inl ⟨k, a, b, c, rfl, isS_ne hk (by decide)⟩
      · exact .inr (.inr ⟨k, a, b, ps, rfl, hk, hl, hw⟩)
    · obtain ⟨k, a, b, rfl, hk, _⟩ := isFt_cases hp
      exact .inr (.inl ⟨k, a, b, rfl, by rcases hk with hk | hk <;> exact isS_ne hk (by decide)⟩)
  rcases main with ⟨k, a, b, c, rfl, hk⟩ | ⟨k, a, b, rfl, hk⟩ | ⟨k, a, b, ps, rfl, hk, hl, hw⟩
  · have hsk : small k = true := by simp only [small, smalls, Bool.and_eq_true] at h; exact h.1.1
    have e1 := cNe_str (st := st) hsk "row" ok_row
    walk_at "evs"
    simp [tmI, hk, Vm.cutD, HT.sIx]
  · have hsk : small k = true := by simp only [small, smalls, Bool.and_eq_true] at h; exact h.1.1
    have e1 := cNe_str (st := st) hsk "row" ok_row
    walk_at "evs"
    simp [tmI, hk, Vm.cutD, HT.sIx]
  · simp only [small, smalls, Bool.and_eq_true, decide_eq_true_eq] at h
    obtain ⟨⟨hsk, ha, hb, ⟨hps, _⟩, _⟩, _⟩ := h
    have e1 := cNe_str (st := st) hsk "row" ok_row
    have e2 := comp_snd (ps := ps) (env := [some (.tup [k, a, b, .tup ps]), none, none]) (st := st) (b := true) (c := cEq) (by simp) (fun p hp => ⟨smalls_mem hps hp, hw p hp⟩) (fun k hk => by rw [cEq_str hk "one" ok_one]; simp)
    have e3 : ps.length ≤ 16777216 := by omega
    have e4 : 2 + ((ps.filter fun p => isOne p == true).map snd).length ≤ 16777216 := by
      have := List.length_filter_le (fun p => isOne p == true) ps
      rw [List.length_map]
      omega
    simp only [wipe_cons, wipe_nil, List.set_cons_zero, List.set_cons_succ] at e2
    walk_at "evs"
    simp [tmI, hk, onesW]
theorem rows_in_eq {d : D} {st : Store} (h : small d = true) (hp : isPt d = true) : F_rows_in [d] st = some (.tl (rwI d), st) := by
  apply wp_eq
  unfold F_rows_in B_rows_in
  rw [ev_fn]
  refine ⟨rfl, ?_⟩
  rcases isPt_cases hp with ⟨k, a, b, c, rfl, hk, _⟩ | ⟨k, a, b, ps, rfl, hk, _, _, _, hl, hw⟩
  · have hsk : small k = true := by simp only [small, smalls, Bool.and_eq_true] at h; exact h.1.1
    have hk := isS_ne (b := "row") hk (by decide)
    have e1 := cNe_str (st := st) hsk "row" ok_row
    walk_at "evs"
    simp [rwI, hk]
  · simp only [small, smalls, Bool.and_eq_true, decide_eq_true_eq] at h
    obtain ⟨⟨hsk, ha, hb, ⟨hps, _⟩, _⟩, _⟩ := h
    have e1 := cNe_str (st := st) hsk "row" ok_row
    have e2 := comp_snd (ps := ps) (env := [some (.tup [k, a, b, .tup ps]), none, none]) (st := st) (b := false) (c := cNe) (by simp) (fun p hp => ⟨smalls_mem hps hp, hw p hp⟩) (fun k hk => by rw [cNe_str hk "one" ok_one]; simp)
    have e3 : ps.length ≤ 16777216 := by omega
    simp only [wipe_cons, wipe_nil, List.set_cons_zero, List.set_cons_succ] at e2
    walk_at "evs"
    simp [rwI, hk, rowsW]
/-! the names of a claim -/
theorem tmI_mem {d x : D} (h : small d = true) (hp : isPt d = true ∨ isFt d = true) (hx : x ∈ tmI d) : small x = true ∧ isTm x = true := by
  have pr : ∀ {k a b : D} {ps : List D}, small (.tup [k, a, b, .tup ps]) = true → (∀ p ∈ ps, isPc p = true) → ∀ x ∈ onesW (.tup ps), small x = true ∧ isTm x = true := by
    intro k a b ps h hw x hx
    simp only [small, smalls, Bool.and_eq_true, decide_eq_true_eq] at h
    obtain ⟨⟨hsk, ha, hb, ⟨hps, _⟩, _⟩, _⟩ := h
    simp only [onesW, List.mem_map, List.mem_filter] at hx
    obtain ⟨p, ⟨hp, ho⟩, rfl⟩ := hx
    have hpc := hw p hp
    have hs := smalls_mem hps hp
    obtain ⟨k', t, rfl⟩ := isPc_cases hpc
    simp only [small, smalls, Bool.and_eq_true] at hs
    simp only [isOne, beq_iff_eq] at ho
    rw [isPc_two, if_pos ho] at hpc
    exact ⟨hs.1.2.1, hpc⟩
  rcases hp with hp | hp
  · rcases isPt_cases hp with ⟨k, a, b, c, rfl, hk, h1, h2, h3⟩ | ⟨k, a, b, ps, rfl, hk, _, h1, h2, hl, hw⟩
    · simp only [tmI, isS_ne (b := "row") hk (by decide), Bool.false_eq_true, if_false] at hx
      simp only [List.mem_cons, List.not_mem_nil, or_false] at hx
      rcases hx with rfl | rfl | rfl
      · exact ⟨small_tm h1, h1⟩
      · exact ⟨small_tm h2, h2⟩
      · exact ⟨small_tm h3, h3⟩
    · simp only [tmI, hk, if_true, List.mem_append, List.mem_cons, List.not_mem_nil, or_false] at hx
      rcases hx with (rfl | rfl) | hx
      · exact ⟨small_tm h1, h1⟩
      · exact ⟨small_tm h2, h2⟩
      · exact pr h hw x hx
  · obtain ⟨k, a, b, rfl, hk, h1, h2⟩ := isFt_cases hp
    simp only [tmI, List.mem_cons, List.not_mem_nil, or_false] at hx
    rcases hx with rfl | rfl
    · exact ⟨small_tm h1, h1⟩
    · exact ⟨small_tm h2, h2⟩
theorem rwI_mem {d x : D} (hp : isPt d = true) (hx : x ∈ rwI d) : isNm x = true := by
  rcases isPt_cases hp with ⟨k, a, b, c, rfl, hk, h1, h2, h3⟩ | ⟨k, a, b, ps, rfl, hk, _, h1, h2, hl, hw⟩
  · simp [rwI, isS_ne (b := "row") hk (by decide)] at hx
  · simp only [rwI, hk, if_true, rowsW, List.mem_map, List.mem_filter] at hx
    obtain ⟨p, ⟨hp, ho⟩, rfl⟩ := hx
    have hpc := hw p hp
    obtain ⟨k', t, rfl⟩ := isPc_cases hpc
    simp only [isOne, beq_iff_eq] at ho
    rw [isPc_two, if_neg (by simp [ho])] at hpc
    simp only [Bool.and_eq_true] at hpc
    exact hpc.2
theorem tmI_length {d : D} (hp : isPt d = true ∨ isFt d = true) : (tmI d).length ≤ 8 := by
  rcases hp with hp | hp
  · rcases isPt_cases hp with ⟨k, a, b, c, rfl, hk, h1, h2, h3⟩ | ⟨k, a, b, ps, rfl, hk, _, h1, h2, hl, hw⟩
    · simp [tmI, isS_ne (b := "row") hk (by decide)]
    · have := List.length_filter_le (fun p => isOne p == true) ps
      simp only [tmI, hk, if_true, onesW, List.length_append, List.length_cons, List.length_nil, List.length_map]
      omega
  · obtain ⟨k, a, b, rfl, hk, h1, h2⟩ := isFt_cases hp
    simp [tmI]
theorem rwI_length {d : D} (hp : isPt d = true) : (rwI d).length ≤ 6 := by
  rcases isPt_cases hp with ⟨k, a, b, c, rfl, hk, h1, h2, h3⟩ | ⟨k, a, b, ps, rfl, hk, _, h1, h2, hl, hw⟩
  · simp [rwI, isS_ne (b := "row") hk (by decide)]
  · have := List.length_filter_le (fun p => isOne p == false) ps
    simp only [rwI, hk, if_true, rowsW, List.length_map]
    omega
/-! all of these, gathered in a list of the store -/
theorem gather {f : FnF} {g : D → List D} {its : List D} {i j n : Nat} {env : En} {st s0 : Store} {Q : Out → Store → Prop} {M : Nat} (hf : ∀ d ∈ its, ∀ st, f [d] st = some (.tl (g d), st)) (hg : ∀ d ∈ its, (g d).length ≤ M)
    (hi : env[i]? = some (some (.ref n))) (hij : i ≠ j) (hjl : j < env.length) (h0 : lstAt st n = some []) (hk : Kp s0 st) (hn : s0.length ≤ n) (hM : its.length * M ≤ 16777216)
    (hQ : ∀ e s, e[i]? = some (some (.ref n)) → e.length = env.length → (∀ k, k ≠ j → e[k]? = env[k]?) → lstAt s n = some (its.flatMap g) → Kp s0 s → Q (.nx e) s) :
    Wp (forN (fun _ => True) (gSet j) (sExt (fVar i) (fCall 1 f (fCons (fVar j) fNil))) its env st) Q := by
  refine ev_forI (fun k e s => e[i]? = some (some (.ref n)) ∧ e.length = env.length ∧ (∀ k, k ≠ j → e[k]? = env[k]?) ∧ lstAt s n = some ((its.take k).flatMap g) ∧ Kp s0 s) ⟨hi, rfl, fun _ _ => rfl, by simpa using h0, hk⟩ (fun k d e s hd hI => ?_) (fun e s hI => ?_)
  · obtain ⟨h1, h2, h3, h4, h5⟩ := hI
    refine ⟨trivial, _, rfl, ?_⟩
    have hm := List.mem_of_getElem? hd
    have v1 : fVar i (e.set j (some d)) s = some (.ref n, s) := by
      unfold fVar
      rw [List.getElem?_set_ne (Ne.symm hij), h1]
    have v2 : ∀ s, fVar j (e.set j (some d)) s = some (d, s) := fun s => by
      unfold fVar
      rw [List.getElem?_set_self (by omega)]
    have e1 := hf d hm
    have hlt := lstAt_lt h4
    have hst : (its.take (k + 1)).flatMap g = (its.take k).flatMap g ++ g d := by
      rw [List.take_add_one, hd]
      simp
    have hkl : k < its.length := (List.getElem?_eq_some_iff.mp hd).1
    have hln : ((its.take k).flatMap g).length ≤ k * M := by
      have : ∀ (ys : List D), (∀ y ∈ ys, y ∈ its) → (ys.flatMap g).length ≤ ys.length * M := by
        intro ys
        induction ys with
        | nil => simp
        | cons y ys ih =>
          intro hy
          have := ih fun z hz => hy z (List.mem_cons_of_mem _ hz)
          have := hg y (hy y List.mem_cons_self)
          rw [List.flatMap_cons, List.length_append, List.length_cons, Nat.add_mul]
          omega
      have := this (its.take k) fun y hy => List.mem_of_mem_take hy
      rw [List.length_take, Nat.min_eq_left (by omega)] at this
      exact this
    have hgd := hg d hm
    have hk1 : (k + 1) * M ≤ its.length * M := Nat.mul_le_mul_right _ (by omega)
    rw [Nat.add_mul] at hk1
    have hcap : ((its.take k).flatMap g).length + (g d).length ≤ 16777216 := by omega
    show Wp (sExt (fVar i) (fCall 1 f (fCons (fVar j) fNil)) (e.set j (some d)) s) _
    rw [ev_ext, v1, wp_some, kext, h4, ob_some, kext15, ev_call, ev_cons, v2, wp_some, kcons, fnil, wp_some, kcons2, kcall]
    refine cd_of rfl ?_
    rw [e1, wp_some, kext2, h4, ob_some, kext3, extOf_tl, ob_some, kext4]
    refine cd_of hcap ?_
    rw [kinv_nx]
    refine ⟨by rw [List.getElem?_set_ne (Ne.symm hij)]; exact h1, by rw [List.length_set]; exact h2, fun m hm => by rw [List.getElem?_set_ne (Ne.symm hm)]; exact h3 m hm, by rw [lstAt_set hlt, hst], h5.setN hn⟩
  · obtain ⟨h1, h2, h3, h4, h5⟩ := hI
    rw [List.take_length] at h4
    exact ⟨trivial, hQ e s h1 h2 h3 h4 h5⟩
end k03
namespace k03
open PySem PySem.Spec PyProof.Rows L2 Vm
local macro_rules | `(tactic| walk_at "ev") => `(tactic| simp only [↓ev_bin, ↓kbin, ↓kbin2, ↓kv, ↓kbl, ↓ev_cmp, ↓kcmp, ↓kcmp2, ↓ev_chain, ↓kch, ↓kch2, kch3_t, kch3_f, ↓ev_cons, ↓kcons, ↓kcons2, ↓ev_tup, ↓ktup, ↓ev_lst, ↓klst, ↓ev_lstS, ↓klstS, ↓ev_neg, ↓kneg, ↓ev_or, ↓kor, kor2_t, kor2_f, ↓ev_and, ↓kand, kand2_t, kand2_f, ↓ev_not, ↓knot, ↓knt, kif_t, kif_f, ↓ev_ite, ↓ev_oSome, ↓kos, ↓ev_cut, ↓kcut, ↓kcut2, ↓kcut3, ↓ev_call, ↓kcall, ↓ev_blt, ↓kblt, ↓ev_isi, ↓kisi, ↓ktg, ↓ev_rev, ↓krev, ↓ev_addS, ↓kas, ↓kas2, ↓kas25, ↓kas3, ↓kfn_rt, ↓kfn_nx, ↓ev_tcmp, ↓ktc, ↓ktc2, ↓ev_tchain, ↓ktch, ↓ev_tru, ↓ktru, ↓ev_tand, ktand_t, ktand_f, ↓ev_tor, ktor_t, ktor_f, ↓ev_tnot, ↓ktnot, ↓ev_tite, ↓ev_seq, kt_nx, kt_rt, kt_bk, kt_ct, ↓ev_ret, ↓kret, ↓ev_expr, ↓kexpr, ↓ev_set, ↓kset, ↓knx, ↓ev_asg, ↓kasg, ↓ev_if, ↓ev_put, ↓kput, ↓kput1, ↓kputs, ↓kput2, ↓ev_aug, ↓kaug, ↓kaug2, ↓kaug3, ↓ev_app, ↓kapp, ↓kapp15, ↓kapp2, ↓kapp3, ↓ev_ext, ↓kext, ↓kext15, ↓kext2, ↓kext3, ↓kext4, ↓ev_for, ↓kfor, kinv_nx, kinv_ct, kinv_bk, kinv_rt, ↓kturn, ↓ev_ival, ↓kiv, ↓ev_range1, ↓kr1, ↓ktl, ↓ev_comp, ↓kcomp, wipe_nil, wipe_cons,
  fv0, fvS, fcon, fnil, ev_oNone, ev_dicN, ev_disp, ev_tyes, snil, spass, sbrk, scnt, sretn, wp_some, ob_some, cd_true,
  List.map_cons, List.map_nil, List.replicate, List.cons_append, List.nil_append, List.append_nil, List.set_cons_zero, List.set_cons_succ, List.length_cons, List.length_nil, Nat.reduceSub, Nat.reduceAdd, Nat.reduceLeDiff, Nat.zero_add, Nat.zero_le, Bool.not_true, Bool.not_false, gSet, gTupF, gConsF, gNilF, dAdd_int, dSub_int, dIdx_tup, dCut_tup, dCut_tl, dRev_tup, bLen_tup, bLen_tl, bList_tup, bList_tl, bTuple_tl, bTuple_tup, bListS_tup, bListS_tl, dIdx_tl, extOf_tup, extOf_tl, lstOf_tl, lstOf_ref, items_tl, items_tup, dAdd_tup, dAdd_tl, List.length_append, atI3, atI4, atI5, cEq_int, cNe_int, atI0, atI1, atI2, tag_non, tag_bl, tag_int, tag_str, tag_tup, tag_tl, tag_sl, isTag, reduceCtorEq, decide_true, decide_false, tru_non, tru_bl, tru_int, tru_tup, tru_tl, tru_sl, Bool.false_eq_true, if_true, if_false, reduceIte, Int.cast_ofNat_Int, cast0, cast1, Int.reduceEq, Int.reduceLE, Int.reduceLT, Int.reduceToNat, Int.reduceAdd, Int.reduceSub, Int.reduceNeg, cLt_int, cLe_int, cGt_int, cGe_int, and_self, rangeD_zero, rangeD_succ, Option.isSome_some, Option.isSome_none, List.isEmpty_nil, List.isEmpty_cons])
local macro_rules | `(tactic| walk_at "evs") => `(tactic| simp only [↓ev_bin, ↓kbin, ↓kbin2, ↓kv, ↓kbl, ↓ev_cmp, ↓kcmp, ↓kcmp2, ↓ev_chain, ↓kch, ↓kch2, kch3_t, kch3_f, ↓ev_cons, ↓kcons, ↓kcons2, ↓ev_tup, ↓ktup, ↓ev_lst, ↓klst, ↓ev_lstS, ↓klstS, ↓ev_neg, ↓kneg, ↓ev_or, ↓kor, kor2_t, kor2_f, ↓ev_and, ↓kand, kand2_t, kand2_f, ↓ev_not, ↓knot, ↓knt, kif_t, kif_f, ↓ev_ite, ↓ev_oSome, ↓kos, ↓ev_cut, ↓kcut, ↓kcut2, ↓kcut3, ↓ev_call, ↓kcall, ↓ev_blt, ↓kblt, ↓ev_isi, ↓kisi, ↓ktg, ↓ev_rev, ↓krev, ↓ev_addS, ↓kas, ↓kas2, ↓kas25, ↓kas3, ↓kfn_rt, ↓kfn_nx, ↓ev_tcmp, ↓ktc, ↓ktc2, ↓ev_tchain, ↓ktch, ↓ev_tru, ↓ktru, ↓ev_tand, ktand_t, ktand_f, ↓ev_tor, ktor_t, ktor_f, ↓ev_tnot, ↓ktnot, ↓ev_tite, ↓ev_seq, kt_nx, kt_rt, kt_bk, kt_ct, ↓ev_ret, ↓kret, ↓ev_expr, ↓kexpr, ↓ev_set, ↓kset, ↓knx, ↓ev_asg, ↓kasg, ↓ev_if, ↓ev_put, ↓kput, ↓kput1, ↓kputs, ↓kput2, ↓ev_aug, ↓kaug, ↓kaug2, ↓kaug3, ↓ev_app, ↓kapp, ↓kapp15, ↓kapp2, ↓kapp3, ↓ev_ext, ↓kext, ↓kext15, ↓kext2, ↓kext3, ↓kext4, ↓ev_for, ↓kfor, kinv_nx, kinv_ct, kinv_bk, kinv_rt, ↓kturn, ↓ev_ival, ↓kiv, ↓ev_range1, ↓kr1, ↓ktl, ↓ev_comp, ↓kcomp, wipe_nil, wipe_cons,
  fv0, fvS, fcon, fnil, ev_oNone, ev_dicN, ev_disp, ev_tyes, snil, spass, sbrk, scnt, sretn, wp_some, ob_some, cd_true,
  List.map_cons, List.map_nil, List.replicate, List.cons_append, List.nil_append, List.append_nil, List.set_cons_zero, List.set_cons_succ, List.length_cons, List.length_nil, Nat.reduceSub, Nat.reduceAdd, Nat.reduceLeDiff, Nat.zero_add, Nat.zero_le, Bool.not_true, Bool.not_false, gSet, gTupF, gConsF, gNilF, dAdd_int, dSub_int, dIdx_tup, dCut_tup, dCut_tl, dRev_tup, bLen_tup, bLen_tl, bList_tup, bList_tl, bTuple_tl, bTuple_tup, bListS_tup, bListS_tl, dIdx_tl, extOf_tup, extOf_tl, lstOf_tl, lstOf_ref, items_tl, items_tup, dAdd_tup, dAdd_tl, List.length_append, atI3, atI4, atI5, cEq_int, cNe_int, atI0, atI1, atI2, tag_non, tag_bl, tag_int, tag_str, tag_tup, tag_tl, tag_sl, isTag, reduceCtorEq, decide_true, decide_false, tru_non, tru_bl, tru_int, tru_tup, tru_tl, tru_sl, Bool.false_eq_true, if_true, if_false, reduceIte, Int.cast_ofNat_Int, cast0, cast1, Int.reduceEq, Int.reduceLE, Int.reduceLT, Int.reduceToNat, Int.reduceAdd, Int.reduceSub, Int.reduceNeg, cLt_int, cLe_int, cGt_int, cGe_int, and_self, rangeD_zero, rangeD_succ, Option.isSome_some, Option.isSome_none, List.isEmpty_nil, List.isEmpty_cons, *])
theorem compN_filterG {g : Gd} {T : FG} {C : FT} {F : FE} {env : En} {st : Store} {f : D → D} {p : D → Bool} (hg : g st) : ∀ (ds : List D), (∀ d ∈ ds, ∃ e1, T d env = some e1 ∧ C e1 st = some (p d, st) ∧ (p d = true → F e1 st = some (f d, st))) → compN g T C F ds env st = some ((ds.filter p).map f, st)
  | [], _ => by unfold compN; simp [hg]
  | d :: ds, h => by
    obtain ⟨e1, h1, h2, h3⟩ := h d List.mem_cons_self
    have ih := compN_filterG hg ds fun x hx => h x (List.mem_cons_of_mem _ hx)
    unfold compN
    rw [if_pos hg]
    cases hp : p d with
    | true => simp only [h1, h2, hp, h3 hp, ih, List.filter_cons, if_true, List.map_cons]
    | false => simp only [h1, h2, hp, ih, List.filter_cons]; rfl
def strOf : D → Option Str
  | .str s => some s
  | _ => none
theorem strsD_map : ∀ {xs : List D}, (∀ x ∈ xs, ∃ s, x = .str s) → strsD xs = some (xs.filterMap strOf)
  | [], _ => rfl
  | x :: xs, h => by
    obtain ⟨s, rfl⟩ := h x List.mem_cons_self
    simp [strsD, strsD_map fun y hy => h y (List.mem_cons_of_mem _ hy), strOf]
theorem nm_str {x : D} (h : isNm x = true) : ∃ z, x = .str z := by
  cases x <;> simp [isNm] at h
  exact ⟨_, rfl⟩
def termS : D → List Str
  | .tup [.tup ps, .tup fs] => ((ps ++ fs).flatMap tmI).filterMap strOf
  | _ => []
def rowS : D → List Str
  | .tup [.tup ps, .tup _] => (ps.flatMap rwI).filterMap strOf
  | _ => []
theorem tm_filter {xs : List D} (h : ∀ x ∈ xs, isTm x = true) : (xs.filter isNm).filterMap strOf = xs.filterMap strOf := by
  induction xs with
  | nil => rfl
  | cons x xs ih =>
    have ih := ih fun y hy => h y (List.mem_cons_of_mem _ hy)
    have hx := h x List.mem_cons_self
    cases x with
    | str s =>
      have : isNm (.str s) = true := hx
      simp [List.filter_cons, this, strOf, ih]
    | int i =>
      rw [List.filter_cons, if_neg (by simp [isNm]), ih]
      rfl
    | _ => simp [isTm, isNm] at hx
theorem flat_len {g : D → List D} {M : Nat} : ∀ {ys : List D}, (∀ y ∈ ys, (g y).length ≤ M) → (ys.flatMap g).length ≤ ys.length * M
  | [], _ => by simp
  | y :: ys, h => by
    have := flat_len fun z hz => h z (List.mem_cons_of_mem _ hz)
    have := h y List.mem_cons_self
    rw [List.flatMap_cons, List.length_append, List.length_cons, Nat.add_mul]
    omega
theorem tmI_fact {d : D} (hp : isFt d = true) : (tmI d).length ≤ 2 := by
  obtain ⟨k, a, b, rfl, hk, h1, h2⟩ := isFt_cases hp
  simp [tmI]
theorem hasF_cases {d : D} (h : hasF d = true) : ∃ ps fs, d = .tup [.tup ps, .tup fs] ∧ ps.length ≤ 5 ∧ fs.length ≤ 4 ∧ (∀ p ∈ ps, isPt p = true) ∧ ∀ f ∈ fs, isFt f = true := by
  unfold hasF at h
  split at h
  · rename_i ps fs
    simp only [Bool.and_eq_true, decide_eq_true_eq, List.all_eq_true] at h
    exact ⟨ps, fs, rfl, h.1.1.1, h.1.1.2, h.1.2, h.2⟩
  · cases h
theorem small_claim {ps fs : List D} (h : small (.tup [.tup ps, .tup fs]) = true) : (∀ p ∈ ps, small p = true) ∧ ∀ f ∈ fs, small f = true := by
  simp only [small, smalls, Bool.and_eq_true, decide_eq_true_eq] at h
  exact ⟨fun p hp => smalls_mem h.1.1.1 hp, fun p hp => smalls_mem h.1.2.1.1 hp⟩
theorem term_names_ok {d : D} {st : Store} (h : small d = true) (hf : hasF d = true) : Wp (F_term_names [d] st) fun r s => r = .tl ((sortSet (termS d)).map .str) ∧ Kp st s := by
  obtain ⟨ps, fs, rfl, hpl, hfl, hps, hfs⟩ := hasF_cases hf
  obtain ⟨sp, sf⟩ := small_claim h
  have both : ∀ x ∈ ps ++ fs, small x = true ∧ (isPt x = true ∨ isFt x = true) := fun x hx => by
    rcases List.mem_append.mp hx with hx | hx
    · exact ⟨sp x hx, .inl (hps x hx)⟩
    · exact ⟨sf x hx, .inr (hfs x hx)⟩
  unfold F_term_names B_term_names
  rw [ev_fn]
  refine ⟨rfl, ?_⟩
  have hl : ps.length + fs.length ≤ 16777216 := by omega
  walk_at "evs"
  refine gather (g := tmI) (M := 8) (s0 := st) (n := st.length) (fun d hd st => terms_in_eq (both d hd).1 (both d hd).2) (fun d hd => tmI_length (both d hd).2) rfl (by decide) (by simp) lstAt_push (Kp.refl.push) (Nat.le_refl _) (by simp; omega) fun e s h1 h2 h3 h4 h5 => ?_
  have v1 : fVar 1 e s = some (.ref st.length, s) := by
    unfold fVar
    rw [h1]
  have hlen : e.length = 4 := by rw [h2]; rfl
  have all : ∀ x ∈ (ps ++ fs).flatMap tmI, small x = true ∧ isTm x = true := fun x hx => by
    obtain ⟨y, hy, hx⟩ := List.mem_flatMap.mp hx
    exact tmI_mem (both y hy).1 (both y hy).2 hx
  have hcnt : ((ps ++ fs).flatMap tmI).length ≤ 48 := by
    have a1 := flat_len (g := tmI) (M := 8) (ys := ps) fun y hy => tmI_length (.inl (hps y hy))
    have a2 := flat_len (g := tmI) (M := 2) (ys := fs) fun y hy => tmI_fact (hfs y hy)
    rw [List.flatMap_append, List.length_append]
    omega
  have e1 := compN_filterG (g := fun st' => st'[st.length]? = some (.lst ((ps ++ fs).flatMap tmI))) (T := gSet 3) (C := tTru (fCall 1 F_is_name (fCons (fVar 3) fNil))) (F := fVar 3) (env := wipeE e [3]) (st := s) (f := id) (p := isNm) (lstAt_iff.mp h4) ((ps ++ fs).flatMap tmI) fun x hx => by
    have v3 : ∀ s, fVar 3 ((wipeE e [3]).set 3 (some x)) s = some (x, s) := fun s => by
      unfold fVar
      rw [List.getElem?_set_self (by rw [Vm.wipe_length]; omega)]
    refine ⟨_, rfl, ?_, fun _ => v3 s⟩
    apply wp_eq
    rw [ev_tru, ev_call, ev_cons, v3, wp_some, kcons, fnil, wp_some, kcons2, kcall, e_name, is_name_eq (all x hx).1]
    simp [Cd, ktru, tru, Ob, Vm.KV]
  have hstr : ∀ x ∈ (((ps ++ fs).flatMap tmI).filter isNm).map id, ∃ z, x = .str z := fun x hx => by
    simp only [List.map_id, List.mem_filter] at hx
    exact nm_str hx.2
  have hb : (((((ps ++ fs).flatMap tmI).filter isNm).map id).filterMap strOf).length < 60 := by
    have b1 := List.length_filterMap_le strOf ((((ps ++ fs).flatMap tmI).filter isNm).map id)
    have b2 := List.length_filter_le isNm ((ps ++ fs).flatMap tmI)
    rw [List.length_map] at b1
    omega
  rw [kt_nx, ev_ret]
  have e2 : fComp [3] (iVal (fVar 1)) (gSet 3) (tTru (fCall 1 F_is_name (fCons (fVar 3) fNil))) (fVar 3) e s = some (.tl ((((ps ++ fs).flatMap tmI).filter isNm).map id), s) := by
    apply wp_eq
    rw [ev_comp, ev_ival, v1, wp_some, kiv, items_ref h4, ob_some, kv, kcomp]
    refine cd_of (by omega) ?_
    rw [e1, wp_some, ktl]
    exact ⟨rfl, rfl⟩
  have e3 : fSortSet (fComp [3] (iVal (fVar 1)) (gSet 3) (tTru (fCall 1 F_is_name (fCons (fVar 3) fNil))) (fVar 3)) e s = some (.tl ((sortSet ((((((ps ++ fs).flatMap tmI).filter isNm).map id)).filterMap strOf)).map .str), s) := by
    unfold fSortSet
    simp only [e2, lsqOf, strsD_map hstr, hb, if_true]
  rw [e3, wp_some, kret, kfn_rt, List.map_id, tm_filter fun x hx => (all x hx).2]
  exact ⟨rfl, h5⟩
theorem row_names_ok {d : D} {st : Store} (h : small d = true) (hf : hasF d = true) : Wp (F_row_names [d] st) fun r s => r = .tl ((sortSet (rowS d)).map .str) ∧ Kp st s := by
  obtain ⟨ps, fs, rfl, hpl, hfl, hps, hfs⟩ := hasF_cases hf
  obtain ⟨sp, sf⟩ := small_claim h
  unfold F_row_names B_row_names
  rw [ev_fn]
  refine ⟨rfl, ?_⟩
  walk_at "evs"
  refine gather (g := rwI) (M := 6) (s0 := st) (n := st.length) (fun d hd st => rows_in_eq (sp d hd) (hps d hd)) (fun d hd => rwI_length (hps d hd)) rfl (by decide) (by simp) lstAt_push (Kp.refl.push) (Nat.le_refl _) (by omega) fun e s h1 h2 h3 h4 h5 => ?_
  have v1 : fVar 1 e s = some (.ref st.length, s) := by
    unfold fVar
    rw [h1]
  have hcnt := flat_len (g := rwI) (M := 6) (ys := ps) fun y hy => rwI_length (hps y hy)
  have hstr : ∀ x ∈ ps.flatMap rwI, ∃ z, x = .str z := fun x hx => by
    obtain ⟨y, hy, hx⟩ := List.mem_flatMap.mp hx
    exact nm_str (rwI_mem (hps y hy) hx)
  have hb : ((ps.flatMap rwI).filterMap strOf).length < 60 := by
    have b1 := List.length_filterMap_le strOf (ps.flatMap rwI)
    omega
  have e3 : fSortSet (fVar 1) e s = some (.tl ((sortSet ((ps.flatMap rwI).filterMap strOf)).map .str), s) := by
    unfold fSortSet
    simp only [v1, lsqOf, lstAt_iff.mp h4, strsD_map hstr, hb, if_true]
  rw [kt_nx, ev_ret, e3, wp_some, kret, kfn_rt]
  exact ⟨rfl, h5⟩
def isClm (d : D) : Bool := hasF d && !((rowS d).any fun s => decide (s ∈ termS d))
end k03
namespace k03
open PySem PySem.Spec PyProof.Rows L2 Vm
local macro_rules | `(tactic| walk_at "ev") => `(tactic| simp only [↓ev_bin, ↓kbin, ↓kbin2, ↓kv, ↓kbl, ↓ev_cmp, ↓kcmp, ↓kcmp2, ↓ev_chain, ↓kch, ↓kch2, kch3_t, kch3_f, ↓ev_cons, ↓kcons, ↓kcons2, ↓ev_tup, ↓ktup, ↓ev_lst, ↓klst, ↓ev_lstS, ↓klstS, ↓ev_neg, ↓kneg, ↓ev_or, ↓kor, kor2_t, kor2_f, ↓ev_and, ↓kand, kand2_t, kand2_f, ↓ev_not, ↓knot, ↓knt, kif_t, kif_f, ↓ev_ite, ↓ev_oSome, ↓kos, ↓ev_cut, ↓kcut, ↓kcut2, ↓kcut3, ↓ev_call, ↓kcall, ↓ev_blt, ↓kblt, ↓ev_isi, ↓kisi, ↓ktg, ↓ev_rev, ↓krev, ↓ev_addS, ↓kas, ↓kas2, ↓kas25, ↓kas3, ↓kfn_rt, ↓kfn_nx, ↓ev_tcmp, ↓ktc, ↓ktc2, ↓ev_tchain, ↓ktch, ↓ev_tru, ↓ktru, ↓ev_tand, ktand_t, ktand_f, ↓ev_tor, ktor_t, ktor_f, ↓ev_tnot, ↓ktnot, ↓ev_tite, ↓ev_seq, kt_nx, kt_rt, kt_bk, kt_ct, ↓ev_ret, ↓kret, ↓ev_expr, ↓kexpr, ↓ev_set, ↓kset, ↓knx, ↓ev_asg, ↓kasg, ↓ev_if, ↓ev_put, ↓kput, ↓kput1, ↓kputs, ↓kput2, ↓ev_aug, ↓kaug, ↓kaug2, ↓kaug3, ↓ev_app, ↓kapp, ↓kapp15, ↓kapp2, ↓kapp3, ↓ev_ext, ↓kext, ↓kext15, ↓kext2, ↓kext3, ↓kext4, ↓ev_for, ↓kfor, kinv_nx, kinv_ct, kinv_bk, kinv_rt, ↓kturn, ↓ev_ival, ↓kiv, ↓ev_range1, ↓kr1, ↓ktl, ↓ev_comp, ↓kcomp, wipe_nil, wipe_cons,
  fv0, fvS, fcon, fnil, ev_oNone, ev_dicN, ev_disp, ev_tyes, snil, spass, sbrk, scnt, sretn, wp_some, ob_some, cd_true,
  List.map_cons, List.map_nil, List.replicate, List.cons_append, List.nil_append, List.append_nil, List.set_cons_zero, List.set_cons_succ, List.length_cons, List.length_nil, Nat.reduceSub, Nat.reduceAdd, Nat.reduceLeDiff, Nat.zero_add, Nat.zero_le, Bool.not_true, Bool.not_false, gSet, gTupF, gConsF, gNilF, dAdd_int, dSub_int, dIdx_tup, dCut_tup, dCut_tl, dRev_tup, bLen_tup, bLen_tl, bList_tup, bList_tl, bTuple_tl, bTuple_tup, bListS_tup, bListS_tl, dIdx_tl, extOf_tup, extOf_tl, lstOf_tl, lstOf_ref, items_tl, items_tup, dAdd_tup, dAdd_tl, List.length_append, atI3, atI4, atI5, cEq_int, cNe_int, atI0, atI1, atI2, tag_non, tag_bl, tag_int, tag_str, tag_tup, tag_tl, tag_sl, isTag, reduceCtorEq, decide_true, decide_false, tru_non, tru_bl, tru_int, tru_tup, tru_tl, tru_sl, Bool.false_eq_true, if_true, if_false, reduceIte, Int.cast_ofNat_Int, cast0, cast1, Int.reduceEq, Int.reduceLE, Int.reduceLT, Int.reduceToNat, Int.reduceAdd, Int.reduceSub, Int.reduceNeg, cLt_int, cLe_int, cGt_int, cGe_int, and_self, rangeD_zero, rangeD_succ, Option.isSome_some, Option.isSome_none, List.isEmpty_nil, List.isEmpty_cons])
local macro_rules | `(tactic| walk_at "evs") => `(tactic| simp only [↓ev_bin, ↓kbin, ↓kbin2, ↓kv, ↓kbl, ↓ev_cmp, ↓kcmp, ↓kcmp2, ↓ev_chain, ↓kch, ↓kch2, kch3_t, kch3_f, ↓ev_cons, ↓kcons, ↓kcons2, ↓ev_tup, ↓ktup, ↓ev_lst, ↓klst, ↓ev_lstS, ↓klstS, ↓ev_neg, ↓kneg, ↓ev_or, ↓kor, kor2_t, kor2_f, ↓ev_and, ↓kand, kand2_t, kand2_f, ↓ev_not, ↓knot, ↓knt, kif_t, kif_f, ↓ev_ite, ↓ev_oSome, ↓kos, ↓ev_cut, ↓kcut, ↓kcut2, ↓kcut3, ↓ev_call, ↓kcall, ↓ev_blt, ↓kblt, ↓ev_isi, ↓kisi, ↓ktg, ↓ev_rev, ↓krev, ↓ev_addS, ↓kas, ↓kas2, ↓kas25, ↓kas3, ↓kfn_rt, ↓kfn_nx, ↓ev_tcmp, ↓ktc, ↓ktc2, ↓ev_tchain, ↓ktch, ↓ev_tru, ↓ktru, ↓ev_tand, ktand_t, ktand_f, ↓ev_tor, ktor_t, ktor_f, ↓ev_tnot, ↓ktnot, ↓ev_tite, ↓ev_seq, kt_nx, kt_rt, kt_bk, kt_ct, ↓ev_ret, ↓kret, ↓ev_expr, ↓kexpr, ↓ev_set, ↓kset, ↓knx, ↓ev_asg, ↓kasg, ↓ev_if, ↓ev_put, ↓kput, ↓kput1, ↓kputs, ↓kput2, ↓ev_aug, ↓kaug, ↓kaug2, ↓kaug3, ↓ev_app, ↓kapp, ↓kapp15, ↓kapp2, ↓kapp3, ↓ev_ext, ↓kext, ↓kext15, ↓kext2, ↓kext3, ↓kext4, ↓ev_for, ↓kfor, kinv_nx, kinv_ct, kinv_bk, kinv_rt, ↓kturn, ↓ev_ival, ↓kiv, ↓ev_range1, ↓kr1, ↓ktl, ↓ev_comp, ↓kcomp, wipe_nil, wipe_cons,
  fv0, fvS, fcon, fnil, ev_oNone, ev_dicN, ev_disp, ev_tyes, snil, spass, sbrk, scnt, sretn, wp_some, ob_some, cd_true,
  List.map_cons, List.map_nil, List.replicate, List.cons_append, List.nil_append, List.append_nil, List.set_cons_zero, List.set_cons_succ, List.length_cons, List.length_nil, Nat.reduceSub, Nat.reduceAdd, Nat.reduceLeDiff, Nat.zero_add, Nat.zero_le, Bool.not_true, Bool.not_false, gSet, gTupF, gConsF, gNilF, dAdd_int, dSub_int, dIdx_tup, dCut_tup, dCut_tl, dRev_tup, bLen_tup, bLen_tl, bList_tup, bList_tl, bTuple_tl, bTuple_tup, bListS_tup, bListS_tl, dIdx_tl, extOf_tup, extOf_tl, lstOf_tl, lstOf_ref, items_tl, items_tup, dAdd_tup, dAdd_tl, List.length_append, atI3, atI4, atI5, cEq_int, cNe_int, atI0, atI1, atI2, tag_non, tag_bl, tag_int, tag_str, tag_tup, tag_tl, tag_sl, isTag, reduceCtorEq, decide_true, decide_false, tru_non, tru_bl, tru_int, tru_tup, tru_tl, tru_sl, Bool.false_eq_true, if_true, if_false, reduceIte, Int.cast_ofNat_Int, cast0, cast1, Int.reduceEq, Int.reduceLE, Int.reduceLT, Int.reduceToNat, Int.reduceAdd, Int.reduceSub, Int.reduceNeg, cLt_int, cLe_int, cGt_int, cGe_int, and_self, rangeD_zero, rangeD_succ, Option.isSome_some, Option.isSome_none, List.isEmpty_nil, List.isEmpty_cons, *])
theorem strOk_nm {s : Str} (h : isNm (.str s) = true) : PyData.strOk s = true := by
  have := small_nm h
  simp only [small, Bool.and_eq_true] at this
  exact this.1
theorem isS_str (s t : Str) : isS s (.str t) = decide (t = s) := by
  simp [isS]
  by_cases h : t = s <;> simp [h]
theorem cIn_str_tl {s : Str} {ts : List Str} {st : Store} (hs : PyData.strOk s = true) (ht : ∀ t ∈ ts, PyData.strOk t = true) : cIn (.str s) (.tl (ts.map .str)) st = some (decide (s ∈ ts)) := by
  have hok : ∀ {ts : List Str}, (∀ t ∈ ts, PyData.strOk t = true) → okds (ts.map .str) = true := by
    intro ts
    induction ts with
    | nil => intro _; rfl
    | cons t ts ih =>
      intro h
      simp [okds, okd, h t List.mem_cons_self, ih fun x hx => h x (List.mem_cons_of_mem _ hx)]
  unfold cIn isIn
  show (if (okd (.str s) && okds (ts.map .str) && decide (min (deps (ts.map .str)) (dep (.str s)) ≤ 60)) = true then some ((ts.map .str).any fun z => deq z (.str s)) else none) = _
  rw [if_pos (by simp [okd, hs, hok ht, dep])]
  congr 1
  rw [List.any_map]
  induction ts with
  | nil => simp
  | cons t ts ih =>
    have ih := ih fun x hx => ht x (List.mem_cons_of_mem _ hx)
    rw [List.any_cons, ih]
    simp only [Function.comp, deq_str, isS_str]
    by_cases e : t = s
    · subst e; simp
    · simp [e, Ne.symm e]
theorem termS_nm {d : D} (h : small d = true) (hf : hasF d = true) {s : Str} (hs : s ∈ termS d) : isNm (.str s) = true := by
  obtain ⟨ps, fs, rfl, hpl, hfl, hps, hfs⟩ := hasF_cases hf
  obtain ⟨sp, sf⟩ := small_claim h
  simp only [termS, List.mem_filterMap, List.mem_flatMap] at hs
  obtain ⟨x, ⟨y, hy, hx⟩, hxs⟩ := hs
  have := (tmI_mem (d := y) (x := x) (by rcases List.mem_append.mp hy with q | q; exact sp y q; exact sf y q) (by rcases List.mem_append.mp hy with q | q; exact .inl (hps y q); exact .inr (hfs y q)) hx).2
  cases x with
  | str z => cases hxs; exact this
  | _ => cases hxs
theorem rowS_nm {d : D} (hf : hasF d = true) {s : Str} (hs : s ∈ rowS d) : isNm (.str s) = true := by
  obtain ⟨ps, fs, rfl, hpl, hfl, hps, hfs⟩ := hasF_cases hf
  simp only [rowS, List.mem_filterMap, List.mem_flatMap] at hs
  obtain ⟨x, ⟨y, hy, hx⟩, hxs⟩ := hs
  have := rwI_mem (hps y hy) hx
  cases x with
  | str z => cases hxs; exact this
  | _ => cases hxs
theorem rowS_len {d : D} (hf : hasF d = true) : (rowS d).length ≤ 30 := by
  obtain ⟨ps, fs, rfl, hpl, hfl, hps, hfs⟩ := hasF_cases hf
  have a := flat_len (g := rwI) (M := 6) (ys := ps) fun y hy => rwI_length (hps y hy)
  have b := List.length_filterMap_le strOf (ps.flatMap rwI)
  simp only [rowS]
  omega
theorem addTx_len (zs : List Str) (z : Str) : (addTx zs z).length ≤ zs.length + 1 := by
  unfold addTx
  split <;> simp
theorem dedup_len : ∀ (xs zs : List Str), (xs.foldl addTx zs).length ≤ zs.length + xs.length
  | [], zs => by simp
  | x :: xs, zs => by
    have := dedup_len xs (addTx zs x)
    have := addTx_len zs x
    rw [List.foldl_cons, List.length_cons]
    omega
theorem sortSet_len (xs : List Str) : (sortSet xs).length ≤ xs.length := by
  unfold sortSet dedup
  rw [(sortT_perm _).length_eq]
  have := dedup_len xs []
  simpa using this
theorem is_claim_ok {d : D} {st : Store} (h : small d = true) : Wp (F_is_claim [d] st) fun r s => r = .bl (isClm d) ∧ Kp st s := by
  unfold F_is_claim B_is_claim
  rw [ev_fn]
  refine ⟨rfl, ?_⟩
  have e0 := has_form_eq (st := st) h
  by_cases hf : hasF d = true
  · walk_at "evs"
    refine (term_names_ok h hf).mono fun r s1 hr => ?_
    obtain ⟨rfl, k1⟩ := hr
    walk_at "ev"
    refine (row_names_ok h hf).mono fun r s2 hr => ?_
    obtain ⟨rfl, k2⟩ := hr
    have hlen : ((sortSet (rowS d)).map D.str).length ≤ 16777216 := by
      have := sortSet_len (rowS d)
      have := rowS_len hf
      rw [List.length_map]
      omega
    walk_at "evs"
    rw [compN_filterG (f := id) (p := fun x => match x with | .str s => decide (s ∈ sortSet (termS d)) | _ => false) trivial]
    · rw [wp_some]
      have hb : (!((((sortSet (rowS d)).map D.str).filter fun x => match x with | .str s => decide (s ∈ sortSet (termS d)) | _ => false).map id).isEmpty) = (rowS d).any fun s => decide (s ∈ termS d) := by
        rw [Bool.eq_iff_iff]
        simp only [List.map_id, Bool.not_eq_true', List.any_eq_true, decide_eq_true_eq]
        rw [← Bool.not_eq_true, List.isEmpty_iff, ← ne_eq, List.ne_nil_iff_exists_cons]
        constructor
        · rintro ⟨x, xs, e⟩
          have hx : x ∈ x :: xs := List.mem_cons_self
          rw [← e] at hx
          simp only [List.mem_filter, List.mem_map] at hx
          obtain ⟨⟨s, hs, rfl⟩, hx⟩ := hx
          exact ⟨s, sortSet_mem.mp hs, sortSet_mem.mp (by simpa using hx)⟩
        · rintro ⟨s, h1, h2⟩
          have : (.str s : D) ∈ ((sortSet (rowS d)).map D.str).filter fun x => match x with | .str s => decide (s ∈ sortSet (termS d)) | _ => false := by
            simp only [List.mem_filter, List.mem_map]
            exact ⟨⟨s, sortSet_mem.mpr h1, rfl⟩, by simpa using sortSet_mem.mpr h2⟩
          exact List.exists_cons_of_ne_nil (List.ne_nil_of_mem this)
      walk_at "ev"
      rw [hb]
      exact ⟨by simp [isClm, hf], k1.trans k2⟩
    · intro x hx
      obtain ⟨s, hs, rfl⟩ := List.mem_map.mp hx
      refine ⟨_, rfl, ?_, fun _ => rfl⟩
      have e5 := cIn_str_tl (st := s2) (strOk_nm (rowS_nm hf (sortSet_mem.mp hs))) (ts := sortSet (termS d)) fun t ht => strOk_nm (termS_nm h hf (sortSet_mem.mp ht))
      apply wp_eq
      walk_at "evs"
      try simp
  · have hf : hasF d = false := by simpa using hf
    walk_at "evs"
    exact ⟨by simp [isClm, hf], Kp.refl⟩
end k03
namespace k03
open PySem PySem.Spec PyProof.Rows L2 Vm
local macro_rules | `(tactic| walk_at "ev") => `(tactic| simp only [↓ev_bin, ↓kbin, ↓kbin2, ↓kv, ↓kbl, ↓ev_cmp, ↓kcmp, ↓kcmp2, ↓ev_chain, ↓kch, ↓kch2, kch3_t, kch3_f, ↓ev_cons, ↓kcons, ↓kcons2, ↓ev_tup, ↓ktup, ↓ev_lst, ↓klst, ↓ev_lstS, ↓klstS, ↓ev_neg, ↓kneg, ↓ev_or, ↓kor, kor2_t, kor2_f, ↓ev_and, ↓kand, kand2_t, kand2_f, ↓ev_not, ↓knot, ↓knt, kif_t, kif_f, ↓ev_ite, ↓ev_oSome, ↓kos, ↓ev_cut, ↓kcut, ↓kcut2, ↓kcut3, ↓ev_call, ↓kcall, ↓ev_blt, ↓kblt, ↓ev_isi, ↓kisi, ↓ktg, ↓ev_rev, ↓krev, ↓ev_addS, ↓kas, ↓kas2, ↓kas25, ↓kas3, ↓kfn_rt, ↓kfn_nx, ↓ev_tcmp, ↓ktc, ↓ktc2, ↓ev_tchain, ↓ktch, ↓ev_tru, ↓ktru, ↓ev_tand, ktand_t, ktand_f, ↓ev_tor, ktor_t, ktor_f, ↓ev_tnot, ↓ktnot, ↓ev_tite, ↓ev_seq, kt_nx, kt_rt, kt_bk, kt_ct, ↓ev_ret, ↓kret, ↓ev_expr, ↓kexpr, ↓ev_set, ↓kset, ↓knx, ↓ev_asg, ↓kasg, ↓ev_if, ↓ev_put, ↓kput, ↓kput1, ↓kputs, ↓kput2, ↓ev_aug, ↓kaug, ↓kaug2, ↓kaug3, ↓ev_app, ↓kapp, ↓kapp15, ↓kapp2, ↓kapp3, ↓ev_ext, ↓kext, ↓kext15, ↓kext2, ↓kext3, ↓kext4, ↓ev_for, ↓kfor, kinv_nx, kinv_ct, kinv_bk, kinv_rt, ↓kturn, ↓ev_ival, ↓kiv, ↓ev_range1, ↓kr1, ↓ktl, ↓ev_comp, ↓kcomp, wipe_nil, wipe_cons,
  fv0, fvS, fcon, fnil, ev_oNone, ev_dicN, ev_disp, ev_tyes, snil, spass, sbrk, scnt, sretn, wp_some, ob_some, cd_true,
  List.map_cons, List.map_nil, List.replicate, List.cons_append, List.nil_append, List.append_nil, List.set_cons_zero, List.set_cons_succ, List.length_cons, List.length_nil, Nat.reduceSub, Nat.reduceAdd, Nat.reduceLeDiff, Nat.zero_add, Nat.zero_le, Bool.not_true, Bool.not_false, gSet, gTupF, gConsF, gNilF, dAdd_int, dSub_int, dIdx_tup, dCut_tup, dCut_tl, dRev_tup, bLen_tup, bLen_tl, bList_tup, bList_tl, bTuple_tl, bTuple_tup, bListS_tup, bListS_tl, dIdx_tl, extOf_tup, extOf_tl, lstOf_tl, lstOf_ref, items_tl, items_tup, dAdd_tup, dAdd_tl, List.length_append, atI3, atI4, atI5, cEq_int, cNe_int, atI0, atI1, atI2, tag_non, tag_bl, tag_int, tag_str, tag_tup, tag_tl, tag_sl, isTag, reduceCtorEq, decide_true, decide_false, tru_non, tru_bl, tru_int, tru_tup, tru_tl, tru_sl, Bool.false_eq_true, if_true, if_false, reduceIte, Int.cast_ofNat_Int, cast0, cast1, Int.reduceEq, Int.reduceLE, Int.reduceLT, Int.reduceToNat, Int.reduceAdd, Int.reduceSub, Int.reduceNeg, cLt_int, cLe_int, cGt_int, cGe_int, and_self, rangeD_zero, rangeD_succ, Option.isSome_some, Option.isSome_none, List.isEmpty_nil, List.isEmpty_cons])
local macro_rules | `(tactic| walk_at "evs") => `(tactic| simp only [↓ev_bin, ↓kbin, ↓kbin2, ↓kv, ↓kbl, ↓ev_cmp, ↓kcmp, ↓kcmp2, ↓ev_chain, ↓kch, ↓kch2, kch3_t, kch3_f, ↓ev_cons, ↓kcons, ↓kcons2, ↓ev_tup, ↓ktup, ↓ev_lst, ↓klst, ↓ev_lstS, ↓klstS, ↓ev_neg, ↓kneg, ↓ev_or, ↓kor, kor2_t, kor2_f, ↓ev_and, ↓kand, kand2_t, kand2_f, ↓ev_not, ↓knot, ↓knt, kif_t, kif_f, ↓ev_ite, ↓ev_oSome, ↓kos, ↓ev_cut, ↓kcut, ↓kcut2, ↓kcut3, ↓ev_call, ↓kcall, ↓ev_blt, ↓kblt, ↓ev_isi, ↓kisi, ↓ktg, ↓ev_rev, ↓krev, ↓ev_addS, ↓kas, ↓kas2, ↓kas25, ↓kas3, ↓kfn_rt, ↓kfn_nx, ↓ev_tcmp, ↓ktc, ↓ktc2, ↓ev_tchain, ↓ktch, ↓ev_tru, ↓ktru, ↓ev_tand, ktand_t, ktand_f, ↓ev_tor, ktor_t, ktor_f, ↓ev_tnot, ↓ktnot, ↓ev_tite, ↓ev_seq, kt_nx, kt_rt, kt_bk, kt_ct, ↓ev_ret, ↓kret, ↓ev_expr, ↓kexpr, ↓ev_set, ↓kset, ↓knx, ↓ev_asg, ↓kasg, ↓ev_if, ↓ev_put, ↓kput, ↓kput1, ↓kputs, ↓kput2, ↓ev_aug, ↓kaug, ↓kaug2, ↓kaug3, ↓ev_app, ↓kapp, ↓kapp15, ↓kapp2, ↓kapp3, ↓ev_ext, ↓kext, ↓kext15, ↓kext2, ↓kext3, ↓kext4, ↓ev_for, ↓kfor, kinv_nx, kinv_ct, kinv_bk, kinv_rt, ↓kturn, ↓ev_ival, ↓kiv, ↓ev_range1, ↓kr1, ↓ktl, ↓ev_comp, ↓kcomp, wipe_nil, wipe_cons,
  fv0, fvS, fcon, fnil, ev_oNone, ev_dicN, ev_disp, ev_tyes, snil, spass, sbrk, scnt, sretn, wp_some, ob_some, cd_true,
  List.map_cons, List.map_nil, List.replicate, List.cons_append, List.nil_append, List.append_nil, List.set_cons_zero, List.set_cons_succ, List.length_cons, List.length_nil, Nat.reduceSub, Nat.reduceAdd, Nat.reduceLeDiff, Nat.zero_add, Nat.zero_le, Bool.not_true, Bool.not_false, gSet, gTupF, gConsF, gNilF, dAdd_int, dSub_int, dIdx_tup, dCut_tup, dCut_tl, dRev_tup, bLen_tup, bLen_tl, bList_tup, bList_tl, bTuple_tl, bTuple_tup, bListS_tup, bListS_tl, dIdx_tl, extOf_tup, extOf_tl, lstOf_tl, lstOf_ref, items_tl, items_tup, dAdd_tup, dAdd_tl, List.length_append, atI3, atI4, atI5, cEq_int, cNe_int, atI0, atI1, atI2, tag_non, tag_bl, tag_int, tag_str, tag_tup, tag_tl, tag_sl, isTag, reduceCtorEq, decide_true, decide_false, tru_non, tru_bl, tru_int, tru_tup, tru_tl, tru_sl, Bool.false_eq_true, if_true, if_false, reduceIte, Int.cast_ofNat_Int, cast0, cast1, Int.reduceEq, Int.reduceLE, Int.reduceLT, Int.reduceToNat, Int.reduceAdd, Int.reduceSub, Int.reduceNeg, cLt_int, cLe_int, cGt_int, cGe_int, and_self, rangeD_zero, rangeD_succ, Option.isSome_some, Option.isSome_none, List.isEmpty_nil, List.isEmpty_cons, *])
def isStrD : D → Bool
  | .str _ => true
  | _ => false
/-- the loop over a word's pieces -/
theorem word_loop {ps : List D} {n1 n2 : Nat} {ts : List D} {d : D} {x3 x4 x5 : Option D} {st s0 : Store} {Q : Out → Store → Prop} (hp : ∀ p ∈ ps, small p = true ∧ isPc p = true) (hl : ps.length ≤ 6) (hts : ts.length ≤ 8) (h1 : lstAt st n1 = some ts) (h2 : lstAt st n2 = some []) (h12 : n1 ≠ n2)
    (hk : Kp s0 st) (hn1 : s0.length ≤ n1) (hn2 : s0.length ≤ n2)
    (hQ : ∀ y3 y4 s, lstAt s n1 = some (ts ++ onesW (.tup ps)) → lstAt s n2 = some (rowsW (.tup ps)) → Kp s0 s → Q (.nx [some d, some (.ref n1), some (.ref n2), y3, y4, x5]) s) :
    Wp (forN (fun _ => True) (gTupF 2 (gConsF (gSet 3) (gConsF (gSet 4) gNilF))) (sIf (tCmpF cEq (fVar 3) (fCon (.str "one"))) (sApp (fVar 1) (fVar 4)) (sApp (fVar 2) (fVar 4))) ps [some d, some (.ref n1), some (.ref n2), x3, x4, x5] st) Q := by
  refine ev_forI (fun k e s => ∃ y3 y4, e = [some d, some (.ref n1), some (.ref n2), y3, y4, x5] ∧ lstAt s n1 = some (ts ++ onesW (.tup (ps.take k))) ∧ lstAt s n2 = some (rowsW (.tup (ps.take k))) ∧ Kp s0 s) ⟨_, _, rfl, by simpa [onesW] using h1, by simpa [rowsW] using h2, hk⟩ (fun k p e s hd hI => ?_) (fun e s hI => ?_)
  · obtain ⟨y3, y4, rfl, a1, a2, a3⟩ := hI
    obtain ⟨hs, hpc⟩ := hp p (List.mem_of_getElem? hd)
    obtain ⟨q, t, rfl⟩ := isPc_cases hpc
    have hq : small q = true := by simp only [small, smalls, Bool.and_eq_true] at hs; exact hs.1.1
    refine ⟨trivial, _, rfl, ?_⟩
    have l1 := lstAt_lt a1
    have l2 := lstAt_lt a2
    have e1 := cEq_str (st := s) hq "one" ok_one
    have o1 : onesW (.tup (ps.take (k + 1))) = onesW (.tup (ps.take k)) ++ (if isS "one" q = true then [t] else []) := by
      rw [List.take_add_one, hd]
      simp only [onesW, List.filter_append, List.map_append, Option.toList]
      congr 1
      cases z : isS "one" q <;> simp [List.filter_cons, isOne, z, snd]
    have o2 : rowsW (.tup (ps.take (k + 1))) = rowsW (.tup (ps.take k)) ++ (if isS "one" q = true then [] else [t]) := by
      rw [List.take_add_one, hd]
      simp only [rowsW, List.filter_append, List.map_append, Option.toList]
      congr 1
      cases z : isS "one" q <;> simp [List.filter_cons, isOne, z, snd]
    have c1 : (onesW (.tup (ps.take k))).length ≤ 6 := by
      have := List.length_filter_le (fun p => isOne p == true) (ps.take k)
      simp only [onesW, List.length_map]
      rw [List.length_take] at this
      omega
    have c2 : (rowsW (.tup (ps.take k))).length ≤ 6 := by
      have := List.length_filter_le (fun p => isOne p == false) (ps.take k)
      simp only [rowsW, List.length_map]
      rw [List.length_take] at this
      omega
    show Wp (sIf _ _ _ [some d, some (.ref n1), some (.ref n2), some q, some t, x5] s) _
    have b1 : ts.length + (onesW (.tup (ps.take k))).length < 16777216 := by omega
    have b2 : (rowsW (.tup (ps.take k))).length < 16777216 := by omega
    cases z : isS "one" q
    · walk_at "evs"
      refine ⟨_, _, rfl, ?_, ?_, a3.setN hn2⟩
      · simp [lstAt_set_ne (Ne.symm h12), a1, o1, z]
      · simp [lstAt_set l2, o2, z]
    · walk_at "evs"
      refine ⟨_, _, rfl, ?_, ?_, a3.setN hn1⟩
      · simp [lstAt_set l1, o1, z]
      · simp [lstAt_set_ne h12, a2, o2, z]
  · obtain ⟨y3, y4, rfl, a1, a2, a3⟩ := hI
    rw [List.take_length] at a1 a2
    exact ⟨trivial, hQ _ _ _ a1 a2 a3⟩
theorem names_end {ts rs : List D} {n1 n2 : Nat} {d : D} {x3 x4 x5 : Option D} {s : Store} (h1 : lstAt s n1 = some ts) (hl : ts.length ≤ 100) (hs : ∀ t ∈ ts, small t = true) :
    sRet (fTup (fCons (fComp [5] (iVal (fVar 1)) (gSet 5) (tTru (fIsi .str (fVar 5))) (fVar 5)) (fCons (fVar 2) (fNil)))) [some d, some (.ref n1), some (.ref n2), x3, x4, x5] s = some (.rt (.tup [.tl (ts.filter isStrD), .ref n2]), s) := by
  apply wp_eq
  have e1 := compN_filterG (g := fun st' => st'[n1]? = some (.lst ts)) (T := gSet 5) (C := tTru (fIsi .str (fVar 5))) (F := fVar 5) (env := [some d, some (.ref n1), some (.ref n2), x3, x4, none]) (st := s) (f := id) (p := isStrD) (lstAt_iff.mp h1) ts fun x hx => by
    refine ⟨_, rfl, ?_, fun _ => rfl⟩
    apply wp_eq
    have := hs x hx
    cases x <;> simp [small] at this <;> (walk_at "ev") <;> simp [isStrD]
  rw [List.map_id] at e1
  have h2 := items_ref h1
  have h3 : ts.length ≤ 16777216 := by omega
  walk_at "evs"
  try simp
theorem law_names_in_ok {d : D} {st : Store} (h : small d = true) (hp : isPt d = true ∨ isFt d = true) : Wp (F__law_names_in [d] st) fun r s => ∃ n, r = .tup [.tl ((tmI d).filter isStrD), .ref n] ∧ lstAt s n = some (rwI d) ∧ Kp st s := by
  have hsm := fun x (hx : x ∈ tmI d) => (tmI_mem h hp hx).1
  have hlen := tmI_length hp
  unfold F__law_names_in B__law_names_in
  rw [ev_fn]
  refine ⟨rfl, ?_⟩
  have main : (∃ k r, d = .tup (k :: r) ∧ isS "row" k = false ∧ tmI d = r ∧ rwI d = [] ∧ small k = true) ∨ (∃ k a b ps, d = .tup [k, a, b, .tup ps] ∧ isS "row" k = true ∧ small k = true ∧ ps.length ≤ 6 ∧ ∀ p ∈ ps, small p = true ∧ isPc p = true) := by
    rcases hp with hp | hp
    · rcases isPt_cases hp with ⟨k, a, b, c, rfl, hk, _⟩ | ⟨k, a, b, ps, rfl, hk, _, _, _, hl, hw⟩
      · have hk := isS_ne (b := "row") hk (by decide)
        exact .inl ⟨k, [a, b, c], rfl, hk, by simp [tmI, hk], by simp [rwI, hk], by simp only [small, smalls, Bool.and_eq_true] at h; exact h.1.1⟩
      · simp only [small, smalls, Bool.and_eq_true, decide_eq_true_eq] at h
        obtain ⟨⟨hsk, ha, hb, ⟨hps, _⟩, _⟩, _⟩ := h
        exact .inr ⟨k, a, b, ps, rfl, hk, hsk, hl, fun p hp => ⟨smalls_mem hps hp, hw p hp⟩⟩
    · obtain ⟨k, a, b, rfl, hk, _⟩ := isFt_cases hp
      have hk : isS "row" k = false := by rcases hk with hk | hk <;> exact isS_ne hk (by decide)
      exact .inl ⟨k, [a, b], rfl, hk, by simp [tmI], by simp [rwI], by simp only [small, smalls, Bool.and_eq_true] at h; exact h.1.1⟩
  rcases main with ⟨k, r, rfl, hk, e1, e2, hsk⟩ | ⟨k, a, b, ps, rfl, hk, hsk, hl, hw⟩
  · rw [e1] at hsm hlen ⊢
    rw [e2]
    have q1 := fun st => cEq_str (st := st) hsk "row" ok_row
    have q2 : Vm.cutD (k :: r) (some 1) none = r := by simp [Vm.cutD, HT.sIx]
    walk_at "evs"
    rw [ev_for_nil]
    refine cd_of trivial ?_
    have a1 : lstAt (st ++ [O.lst r] ++ [O.lst []]) st.length = some r := lstAt_kp lstAt_push (Kp.refl.push)
    have e3 := names_end (d := .tup (k :: r)) (n2 := st.length + 1) (x3 := none) (x4 := none) (x5 := none) (rs := []) a1 (by omega) hsm
    rw [kt_nx]
    rw [e3, wp_some, kfn_rt]
    refine ⟨_, rfl, ?_, Kp.refl.push.push⟩
    have := lstAt_push (st := st ++ [O.lst r]) (xs := [])
    simpa using this
  · have q1 := fun st => cEq_str (st := st) hsk "row" ok_row
    have q2 : Vm.cutD [k, a, b, .tup ps] (some 1) (some 3) = [a, b] := by simp [Vm.cutD, HT.sIx]
    walk_at "evs"
    have a1 : lstAt (st ++ [O.lst [a, b]] ++ [O.lst []]) st.length = some [a, b] := lstAt_kp lstAt_push (Kp.refl.push)
    have a2 : lstAt (st ++ [O.lst [a, b]] ++ [O.lst []]) (st.length + 1) = some [] := by
      have := lstAt_push (st := st ++ [O.lst [a, b]]) (xs := [])
      simpa using this
    refine word_loop hw hl (by simp) a1 a2 (by omega) (Kp.refl.push.push) (Nat.le_refl _) (by omega) fun y3 y4 s b1 b2 b3 => ?_
    rw [kt_nx]
    have et : tmI (.tup [k, a, b, .tup ps]) = [a, b] ++ onesW (.tup ps) := by simp [tmI, hk]
    rw [et] at hsm hlen ⊢
    rw [names_end (rs := []) b1 (by omega) hsm, wp_some, kfn_rt]
    exact ⟨_, rfl, by rw [b2]; simp [rwI, hk], b3⟩
end k03
namespace k03
open PySem PySem.Spec PyProof.Rows L2 Vm
local macro_rules | `(tactic| walk_at "ev") => `(tactic| simp only [↓ev_bin, ↓kbin, ↓kbin2, ↓kv, ↓kbl, ↓ev_cmp, ↓kcmp, ↓kcmp2, ↓ev_chain, ↓kch, ↓kch2, kch3_t, kch3_f, ↓ev_cons, ↓kcons, ↓kcons2, ↓ev_tup, ↓ktup, ↓ev_lst, ↓klst, ↓ev_lstS, ↓klstS, ↓ev_neg, ↓kneg, ↓ev_or, ↓kor, kor2_t, kor2_f, ↓ev_and, ↓kand, kand2_t, kand2_f, ↓ev_not, ↓knot, ↓knt, kif_t, kif_f, ↓ev_ite, ↓ev_oSome, ↓kos, ↓ev_cut, ↓kcut, ↓kcut2, ↓kcut3, ↓ev_call, ↓kcall, ↓ev_blt, ↓kblt, ↓ev_isi, ↓kisi, ↓ktg, ↓ev_rev, ↓krev, ↓ev_addS, ↓kas, ↓kas2, ↓kas25, ↓kas3, ↓kfn_rt, ↓kfn_nx, ↓ev_tcmp, ↓ktc, ↓ktc2, ↓ev_tchain, ↓ktch, ↓ev_tru, ↓ktru, ↓ev_tand, ktand_t, ktand_f, ↓ev_tor, ktor_t, ktor_f, ↓ev_tnot, ↓ktnot, ↓ev_tite, ↓ev_seq, kt_nx, kt_rt, kt_bk, kt_ct, ↓ev_ret, ↓kret, ↓ev_expr, ↓kexpr, ↓ev_set, ↓kset, ↓knx, ↓ev_asg, ↓kasg, ↓ev_if, ↓ev_put, ↓kput, ↓kput1, ↓kputs, ↓kput2, ↓ev_aug, ↓kaug, ↓kaug2, ↓kaug3, ↓ev_app, ↓kapp, ↓kapp15, ↓kapp2, ↓kapp3, ↓ev_ext, ↓kext, ↓kext15, ↓kext2, ↓kext3, ↓kext4, ↓ev_for, ↓kfor, kinv_nx, kinv_ct, kinv_bk, kinv_rt, ↓kturn, ↓ev_ival, ↓kiv, ↓ev_range1, ↓kr1, ↓ktl, ↓ev_comp, ↓kcomp, wipe_nil, wipe_cons,
  fv0, fvS, fcon, fnil, ev_oNone, ev_dicN, ev_disp, ev_tyes, snil, spass, sbrk, scnt, sretn, wp_some, ob_some, cd_true,
  List.map_cons, List.map_nil, List.replicate, List.cons_append, List.nil_append, List.append_nil, List.set_cons_zero, List.set_cons_succ, List.length_cons, List.length_nil, Nat.reduceSub, Nat.reduceAdd, Nat.reduceLeDiff, Nat.zero_add, Nat.zero_le, Bool.not_true, Bool.not_false, gSet, gTupF, gConsF, gNilF, dAdd_int, dSub_int, dIdx_tup, dCut_tup, dCut_tl, dRev_tup, bLen_tup, bLen_tl, bList_tup, bList_tl, bTuple_tl, bTuple_tup, bListS_tup, bListS_tl, dIdx_tl, extOf_tup, extOf_tl, lstOf_tl, lstOf_ref, items_tl, items_tup, dAdd_tup, dAdd_tl, List.length_append, atI3, atI4, atI5, cEq_int, cNe_int, atI0, atI1, atI2, tag_non, tag_bl, tag_int, tag_str, tag_tup, tag_tl, tag_sl, isTag, reduceCtorEq, decide_true, decide_false, tru_non, tru_bl, tru_int, tru_tup, tru_tl, tru_sl, Bool.false_eq_true, if_true, if_false, reduceIte, Int.cast_ofNat_Int, cast0, cast1, Int.reduceEq, Int.reduceLE, Int.reduceLT, Int.reduceToNat, Int.reduceAdd, Int.reduceSub, Int.reduceNeg, cLt_int, cLe_int, cGt_int, cGe_int, and_self, rangeD_zero, rangeD_succ, Option.isSome_some, Option.isSome_none, List.isEmpty_nil, List.isEmpty_cons])
local macro_rules | `(tactic| walk_at "evs") => `(tactic| simp only [↓ev_bin, ↓kbin, ↓kbin2, ↓kv, ↓kbl, ↓ev_cmp, ↓kcmp, ↓kcmp2, ↓ev_chain, ↓kch, ↓kch2, kch3_t, kch3_f, ↓ev_cons, ↓kcons, ↓kcons2, ↓ev_tup, ↓ktup, ↓ev_lst, ↓klst, ↓ev_lstS, ↓klstS, ↓ev_neg, ↓kneg, ↓ev_or, ↓kor, kor2_t, kor2_f, ↓ev_and, ↓kand, kand2_t, kand2_f, ↓ev_not, ↓knot, ↓knt, kif_t, kif_f, ↓ev_ite, ↓ev_oSome, ↓kos, ↓ev_cut, ↓kcut, ↓kcut2, ↓kcut3, ↓ev_call, ↓kcall, ↓ev_blt, ↓kblt, ↓ev_isi, ↓kisi, ↓ktg, ↓ev_rev, ↓krev, ↓ev_addS, ↓kas, ↓kas2, ↓kas25, ↓kas3, ↓kfn_rt, ↓kfn_nx, ↓ev_tcmp, ↓ktc, ↓ktc2, ↓ev_tchain, ↓ktch, ↓ev_tru, ↓ktru, ↓ev_tand, ktand_t, ktand_f, ↓ev_tor, ktor_t, ktor_f, ↓ev_tnot, ↓ktnot, ↓ev_tite, ↓ev_seq, kt_nx, kt_rt, kt_bk, kt_ct, ↓ev_ret, ↓kret, ↓ev_expr, ↓kexpr, ↓ev_set, ↓kset, ↓knx, ↓ev_asg, ↓kasg, ↓ev_if, ↓ev_put, ↓kput, ↓kput1, ↓kputs, ↓kput2, ↓ev_aug, ↓kaug, ↓kaug2, ↓kaug3, ↓ev_app, ↓kapp, ↓kapp15, ↓kapp2, ↓kapp3, ↓ev_ext, ↓kext, ↓kext15, ↓kext2, ↓kext3, ↓kext4, ↓ev_for, ↓kfor, kinv_nx, kinv_ct, kinv_bk, kinv_rt, ↓kturn, ↓ev_ival, ↓kiv, ↓ev_range1, ↓kr1, ↓ktl, ↓ev_comp, ↓kcomp, wipe_nil, wipe_cons,
  fv0, fvS, fcon, fnil, ev_oNone, ev_dicN, ev_disp, ev_tyes, snil, spass, sbrk, scnt, sretn, wp_some, ob_some, cd_true,
  List.map_cons, List.map_nil, List.replicate, List.cons_append, List.nil_append, List.append_nil, List.set_cons_zero, List.set_cons_succ, List.length_cons, List.length_nil, Nat.reduceSub, Nat.reduceAdd, Nat.reduceLeDiff, Nat.zero_add, Nat.zero_le, Bool.not_true, Bool.not_false, gSet, gTupF, gConsF, gNilF, dAdd_int, dSub_int, dIdx_tup, dCut_tup, dCut_tl, dRev_tup, bLen_tup, bLen_tl, bList_tup, bList_tl, bTuple_tl, bTuple_tup, bListS_tup, bListS_tl, dIdx_tl, extOf_tup, extOf_tl, lstOf_tl, lstOf_ref, items_tl, items_tup, dAdd_tup, dAdd_tl, List.length_append, atI3, atI4, atI5, cEq_int, cNe_int, atI0, atI1, atI2, tag_non, tag_bl, tag_int, tag_str, tag_tup, tag_tl, tag_sl, isTag, reduceCtorEq, decide_true, decide_false, tru_non, tru_bl, tru_int, tru_tup, tru_tl, tru_sl, Bool.false_eq_true, if_true, if_false, reduceIte, Int.cast_ofNat_Int, cast0, cast1, Int.reduceEq, Int.reduceLE, Int.reduceLT, Int.reduceToNat, Int.reduceAdd, Int.reduceSub, Int.reduceNeg, cLt_int, cLe_int, cGt_int, cGe_int, and_self, rangeD_zero, rangeD_succ, Option.isSome_some, Option.isSome_none, List.isEmpty_nil, List.isEmpty_cons, *])
def sortsD : List (Key × D) := [(.inr "cell", .int 4), (.inr "row", .int 4), (.inr "same", .int 3), (.inr "apart", .int 3)]
theorem merge_sorts : mergeD [] sortsD = sortsD := by rfl
theorem dIdxA_dic {st : Store} {kvs : List (Key × D)} {z : Str} : dIdxA (.ref st.length) (.str z) (st ++ [.dic kvs]) = getD kvs (.inr z) := by
  simp only [dIdxA, push_at, keyD]
theorem cNotInA_dic {st : Store} {kvs : List (Key × D)} {z : Str} : cNotInA (.str z) (.ref st.length) (st ++ [.dic kvs]) = some (!(getD kvs (.inr z)).isSome) := by
  simp only [cNotInA, push_at, keyD]
theorem getS_cell : getD sortsD (.inr "cell") = some (.int 4) := by rfl
theorem getS_row : getD sortsD (.inr "row") = some (.int 4) := by rfl
theorem getS_same : getD sortsD (.inr "same") = some (.int 3) := by rfl
theorem getS_apart : getD sortsD (.inr "apart") = some (.int 3) := by rfl
theorem getS_none {z : Str} (h1 : z ≠ "cell") (h2 : z ≠ "row") (h3 : z ≠ "same") (h4 : z ≠ "apart") : getD sortsD (.inr z) = none := by
  unfold getD sortsD
  simp [Ne.symm h1, Ne.symm h2, Ne.symm h3, Ne.symm h4]
theorem cEq_nil {xs : List D} {st : Store} (h : small (.tup xs) = true) : cEq (.tup xs) (.tup []) st = some xs.isEmpty := by
  unfold cEq
  rw [show deref st (.tup xs) = .tup xs from rfl, show deref st (.tup []) = .tup [] from rfl]
  have : okEq (.tup xs) (.tup []) = true := by
    have := okd_small _ h
    simp only [okd] at this
    simp [okEq, this, okd, okds, dep, deps]
  rw [if_pos this]
  cases xs <;> simp [deq, pd, pds, PyData.eqv, PyData.eqvAll]
def itN (d : D) : Int := if isPt d = true then 4 else if isFt d = true then 3 else 0
theorem itN_short {k : D} {r : List D} (h : r.length ≠ 2) (h2 : r.length ≠ 3) : itN (.tup (k :: r)) = 0 := by
  unfold itN
  have a1 : isPt (.tup (k :: r)) = false := by
    unfold isPt
    split
    · rename_i e; cases e; simp at h2
    · rfl
  have a2 : isFt (.tup (k :: r)) = false := by
    unfold isFt
    split
    · rename_i e; cases e; simp at h
    · rfl
  simp [a1, a2]
theorem any_terms {xs : List D} : (xs.any fun d => isTm d == false) = !xs.all isTm := by
  induction xs with
  | nil => rfl
  | cons x xs ih => rw [List.any_cons, ih, List.all_cons]; cases isTm x <;> simp
/-- the end of it: the terms looked at -/
noncomputable def T_item : FS := sSeq (sIf (tOrF (tCmpF cIn (fCon (.bl false)) (fComp [3] (iVal (fVar 2)) (gSet 3) (tYesF) (fCall 1 F__law_is_term (fCons (fVar 3) (fNil))))) (tAndF (tCmpF cEq (fBin dIdx (fVar 0) (fCon (.int 0))) (fCon (.str "row"))) (tNotF (tTru (fCall 1 F__law_is_word (fCons (fBin dIdx (fVar 0) (fCon (.int 3))) (fNil))))))) (sRet (fCon (.int 0))) (sNil))
  (sRet (fBlt bLen (fCons (fVar 0) (fNil))))
theorem T_item_ok {k : D} {r ts : List D} {x1 : Option D} {st : Store} (h : small (.tup (k :: r)) = true) (hts : smalls ts = true) (htl : ts.length ≤ 1000) {c : D} (hc : isS "row" k = true → L2.atI (k :: r) 3 = some c ∧ small c = true) :
    T_item [some (.tup (k :: r)), x1, some (.tup ts), none] st = some (.rt (.int (if ts.all isTm && (!isS "row" k || isWd c) then r.length + 1 else 0)), st) := by
  apply wp_eq
  have hk : small k = true := by simp only [small, smalls, Bool.and_eq_true] at h; exact h.1.1
  have key := map_comp' (f := F__law_is_term) (p := isTm) (st := st) (xs := ts) (env := [some (.tup (k :: r)), x1, some (.tup ts), none]) (i := 2) (k := 3) (v := .tup ts) rfl rfl (by simp) (by omega) fun d hd => by rw [e_w_term]; exact W_is_term_eq (smalls_mem hts hd)
  have e2 := cIn_bls' (p := isTm) (st := st) false ts
  rw [any_terms] at e2
  have e3 := cEq_str (st := st) hk "row" ok_row
  have hlen : r.length + 1 ≤ 16777216 := by simp only [small, Bool.and_eq_true, decide_eq_true_eq, List.length_cons] at h; omega
  unfold T_item
  generalize hX : fComp [3] (iVal (fVar 2)) (gSet 3) (tYesF) (fCall 1 F__law_is_term (fCons (fVar 3) (fNil))) = X at key ⊢
  cases z : ts.all isTm
  · walk_at "evs"
    simp
  · cases y : isS "row" k
    · walk_at "evs"
      simp
    · obtain ⟨hc1, hc2⟩ := hc y
      have e4 : F__law_is_word [c] st = some (.bl (isWd c), st) := by rw [e_w_word]; exact W_is_word_eq hc2
      cases w : isWd c
      · walk_at "evs"
        simp
      · walk_at "evs"
        simp
theorem law_is_item_ok {d : D} {st : Store} (h : small d = true) : Wp (F__law_is_item [d] st) fun r s => r = .int (itN d) ∧ Kp st s := by
  unfold F__law_is_item
  rw [show B__law_is_item = sSeq (sIf (tOrF (tNotF (tTru (fIsi .tup (fVar 0)))) (tCmpF cEq (fVar 0) (fTup (fNil)))) (sRet (fCon (.int 0))) (sNil))
    (sSeq (sSet 1 (fDisp sortsD))
    (sSeq (sIf (tOrF (tNotF (tTru (fIsi .str (fBin dIdx (fVar 0) (fCon (.int 0)))))) (tOrF (tCmpF cNotInA (fBin dIdx (fVar 0) (fCon (.int 0))) (fVar 1)) (tCmpF cNe (fBlt bLen (fCons (fVar 0) (fNil))) (fBin dIdxA (fVar 1) (fBin dIdx (fVar 0) (fCon (.int 0))))))) (sRet (fCon (.int 0))) (sNil))
    (sSeq (sSet 2 (fIte (tCmpF cEq (fBin dIdx (fVar 0) (fCon (.int 0))) (fCon (.str "row"))) (fCut (fVar 0) (oSome (fCon (.int 1))) (oSome (fCon (.int 3)))) (fCut (fVar 0) (oSome (fCon (.int 1))) (oNone)))) T_item))) from rfl]
  rw [ev_fn]
  refine ⟨rfl, ?_⟩
  cases d with
  | tup xs =>
    have hn0 := fun st => cEq_nil (st := st) h
    cases xs with
    | nil =>
      have hn := fun st => (hn0 st).trans (show some ([] : List D).isEmpty = some true from rfl)
      clear hn0
      walk_at "evs"
      simp [itN, isPt, isFt, Kp.refl]
    | cons k r =>
      have hsm := h
      simp only [small, smalls, Bool.and_eq_true, decide_eq_true_eq, List.length_cons] at hsm
      obtain ⟨⟨hk, hr⟩, hrl⟩ := hsm
      have hn := fun st => (hn0 st).trans (show some (k :: r).isEmpty = some false from rfl)
      clear hn0
      by_cases hs : ∃ z, k = .str z
      · obtain ⟨z, rfl⟩ := hs
        have f1 : ∀ st : Store, dIdxA (.ref st.length) (.str z) (st ++ [.dic sortsD]) = getD sortsD (.inr z) := fun st => dIdxA_dic
        have f2 : ∀ st : Store, cNotInA (.str z) (.ref st.length) (st ++ [.dic sortsD]) = some (!(getD sortsD (.inr z)).isSome) := fun st => cNotInA_dic
        have e3 := fun st => cEq_str (st := st) hk "row" ok_row
        have kp : Kp st (st ++ [.dic sortsD]) := Kp.refl.push
        have hm := merge_sorts
        -- with its length
        have go : ∀ (m : Nat), getD sortsD (.inr z) = some (.int m) → m = 3 ∨ m = 4 → (m = 3 ↔ (isS "same" (.str z) = true ∨ isS "apart" (.str z) = true)) → (m = 4 ↔ (isS "cell" (.str z) = true ∨ isS "row" (.str z) = true)) → (isS "row" (.str z) = true → isS "cell" (.str z) = false) →
            Wp (sSeq (sIf (tOrF (tNotF (tTru (fIsi .str (fBin dIdx (fVar 0) (fCon (.int 0)))))) (tOrF (tCmpF cNotInA (fBin dIdx (fVar 0) (fCon (.int 0))) (fVar 1)) (tCmpF cNe (fBlt bLen (fCons (fVar 0) (fNil))) (fBin dIdxA (fVar 1) (fBin dIdx (fVar 0) (fCon (.int 0))))))) (sRet (fCon (.int 0))) (sNil))
              (sSeq (sSet 2 (fIte (tCmpF cEq (fBin dIdx (fVar 0) (fCon (.int 0))) (fCon (.str "row"))) (fCut (fVar 0) (oSome (fCon (.int 1))) (oSome (fCon (.int 3)))) (fCut (fVar 0) (oSome (fCon (.int 1))) (oNone)))) T_item) [some (.tup (.str z :: r)), some (.ref st.length), none, none] (st ++ [.dic sortsD])) (KFn fun r' s => r' = .int (itN (.tup (.str z :: r))) ∧ Kp st s) := by
          intro m hg hm34 h3 h4 hrc
          have e1 := fun st => (f1 st).trans hg
          have e2 := fun st => (f2 st).trans (by rw [hg]; rfl : _ = some false)
          clear f1 f2
          have hlen : r.length + 1 ≤ 16777216 := by omega
          by_cases hl : r.length + 1 = m
          · have c1 : (((r.length + 1 : Nat) : Int) = (m : Int)) = True := by simp [hl]
            have q1 : Vm.cutD (.str z :: r) (some 1) none = r := by simp [Vm.cutD, HT.sIx]
            have sr : small (.tup (.str z :: r)) = true := h
            by_cases hrow : isS "row" (.str z) = true
            · have hm4 : m = 4 := h4.mpr (.inr hrow)
              obtain ⟨a, b, c, rfl⟩ : ∃ a b c, r = [a, b, c] := by
                match r, (show r.length = 3 by omega) with
                | [a, b, c], _ => exact ⟨a, b, c, rfl⟩
              have q2 : Vm.cutD [.str z, a, b, c] (some 1) (some 3) = [a, b] := by simp [Vm.cutD, HT.sIx]
              simp only [smalls, Bool.and_eq_true] at hr
              have t := T_item_ok (k := .str z) (r := [a, b, c]) (ts := [a, b]) (x1 := some (.ref st.length)) (st := st ++ [.dic sortsD]) h (by simp [smalls, hr.1, hr.2.1]) (by simp) (c := c) (fun _ => ⟨atI3, hr.2.2.1⟩)
              subst hm4
              walk_at "evs"
              refine ⟨?_, trivial⟩
              simp [itN, isPt, hrow, hrc hrow, isFt]
            · have hrow : isS "row" (.str z) = false := by simpa using hrow
              have t := T_item_ok (k := .str z) (r := r) (ts := r) (x1 := some (.ref st.length)) (st := st ++ [.dic sortsD]) h hr (by omega) (c := .non) (fun q => by rw [hrow] at q; cases q)
              rcases hm34 with rfl | rfl
              · obtain ⟨a, b, rfl⟩ : ∃ a b, r = [a, b] := by
                  match r, (show r.length = 2 by omega) with
                  | [a, b], _ => exact ⟨a, b, rfl⟩
                walk_at "evs"
                refine ⟨?_, trivial⟩
                have := h3.mp rfl
                simp [itN, isPt, isFt, this, hrow]
              · obtain ⟨a, b, c, rfl⟩ : ∃ a b c, r = [a, b, c] := by
                  match r, (show r.length = 3 by omega) with
                  | [a, b, c], _ => exact ⟨a, b, c, rfl⟩
                walk_at "evs"
                refine ⟨?_, trivial⟩
                have hcell : isS "cell" (.str z) = true := by
                  rcases h4.mp rfl with q | q
                  · exact q
                  · rw [hrow] at q; cases q
                simp [itN, isPt, isFt, hcell, hrow]
                cases isTm a <;> cases isTm b <;> cases isTm c <;> simp
          · have c1 : decide (((r.length + 1 : Nat) : Int) = (m : Int)) = false := decide_eq_false (by omega)
            walk_at "evs"
            refine ⟨?_, trivial⟩
            congr 1
            symm
            unfold itN
            have a1 : isPt (.tup (.str z :: r)) = false := by
              cases q : isPt (.tup (.str z :: r)) with
              | false => rfl
              | true =>
                rcases isPt_cases q with ⟨k, a, b, c, e, hk, _⟩ | ⟨k, a, b, ps, e, hk, _⟩
                · cases e
                  have := h4.mpr (.inl hk)
                  simp at hl
                  omega
                · cases e
                  have := h4.mpr (.inr hk)
                  simp at hl
                  omega
            have a2 : isFt (.tup (.str z :: r)) = false := by
              cases q : isFt (.tup (.str z :: r)) with
              | false => rfl
              | true =>
                obtain ⟨k, a, b, e, hk, _⟩ := isFt_cases q
                cases e
                have := h3.mpr hk
                simp at hl
                omega
            simp [a1, a2]
        generalize hB : sSeq (sIf (tOrF (tNotF (tTru (fIsi .str (fBin dIdx (fVar 0) (fCon (.int 0)))))) (tOrF (tCmpF cNotInA (fBin dIdx (fVar 0) (fCon (.int 0))) (fVar 1)) (tCmpF cNe (fBlt bLen (fCons (fVar 0) (fNil))) (fBin dIdxA (fVar 1) (fBin dIdx (fVar 0) (fCon (.int 0))))))) (sRet (fCon (.int 0))) (sNil))
              (sSeq (sSet 2 (fIte (tCmpF cEq (fBin dIdx (fVar 0) (fCon (.int 0))) (fCon (.str "row"))) (fCut (fVar 0) (oSome (fCon (.int 1))) (oSome (fCon (.int 3)))) (fCut (fVar 0) (oSome (fCon (.int 1))) (oNone)))) T_item) = BB at go ⊢
        have start : ∀ m : Nat, Wp (BB [some (.tup (.str z :: r)), some (.ref st.length), none, none] (st ++ [.dic sortsD])) (KFn fun r' s => r' = .int (itN (.tup (.str z :: r))) ∧ Kp st s) →
            Wp (sSeq (sIf (tOrF (tNotF (tTru (fIsi .tup (fVar 0)))) (tCmpF cEq (fVar 0) (fTup (fNil)))) (sRet (fCon (.int 0))) (sNil)) (sSeq (sSet 1 (fDisp sortsD)) BB) ([D.tup (.str z :: r)].map some ++ List.replicate (4 - 1) none) st) (KFn fun r' s => r' = .int (itN (.tup (.str z :: r))) ∧ Kp st s) := by
          intro m q
          clear f1 f2 e3 go kp
          walk_at "evs"
        by_cases z1 : z = "cell"
        · subst z1
          exact start 0 (go 4 getS_cell (.inr rfl) (by decide) (by decide) (by decide))
        · by_cases z2 : z = "row"
          · subst z2
            exact start 0 (go 4 getS_row (.inr rfl) (by decide) (by decide) (by decide))
          · by_cases z3 : z = "same"
            · subst z3
              exact start 0 (go 3 getS_same (.inl rfl) (by decide) (by decide) (by decide))
            · by_cases z4 : z = "apart"
              · subst z4
                exact start 0 (go 3 getS_apart (.inl rfl) (by decide) (by decide) (by decide))
              · refine start 0 ?_
                subst hB
                have hg := getS_none z1 z2 z3 z4
                have e2 := fun st => (f2 st).trans (by rw [hg]; rfl : _ = some true)
                clear f1 f2 go start e3
                walk_at "evs"
                refine ⟨?_, trivial⟩
                have a1 : isPt (.tup (.str z :: r)) = false := by
                  cases q : isPt (.tup (.str z :: r)) with
                  | false => rfl
                  | true =>
                    rcases isPt_cases q with ⟨k, a, b, c, e, hk, _⟩ | ⟨k, a, b, ps, e, hk, _⟩ <;> cases e <;> simp [isS_str, z1, z2] at hk
                have a2 : isFt (.tup (.str z :: r)) = false := by
                  cases q : isFt (.tup (.str z :: r)) with
                  | false => rfl
                  | true =>
                    obtain ⟨k, a, b, e, hk, _⟩ := isFt_cases q
                    cases e
                    simp [isS_str, z3, z4] at hk
                simp [itN, a1, a2]
      · have a1 : isPt (.tup (k :: r)) = false := by
          cases q : isPt (.tup (k :: r)) with
          | false => rfl
          | true =>
            rcases isPt_cases q with ⟨k, a, b, c, e, hk, _⟩ | ⟨k, a, b, ps, e, hk, _⟩ <;> cases e <;> (cases k <;> simp [isS] at hk; exact absurd ⟨_, rfl⟩ hs)
        have a2 : isFt (.tup (k :: r)) = false := by
          cases q : isFt (.tup (k :: r)) with
          | false => rfl
          | true =>
            obtain ⟨k, a, b, e, hk, _⟩ := isFt_cases q
            cases e
            cases k <;> simp [isS] at hk
            exact absurd ⟨_, rfl⟩ hs
        have hit : itN (.tup (k :: r)) = 0 := by simp [itN, a1, a2]
        have hm := merge_sorts
        cases k with
        | str z => exact absurd ⟨z, rfl⟩ hs
        | ref n => simp [small] at hk
        | ty n => simp [small] at hk
        | _ =>
          clear a1 a2 hs h hk hr
          walk_at "evs"
          exact ⟨trivial, Kp.refl.push⟩
  | _ => simp [small] at h <;> (walk_at "ev") <;> simp [itN, isPt, isFt, Kp.refl]
end k03
namespace Vm
open PySem PySem.Spec PyProof.Rows L2
/-- a comprehension whose tests and elements lay objects, no more -/
theorem comp_kp {T : FG} {C : FT} {F : FE} {env : En} {f : D → D} {p : D → Bool} : ∀ (ds : List D) (st : Store), (∀ d ∈ ds, ∃ e1, T d env = some e1 ∧ (∀ s, Kp st s → Wp (C e1 s) fun k s1 => k = p d ∧ Kp s s1) ∧ (p d = true → ∀ s, Kp st s → Wp (F e1 s) fun y s1 => y = f d ∧ Kp s s1)) →
    Wp (compN (fun _ => True) T C F ds env st) fun ys s => ys = (ds.filter p).map f ∧ Kp st s
  | [], st, _ => by
    unfold compN
    rw [if_pos trivial, wp_some]
    exact ⟨rfl, Kp.refl⟩
  | d :: ds, st, h => by
    obtain ⟨e1, h1, h2, h3⟩ := h d List.mem_cons_self
    obtain ⟨k, s1, ec, rfl, k1⟩ := h2 st Kp.refl
    have ih := fun s (hs : Kp st s) => comp_kp ds s fun x hx => (h x (List.mem_cons_of_mem _ hx)).imp fun e q => ⟨q.1, fun s' hs' => q.2.1 s' (hs.trans hs'), fun hp s' hs' => q.2.2 hp s' (hs.trans hs')⟩
    unfold compN
    rw [if_pos trivial]
    simp only [h1, ec]
    cases hp : p d with
    | true =>
      obtain ⟨y, s2, ef, rfl, k2⟩ := h3 hp s1 k1
      obtain ⟨ys, s3, e3, rfl, k3⟩ := ih s2 (k1.trans k2)
      simp only [ef, e3]
      exact wp_some.mpr ⟨by simp [List.filter_cons, hp], (k1.trans k2).trans k3⟩
    | false =>
      obtain ⟨ys, s3, e3, rfl, k3⟩ := ih s1 k1
      simp only [e3]
      exact wp_some.mpr ⟨by simp [List.filter_cons, hp], k1.trans k3⟩
theorem dAdd_tl_ref {xs ys : List D} {st : Store} {n : Nat} (h : lstAt st n = some ys) (hl : xs.length + ys.length ≤ 16777216) : dAdd (.tl xs) (.ref n) st = some (.tl (xs ++ ys)) := by
  show (match lstOf st (.tl xs) with | some xs => (match lstOf st (.ref n) with | some ys => if xs.length + ys.length ≤ 16777216 then some (D.tl (xs ++ ys)) else none | none => none) | none => none) = _
  rw [lstOf_ref, h, lstOf_tl]
  simp [hl]
theorem cmp_tlnil {xs : List D} {st : Store} (h : okds xs = true) : cEq (.tl xs) (.tl []) st = some xs.isEmpty ∧ cNe (.tl xs) (.tl []) st = some (!xs.isEmpty) := by
  have : okEq (.tl xs) (.tl []) = true := by simp [okEq, h, okd, okds, dep, deps]
  have e : deq (.tl xs) (.tl []) = xs.isEmpty := by
    cases xs <;> simp [deq, pd, pds, PyData.eqv, PyData.eqvAll]
  constructor
  · unfold cEq
    rw [show deref st (.tl xs) = .tl xs from rfl, show deref st (.tl []) = .tl [] from rfl, if_pos this, e]
  · unfold cNe
    rw [show deref st (.tl xs) = .tl xs from rfl, show deref st (.tl []) = .tl [] from rfl, if_pos this, e]
theorem range2 : rangeD 0 (2 : Int).toNat = [.int 0, .int 1] := rfl
end Vm
namespace k03
open PySem PySem.Spec PyProof.Rows L2 Vm
local macro_rules | `(tactic| walk_at "ev") => `(tactic| simp only [↓ev_bin, ↓kbin, ↓kbin2, ↓kv, ↓kbl, ↓ev_cmp, ↓kcmp, ↓kcmp2, ↓ev_chain, ↓kch, ↓kch2, kch3_t, kch3_f, ↓ev_cons, ↓kcons, ↓kcons2, ↓ev_tup, ↓ktup, ↓ev_lst, ↓klst, ↓ev_lstS, ↓klstS, ↓ev_neg, ↓kneg, ↓ev_or, ↓kor, kor2_t, kor2_f, ↓ev_and, ↓kand, kand2_t, kand2_f, ↓ev_not, ↓knot, ↓knt, kif_t, kif_f, ↓ev_ite, ↓ev_oSome, ↓kos, ↓ev_cut, ↓kcut, ↓kcut2, ↓kcut3, ↓ev_call, ↓kcall, ↓ev_blt, ↓kblt, ↓ev_isi, ↓kisi, ↓ktg, ↓ev_rev, ↓krev, ↓ev_addS, ↓kas, ↓kas2, ↓kas25, ↓kas3, ↓kfn_rt, ↓kfn_nx, ↓ev_tcmp, ↓ktc, ↓ktc2, ↓ev_tchain, ↓ktch, ↓ev_tru, ↓ktru, ↓ev_tand, ktand_t, ktand_f, ↓ev_tor, ktor_t, ktor_f, ↓ev_tnot, ↓ktnot, ↓ev_tite, ↓ev_seq, kt_nx, kt_rt, kt_bk, kt_ct, ↓ev_ret, ↓kret, ↓ev_expr, ↓kexpr, ↓ev_set, ↓kset, ↓knx, ↓ev_asg, ↓kasg, ↓ev_if, ↓ev_put, ↓kput, ↓kput1, ↓kputs, ↓kput2, ↓ev_aug, ↓kaug, ↓kaug2, ↓kaug3, ↓ev_app, ↓kapp, ↓kapp15, ↓kapp2, ↓kapp3, ↓ev_ext, ↓kext, ↓kext15, ↓kext2, ↓kext3, ↓kext4, ↓ev_for, ↓kfor, kinv_nx, kinv_ct, kinv_bk, kinv_rt, ↓kturn, ↓ev_ival, ↓kiv, ↓ev_range1, ↓kr1, ↓ktl, ↓ev_comp, ↓kcomp, wipe_nil, wipe_cons,
  fv0, fvS, fcon, fnil, ev_oNone, ev_dicN, ev_disp, ev_tyes, snil, spass, sbrk, scnt, sretn, wp_some, ob_some, cd_true,
  List.map_cons, List.map_nil, List.replicate, List.cons_append, List.nil_append, List.append_nil, List.set_cons_zero, List.set_cons_succ, List.length_cons, List.length_nil, Nat.reduceSub, Nat.reduceAdd, Nat.reduceLeDiff, Nat.zero_add, Nat.zero_le, Bool.not_true, Bool.not_false, gSet, gTupF, gConsF, gNilF, dAdd_int, dSub_int, dIdx_tup, dCut_tup, dCut_tl, dRev_tup, bLen_tup, bLen_tl, bList_tup, bList_tl, bTuple_tl, bTuple_tup, bListS_tup, bListS_tl, dIdx_tl, extOf_tup, extOf_tl, lstOf_tl, lstOf_ref, items_tl, items_tup, dAdd_tup, dAdd_tl, List.length_append, atI3, atI4, atI5, cEq_int, cNe_int, atI0, atI1, atI2, tag_non, tag_bl, tag_int, tag_str, tag_tup, tag_tl, tag_sl, isTag, reduceCtorEq, decide_true, decide_false, tru_non, tru_bl, tru_int, tru_tup, tru_tl, tru_sl, Bool.false_eq_true, if_true, if_false, reduceIte, Int.cast_ofNat_Int, cast0, cast1, Int.reduceEq, Int.reduceLE, Int.reduceLT, Int.reduceToNat, Int.reduceAdd, Int.reduceSub, Int.reduceNeg, cLt_int, cLe_int, cGt_int, cGe_int, and_self, rangeD_zero, rangeD_succ, Option.isSome_some, Option.isSome_none, List.isEmpty_nil, List.isEmpty_cons])
local macro_rules | `(tactic| walk_at "evs") => `(tactic| simp only [↓ev_bin, ↓kbin, ↓kbin2, ↓kv, ↓kbl, ↓ev_cmp, ↓kcmp, ↓kcmp2, ↓ev_chain, ↓kch, ↓kch2, kch3_t, kch3_f, ↓ev_cons, ↓kcons, ↓kcons2, ↓ev_tup, ↓ktup, ↓ev_lst, ↓klst, ↓ev_lstS, ↓klstS, ↓ev_neg, ↓kneg, ↓ev_or, ↓kor, kor2_t, kor2_f, ↓ev_and, ↓kand, kand2_t, kand2_f, ↓ev_not, ↓knot, ↓knt, kif_t, kif_f, ↓ev_ite, ↓ev_oSome, ↓kos, ↓ev_cut, ↓kcut, ↓kcut2, ↓kcut3, ↓ev_call, ↓kcall, ↓ev_blt, ↓kblt, ↓ev_isi, ↓kisi, ↓ktg, ↓ev_rev, ↓krev, ↓ev_addS, ↓kas, ↓kas2, ↓kas25, ↓kas3, ↓kfn_rt, ↓kfn_nx, ↓ev_tcmp, ↓ktc, ↓ktc2, ↓ev_tchain, ↓ktch, ↓ev_tru, ↓ktru, ↓ev_tand, ktand_t, ktand_f, ↓ev_tor, ktor_t, ktor_f, ↓ev_tnot, ↓ktnot, ↓ev_tite, ↓ev_seq, kt_nx, kt_rt, kt_bk, kt_ct, ↓ev_ret, ↓kret, ↓ev_expr, ↓kexpr, ↓ev_set, ↓kset, ↓knx, ↓ev_asg, ↓kasg, ↓ev_if, ↓ev_put, ↓kput, ↓kput1, ↓kputs, ↓kput2, ↓ev_aug, ↓kaug, ↓kaug2, ↓kaug3, ↓ev_app, ↓kapp, ↓kapp15, ↓kapp2, ↓kapp3, ↓ev_ext, ↓kext, ↓kext15, ↓kext2, ↓kext3, ↓kext4, ↓ev_for, ↓kfor, kinv_nx, kinv_ct, kinv_bk, kinv_rt, ↓kturn, ↓ev_ival, ↓kiv, ↓ev_range1, ↓kr1, ↓ktl, ↓ev_comp, ↓kcomp, wipe_nil, wipe_cons,
  fv0, fvS, fcon, fnil, ev_oNone, ev_dicN, ev_disp, ev_tyes, snil, spass, sbrk, scnt, sretn, wp_some, ob_some, cd_true,
  List.map_cons, List.map_nil, List.replicate, List.cons_append, List.nil_append, List.append_nil, List.set_cons_zero, List.set_cons_succ, List.length_cons, List.length_nil, Nat.reduceSub, Nat.reduceAdd, Nat.reduceLeDiff, Nat.zero_add, Nat.zero_le, Bool.not_true, Bool.not_false, gSet, gTupF, gConsF, gNilF, dAdd_int, dSub_int, dIdx_tup, dCut_tup, dCut_tl, dRev_tup, bLen_tup, bLen_tl, bList_tup, bList_tl, bTuple_tl, bTuple_tup, bListS_tup, bListS_tl, dIdx_tl, extOf_tup, extOf_tl, lstOf_tl, lstOf_ref, items_tl, items_tup, dAdd_tup, dAdd_tl, List.length_append, atI3, atI4, atI5, cEq_int, cNe_int, atI0, atI1, atI2, tag_non, tag_bl, tag_int, tag_str, tag_tup, tag_tl, tag_sl, isTag, reduceCtorEq, decide_true, decide_false, tru_non, tru_bl, tru_int, tru_tup, tru_tl, tru_sl, Bool.false_eq_true, if_true, if_false, reduceIte, Int.cast_ofNat_Int, cast0, cast1, Int.reduceEq, Int.reduceLE, Int.reduceLT, Int.reduceToNat, Int.reduceAdd, Int.reduceSub, Int.reduceNeg, cLt_int, cLe_int, cGt_int, cGe_int, and_self, rangeD_zero, rangeD_succ, Option.isSome_some, Option.isSome_none, List.isEmpty_nil, List.isEmpty_cons, *])
theorem pt_ft {d : D} (h : isPt d = true) : isFt d = false := by
  cases q : isFt d with
  | false => rfl
  | true =>
    obtain ⟨k, a, b, rfl, _⟩ := isFt_cases q
    simp [isPt] at h
theorem itN4 (d : D) : (itN d = 4) ↔ isPt d = true := by
  unfold itN
  cases isPt d <;> cases isFt d <;> simp
theorem itN3 (d : D) : (itN d = 3) ↔ isFt d = true := by
  unfold itN
  cases h : isPt d
  · cases isFt d <;> simp
  · rw [pt_ft h]; simp
theorem filt_empty {xs : List D} {m : Int} {p : D → Bool} (h : ∀ d, itN d = m ↔ p d = true) : ((xs.filter fun d => !decide (itN d = m)).map id).isEmpty = xs.all p := by
  rw [List.map_id]
  induction xs with
  | nil => rfl
  | cons x xs ih =>
    rw [List.filter_cons, List.all_cons]
    have := h x
    cases q : p x
    · have : ¬ itN x = m := fun e => by rw [this.mp e] at q; cases q
      simp [this]
    · have := this.mpr q
      simp [this, ih, q]
theorem items_comp {xs : List D} {env : En} {st : Store} {m k : Int} (hx : ∀ x ∈ xs, small x = true) (h1 : ∀ s, fVar 1 env s = some (.int k, s)) (hl : 4 < env.length) (hm : 4 - k = m) :
    Wp (compN (fun _ => True) (gSet 4) (tCmpF cNe (fCall 1 F__law_is_item (fCons (fVar 4) (fNil))) (fBin dSub (fCon (.int 4)) (fVar 1))) (fVar 4) xs env st) fun ys s => ys = (xs.filter fun d => !decide (itN d = m)).map id ∧ Kp st s := by
  refine comp_kp xs st fun d hd => ⟨_, rfl, fun s hs => ?_, fun _ s hs => ?_⟩
  · have v4 : ∀ s, fVar 4 (env.set 4 (some d)) s = some (d, s) := fun s => by
      unfold fVar
      rw [List.getElem?_set_self hl]
    have v1 : ∀ s, fVar 1 (env.set 4 (some d)) s = some (.int k, s) := fun s => by
      have := h1 s
      unfold fVar at this ⊢
      rw [List.getElem?_set_ne (by omega)]
      exact this
    rw [ev_tcmp, ev_call, ev_cons, v4, wp_some, kcons, fnil, wp_some, kcons2, kcall]
    refine cd_of rfl ((law_is_item_ok (hx d hd)).mono fun r s1 hr => ?_)
    obtain ⟨rfl, k1⟩ := hr
    rw [ktc, ev_bin, fcon, wp_some, kbin, v1, wp_some, kbin2, dSub_int, ob_some, kv, ktc2, cNe_int, ob_some, kv, hm]
    exact ⟨rfl, k1⟩
  · have v4 : fVar 4 (env.set 4 (some d)) s = some (d, s) := by
      unfold fVar
      rw [List.getElem?_set_self hl]
    rw [v4, wp_some]
    exact ⟨rfl, Kp.refl⟩
theorem str_filter (xs : List D) : xs.filter isStrD = (xs.filterMap strOf).map .str := by
  induction xs with
  | nil => rfl
  | cons x xs ih =>
    rw [List.filter_cons, ih]
    cases x <;> simp [isStrD, strOf, List.filterMap_cons]
theorem rwI_fact {d : D} (h : isFt d = true) : rwI d = [] := by
  obtain ⟨k, a, b, rfl, _⟩ := isFt_cases h
  rfl
/-- the end of it: the names gathered -/
noncomputable def T_claim : FS := sSeq (sSet 2 (fLst (fNil)))
  (sSeq (sSet 3 (fLst (fNil)))
  (sSeq (sFor (iVal (fBin dAdd (fBin dIdx (fVar 0) (fCon (.int 0))) (fBin dIdx (fVar 0) (fCon (.int 1))))) (gSet 4) (sSeq (sSet 2 (fBin dAdd (fVar 2) (fBin dIdx (fCall 1 F__law_names_in (fCons (fVar 4) (fNil))) (fCon (.int 0)))))
  (sSet 3 (fBin dAdd (fVar 3) (fBin dIdx (fCall 1 F__law_names_in (fCons (fVar 4) (fNil))) (fCon (.int 1)))))))
  (sRet (fCmp cEq (fComp [5] (iVal (fVar 3)) (gSet 5) (tCmpF cIn (fVar 5) (fVar 2)) (fVar 5)) (fLst (fNil))))))
theorem T_claim_ok {d : D} {x1 x4 : Option D} {st : Store} (h : small d = true) (hf : hasF d = true) : Wp (T_claim [some d, x1, none, none, x4, none] st) fun o s => o = .rt (.bl (isClm d)) ∧ Kp st s := by
  have hf' := hf
  obtain ⟨ps, fs, rfl, hpl, hfl, hps, hfs⟩ := hasF_cases hf
  obtain ⟨sp, sf⟩ := small_claim h
  have both : ∀ x ∈ ps ++ fs, small x = true ∧ (isPt x = true ∨ isFt x = true) := fun x hx => by
    rcases List.mem_append.mp hx with hx | hx
    · exact ⟨sp x hx, .inl (hps x hx)⟩
    · exact ⟨sf x hx, .inr (hfs x hx)⟩
  have hl : ps.length + fs.length ≤ 16777216 := by omega
  unfold T_claim
  walk_at "evs"
  have rwl : ∀ x ∈ ps ++ fs, (rwI x).length ≤ 6 := fun x hx => by
    rcases List.mem_append.mp hx with hx | hx
    · exact rwI_length (hps x hx)
    · rw [rwI_fact (hfs x hx)]; simp
  have tml : ∀ x ∈ ps ++ fs, ((tmI x).filter isStrD).length ≤ 8 := fun x hx =>
    Nat.le_trans (List.length_filter_le _ _) (tmI_length (both x hx).2)
  refine ev_forI (fun j e s => ∃ y4, e = [some (.tup [.tup ps, .tup fs]), x1, some (.tl (((ps ++ fs).take j).flatMap fun x => (tmI x).filter isStrD)), some (.tl (((ps ++ fs).take j).flatMap rwI)), y4, none] ∧ Kp st s) ⟨x4, by simp, Kp.refl⟩ (fun j x e s hx hI => ?_) (fun e s hI => ?_)
  · obtain ⟨y4, rfl, k0⟩ := hI
    refine ⟨trivial, _, rfl, ?_⟩
    have hm := List.mem_of_getElem? hx
    have hj := (List.getElem?_eq_some_iff.mp hx).1
    rw [List.length_append] at hj
    have t1 : ((ps ++ fs).take (j + 1)).flatMap (fun x => (tmI x).filter isStrD) = (((ps ++ fs).take j).flatMap fun x => (tmI x).filter isStrD) ++ (tmI x).filter isStrD := by
      rw [List.take_add_one, hx]; simp
    have t2 : ((ps ++ fs).take (j + 1)).flatMap rwI = ((ps ++ fs).take j).flatMap rwI ++ rwI x := by
      rw [List.take_add_one, hx]; simp
    have l1 := flat_len (g := fun x => (tmI x).filter isStrD) (M := 8) (ys := (ps ++ fs).take j) fun y hy => tml y (List.mem_of_mem_take hy)
    have l2 := flat_len (g := rwI) (M := 6) (ys := (ps ++ fs).take j) fun y hy => rwl y (List.mem_of_mem_take hy)
    rw [List.length_take, List.length_append] at l1 l2
    have l3 := tml x hm
    have l4 := rwl x hm
    show Wp (sSeq _ _ [some (.tup [.tup ps, .tup fs]), x1, some (.tl (((ps ++ fs).take j).flatMap fun x => (tmI x).filter isStrD)), some (.tl (((ps ++ fs).take j).flatMap rwI)), some x, none] s) _
    walk_at "ev"
    refine (law_names_in_ok (both x hm).1 (both x hm).2).mono fun r s1 hr => ?_
    obtain ⟨n1, rfl, a1, k1⟩ := hr
    have c1 : (((ps ++ fs).take j).flatMap fun x => (tmI x).filter isStrD).length + ((tmI x).filter isStrD).length ≤ 16777216 := by omega
    walk_at "ev"
    rw [if_pos c1]
    walk_at "ev"
    refine (law_names_in_ok (both x hm).1 (both x hm).2).mono fun r s2 hr => ?_
    obtain ⟨n2, rfl, a2, k2⟩ := hr
    have c2 : (((ps ++ fs).take j).flatMap rwI).length + (rwI x).length ≤ 16777216 := by omega
    walk_at "ev"
    rw [dAdd_tl_ref a2 c2]
    walk_at "ev"
    rw [t1, t2]
    exact ⟨_, rfl, (k0.trans k1).trans k2⟩
  · obtain ⟨y4, rfl, k0⟩ := hI
    rw [List.take_length]
    refine ⟨trivial, ?_⟩
    rw [kt_nx]
    have er : (ps ++ fs).flatMap rwI = (rowS (.tup [.tup ps, .tup fs])).map .str := by
      have e0 : fs.flatMap rwI = [] := by
        rw [List.flatMap_eq_nil_iff]
        exact fun x hx => rwI_fact (hfs x hx)
      rw [List.flatMap_append, e0, List.append_nil]
      show _ = ((ps.flatMap rwI).filterMap strOf).map D.str
      have : ∀ xs : List D, (∀ x ∈ xs, isNm x = true) → xs = (xs.filterMap strOf).map .str := by
        intro xs
        induction xs with
        | nil => intro _; rfl
        | cons x xs ih =>
          intro h
          obtain ⟨z, rfl⟩ := nm_str (h x List.mem_cons_self)
          have := ih fun y hy => h y (List.mem_cons_of_mem _ hy)
          rw [List.filterMap_cons]
          simp only [strOf, List.map_cons]
          rw [← this]
      refine this _ fun x hx => ?_
      obtain ⟨y, hy, hx⟩ := List.mem_flatMap.mp hx
      exact rwI_mem (hps y hy) hx
    have et : ((ps ++ fs).flatMap fun x => (tmI x).filter isStrD) = (termS (.tup [.tup ps, .tup fs])).map .str := by
      show _ = (((ps ++ fs).flatMap tmI).filterMap strOf).map D.str
      rw [← str_filter, List.filter_flatMap]
    rw [er, et]
    have hrl := rowS_len hf'
    have hlen : ((rowS (.tup [.tup ps, .tup fs])).map D.str).length ≤ 16777216 := by rw [List.length_map]; omega
    walk_at "evs"
    rw [compN_filterG (f := id) (p := fun x => match x with | .str s => decide (s ∈ termS (.tup [.tup ps, .tup fs])) | _ => false) trivial]
    · rw [wp_some]
      have hok : okds ((((rowS (.tup [.tup ps, .tup fs])).map D.str).filter fun x => match x with | .str s => decide (s ∈ termS (.tup [.tup ps, .tup fs])) | _ => false).map id) = true := by
        refine okds_of fun x hx => ?_
        simp only [List.map_id, List.mem_filter, List.mem_map] at hx
        obtain ⟨⟨s, hs, rfl⟩, _⟩ := hx
        exact strOk_nm (rowS_nm hf' hs)
      have e1 := (cmp_tlnil (st := s) hok).1
      walk_at "evs"
      refine ⟨?_, trivial⟩
      congr 2
      rw [Bool.eq_iff_iff, isClm, hf', List.map_id, List.isEmpty_iff, List.filter_eq_nil_iff]
      simp only [List.mem_map, forall_exists_index, and_imp, Bool.true_and, Bool.not_eq_true', List.any_eq_false, decide_eq_true_eq]
      constructor
      · intro q s hs
        simpa using q _ s hs rfl
      · rintro q x s hs rfl
        simpa using q s hs
    · intro x hx
      obtain ⟨z, hz, rfl⟩ := List.mem_map.mp hx
      refine ⟨_, rfl, ?_, fun _ => rfl⟩
      have e5 := cIn_str_tl (st := s) (strOk_nm (rowS_nm hf' hz)) (ts := termS (.tup [.tup ps, .tup fs])) fun t ht => strOk_nm (termS_nm h hf' ht)
      apply wp_eq
      walk_at "evs"
      try simp
noncomputable def T_turn : FS := sSeq (sIf (tOrF (tNotF (tTru (fIsi .tup (fBin dIdx (fVar 0) (fVar 1))))) (tCmpF cGt (fBlt bLen (fCons (fBin dIdx (fVar 0) (fVar 1)) (fNil))) (fBin dSub (fCon (.int 5)) (fVar 1)))) (sRet (fCon (.bl false))) (sNil))
  (sIf (tCmpF cNe (fComp [4] (iVal (fBin dIdx (fVar 0) (fVar 1))) (gSet 4) (tCmpF cNe (fCall 1 F__law_is_item (fCons (fVar 4) (fNil))) (fBin dSub (fCon (.int 4)) (fVar 1))) (fVar 4)) (fLst (fNil))) (sRet (fCon (.bl false))) (sNil))
theorem gt_int (i j : Int) (st : Store) : cGt (.int i) (.int j) st = some (decide (j < i)) := rfl
theorem T_turn_ok {a b x : D} {k : Int} {m L : Nat} {s : Store} {Q : Out → Store → Prop} {p : D → Bool} {y4 : Option D} (hx : small x = true) (hL : 5 - k = (L : Int)) (hm : 4 - k = (m : Int)) (hp : ∀ d, itN d = (m : Int) ↔ p d = true) (ix : ∀ s, dIdx (.tup [a, b]) (.int k) s = some x)
    (yes : (∃ ys, x = .tup ys ∧ ys.length ≤ L ∧ ys.all p = true) → ∀ s', Kp s s' → Q (.nx [some (.tup [a, b]), some (.int k), none, none, none, none]) s')
    (no : (¬ ∃ ys, x = .tup ys ∧ ys.length ≤ L ∧ ys.all p = true) → ∀ s', Kp s s' → Q (.rt (.bl false)) s') :
    Wp (T_turn [some (.tup [a, b]), some (.int k), none, none, none, none] s) Q := by
  have gt := gt_int
  unfold T_turn
  cases x with
  | tup ys =>
    simp only [small, Bool.and_eq_true, decide_eq_true_eq] at hx
    by_cases hyl : ys.length ≤ L
    · have c1 : decide ((L : Int) < (ys.length : Int)) = false := decide_eq_false (by omega)
      have c2 : ys.length ≤ 16777216 := by omega
      have cs := items_comp (xs := ys) (env := [some (.tup [a, b]), some (.int k), none, none, none, none]) (st := s) (m := m) (k := k) (fun y hy => smalls_mem hx.1 hy) (fun _ => rfl) (by simp) hm
      generalize hC : tCmpF cNe (fCall 1 F__law_is_item (fCons (fVar 4) (fNil))) (fBin dSub (fCon (.int 4)) (fVar 1)) = CC at cs ⊢
      have q : Wp (compN (fun _ => True) (gSet 4) CC (fVar 4) ys [some (.tup [a, b]), some (.int k), none, none, none, none] s) (KTl fun d s1 => Wp (fLst fNil [some (.tup [a, b]), some (.int k), none, none, none, none] s1) (KTc2 cNe d (KIf (sRet (fCon (.bl false))) sNil [some (.tup [a, b]), some (.int k), none, none, none, none] Q))) := by
        refine cs.mono fun zs s1 hz => ?_
        obtain ⟨rfl, k1⟩ := hz
        have hok : okds ((ys.filter fun d => !decide (itN d = (m : Int))).map id) = true := okds_of fun z hz => by
          simp only [List.map_id, List.mem_filter] at hz
          exact okd_small _ (smalls_mem hx.1 hz.1)
        have e1 := (cmp_tlnil (st := s1) hok).2
        rw [filt_empty hp] at e1
        rw [ktl, ev_lst, fnil, wp_some, klst]
        refine cd_of (by decide) ?_
        rw [ktc2, e1, ob_some, kv]
        cases z : ys.all p
        · rw [Bool.not_false, kif_t, ev_ret, fcon, wp_some, kret]
          refine no ?_ s1 k1
          rintro ⟨ys', e, _, h⟩
          cases e
          rw [z] at h
          cases h
        · rw [Bool.not_true, kif_f, snil, wp_some]
          exact yes ⟨ys, rfl, hyl, z⟩ s1 k1
      clear yes no cs
      walk_at "evs"
      exact q
    · have c1 : decide ((L : Int) < (ys.length : Int)) = true := decide_eq_true (by omega)
      have no := no (by rintro ⟨ys', e, h, _⟩; cases e; exact hyl h) s Kp.refl
      clear yes
      walk_at "evs"
  | ref n => simp [small] at hx
  | ty n => simp [small] at hx
  | _ =>
    have no := no (by rintro ⟨ys', e, _, _⟩; cases e) s Kp.refl
    clear yes
    walk_at "evs"
theorem law_is_claim_ok {d : D} {st : Store} (h : small d = true) : Wp (F__law_is_claim [d] st) fun r s => r = .bl (isClm d) ∧ Kp st s := by
  unfold F__law_is_claim
  rw [show B__law_is_claim = sSeq (sIf (tOrF (tNotF (tTru (fIsi .tup (fVar 0)))) (tCmpF cNe (fBlt bLen (fCons (fVar 0) (fNil))) (fCon (.int 2)))) (sRet (fCon (.bl false))) (sNil))
    (sSeq (sFor (iRange1 (fCons (fCon (.int 2)) (fNil))) (gSet 1) T_turn) T_claim) from rfl]
  rw [ev_fn]
  refine ⟨rfl, ?_⟩
  cases d with
  | tup xs =>
    have hxl : xs.length ≤ 1000 := by simp only [small, Bool.and_eq_true, decide_eq_true_eq] at h; exact h.2
    by_cases hl : xs.length = 2
    · obtain ⟨a, b, rfl⟩ : ∃ a b, xs = [a, b] := by
        match xs, hl with
        | [a, b], _ => exact ⟨a, b, rfl⟩
      have hsm := h
      simp only [small, smalls, Bool.and_eq_true] at hsm
      obtain ⟨⟨ha, hb, _⟩, _⟩ := hsm
      have c0 : decide ((2 : Int) = 2) = true := rfl
      have r2 := range2
      have c3 : (-4611686018427387904 ≤ (2 : Int) ∧ (2 : Int) < 4611686018427387904) = True := by simp
      have hfno : (¬ ∃ ys, a = .tup ys ∧ ys.length ≤ 5 ∧ ys.all isPt = true) ∨ (¬ ∃ ys, b = .tup ys ∧ ys.length ≤ 4 ∧ ys.all isFt = true) → isClm (.tup [a, b]) = false := by
        intro q
        have : hasF (.tup [a, b]) = false := by
          cases z : hasF (.tup [a, b]) with
          | false => rfl
          | true =>
            obtain ⟨ps, fs, e, h1, h2, h3, h4⟩ := hasF_cases z
            cases e
            rcases q with q | q
            · exact absurd ⟨ps, rfl, h1, List.all_eq_true.mpr h3⟩ q
            · exact absurd ⟨fs, rfl, h2, List.all_eq_true.mpr h4⟩ q
        simp [isClm, this]
      have fin : (∃ ys, a = .tup ys ∧ ys.length ≤ 5 ∧ ys.all isPt = true) → (∃ ys, b = .tup ys ∧ ys.length ≤ 4 ∧ ys.all isFt = true) → ∀ s', Kp st s' → Wp (T_claim [some (.tup [a, b]), some (.int 1), none, none, none, none] s') (KFn fun r s => r = .bl (isClm (.tup [a, b])) ∧ Kp st s) := by
        rintro ⟨ps, rfl, h1, h2⟩ ⟨fs, rfl, h3, h4⟩ s' k
        refine (T_claim_ok h (by simp only [hasF, h1, h2, h3, h4, decide_true, Bool.and_self])).mono fun o s hr => ?_
        obtain ⟨rfl, k1⟩ := hr
        exact ⟨rfl, k.trans k1⟩
      have turn1 := fun {s Q} => @T_turn_ok a b a 0 4 5 s Q isPt none ha rfl rfl itN4 (fun _ => rfl)
      have turn2 := fun {s Q} => @T_turn_ok a b b 1 3 4 s Q isFt none hb rfl rfl itN3 (fun _ => rfl)
      generalize T_claim = TC at fin ⊢
      generalize T_turn = TT at turn1 turn2 ⊢
      clear h
      walk_at "ev"
      rw [ev_for_cons]
      refine cd_of trivial (ob_of rfl ?_)
      rw [kturn]
      refine turn1 (fun y1 s1 k1 => ?_) (fun n1 s1 k1 => ?_)
      · rw [kinv_nx, ev_for_cons]
        refine cd_of trivial (ob_of rfl ?_)
        rw [kturn]
        refine turn2 (fun y2 s2 k2 => ?_) (fun n2 s2 k2 => ?_)
        · rw [kinv_nx, ev_for_nil]
          refine cd_of trivial ?_
          rw [kt_nx]
          exact fin y1 y2 s2 (k1.trans k2)
        · exact ⟨by rw [hfno (.inr n2)], k1.trans k2⟩
      · exact ⟨by rw [hfno (.inl n1)], k1⟩
    · have hl2 : decide ((xs.length : Int) = 2) = false := decide_eq_false (by omega)
      have hno : isClm (.tup xs) = false := by
        unfold isClm hasF
        split
        · rename_i e; cases e; exact absurd rfl hl
        · rfl
      clear h
      walk_at "evs"
      exact ⟨trivial, Kp.refl⟩
  | _ => simp [small] at h <;> (walk_at "ev") <;> simp [isClm, hasF, Kp.refl]
end k03
namespace k03
open PySem PySem.Spec PyProof.Rows L2 Vm
local macro_rules | `(tactic| walk_at "ev") => `(tactic| simp only [↓ev_bin, ↓kbin, ↓kbin2, ↓kv, ↓kbl, ↓ev_cmp, ↓kcmp, ↓kcmp2, ↓ev_chain, ↓kch, ↓kch2, kch3_t, kch3_f, ↓ev_cons, ↓kcons, ↓kcons2, ↓ev_tup, ↓ktup, ↓ev_lst, ↓klst, ↓ev_lstS, ↓klstS, ↓ev_neg, ↓kneg, ↓ev_or, ↓kor, kor2_t, kor2_f, ↓ev_and, ↓kand, kand2_t, kand2_f, ↓ev_not, ↓knot, ↓knt, kif_t, kif_f, ↓ev_ite, ↓ev_oSome, ↓kos, ↓ev_cut, ↓kcut, ↓kcut2, ↓kcut3, ↓ev_call, ↓kcall, ↓ev_blt, ↓kblt, ↓ev_isi, ↓kisi, ↓ktg, ↓ev_rev, ↓krev, ↓ev_addS, ↓kas, ↓kas2, ↓kas25, ↓kas3, ↓kfn_rt, ↓kfn_nx, ↓ev_tcmp, ↓ktc, ↓ktc2, ↓ev_tchain, ↓ktch, ↓ev_tru, ↓ktru, ↓ev_tand, ktand_t, ktand_f, ↓ev_tor, ktor_t, ktor_f, ↓ev_tnot, ↓ktnot, ↓ev_tite, ↓ev_seq, kt_nx, kt_rt, kt_bk, kt_ct, ↓ev_ret, ↓kret, ↓ev_expr, ↓kexpr, ↓ev_set, ↓kset, ↓knx, ↓ev_asg, ↓kasg, ↓ev_if, ↓ev_put, ↓kput, ↓kput1, ↓kputs, ↓kput2, ↓ev_aug, ↓kaug, ↓kaug2, ↓kaug3, ↓ev_app, ↓kapp, ↓kapp15, ↓kapp2, ↓kapp3, ↓ev_ext, ↓kext, ↓kext15, ↓kext2, ↓kext3, ↓kext4, ↓ev_for, ↓kfor, kinv_nx, kinv_ct, kinv_bk, kinv_rt, ↓kturn, ↓ev_ival, ↓kiv, ↓ev_range1, ↓kr1, ↓ktl, ↓ev_comp, ↓kcomp, ↓ev_comp_nil, ↓ev_comp_cons, ↓kcp, kcp1_t, kcp1_f, ↓kcp2, ↓kcp3, wipe_nil, wipe_cons,
  fv0, fvS, fcon, fnil, ev_oNone, ev_dicN, ev_disp, ev_tyes, snil, spass, sbrk, scnt, sretn, wp_some, ob_some, cd_true,
  List.map_cons, List.map_nil, List.replicate, List.cons_append, List.nil_append, List.append_nil, List.set_cons_zero, List.set_cons_succ, List.length_cons, List.length_nil, Nat.reduceSub, Nat.reduceAdd, Nat.reduceLeDiff, Nat.zero_add, Nat.zero_le, Bool.not_true, Bool.not_false, gSet, gTupF, gConsF, gNilF, dAdd_int, dSub_int, dIdx_tup, dCut_tup, dCut_tl, dRev_tup, bLen_tup, bLen_tl, bList_tup, bList_tl, bTuple_tl, bTuple_tup, bListS_tup, bListS_tl, dIdx_tl, extOf_tup, extOf_tl, lstOf_tl, lstOf_ref, items_tl, items_tup, dAdd_tup, dAdd_tl, List.length_append, atI3, atI4, atI5, cEq_int, cNe_int, atI0, atI1, atI2, tag_non, tag_bl, tag_int, tag_str, tag_tup, tag_tl, tag_sl, isTag, reduceCtorEq, decide_true, decide_false, tru_non, tru_bl, tru_int, tru_tup, tru_tl, tru_sl, Bool.false_eq_true, if_true, if_false, reduceIte, Int.cast_ofNat_Int, cast0, cast1, Int.reduceEq, Int.reduceLE, Int.reduceLT, Int.reduceToNat, Int.reduceAdd, Int.reduceSub, Int.reduceNeg, cLt_int, cLe_int, cGt_int, cGe_int, and_self, rangeD_zero, rangeD_succ, Option.isSome_some, Option.isSome_none, List.isEmpty_nil, List.isEmpty_cons])
local macro_rules | `(tactic| walk_at "evs") => `(tactic| simp only [↓ev_bin, ↓kbin, ↓kbin2, ↓kv, ↓kbl, ↓ev_cmp, ↓kcmp, ↓kcmp2, ↓ev_chain, ↓kch, ↓kch2, kch3_t, kch3_f, ↓ev_cons, ↓kcons, ↓kcons2, ↓ev_tup, ↓ktup, ↓ev_lst, ↓klst, ↓ev_lstS, ↓klstS, ↓ev_neg, ↓kneg, ↓ev_or, ↓kor, kor2_t, kor2_f, ↓ev_and, ↓kand, kand2_t, kand2_f, ↓ev_not, ↓knot, ↓knt, kif_t, kif_f, ↓ev_ite, ↓ev_oSome, ↓kos, ↓ev_cut, ↓kcut, ↓kcut2, ↓kcut3, ↓ev_call, ↓kcall, ↓ev_blt, ↓kblt, ↓ev_isi, ↓kisi, ↓ktg, ↓ev_rev, ↓krev, ↓ev_addS, ↓kas, ↓kas2, ↓kas25, ↓kas3, ↓kfn_rt, ↓kfn_nx, ↓ev_tcmp, ↓ktc, ↓ktc2, ↓ev_tchain, ↓ktch, ↓ev_tru, ↓ktru, ↓ev_tand, ktand_t, ktand_f, ↓ev_tor, ktor_t, ktor_f, ↓ev_tnot, ↓ktnot, ↓ev_tite, ↓ev_seq, kt_nx, kt_rt, kt_bk, kt_ct, ↓ev_ret, ↓kret, ↓ev_expr, ↓kexpr, ↓ev_set, ↓kset, ↓knx, ↓ev_asg, ↓kasg, ↓ev_if, ↓ev_put, ↓kput, ↓kput1, ↓kputs, ↓kput2, ↓ev_aug, ↓kaug, ↓kaug2, ↓kaug3, ↓ev_app, ↓kapp, ↓kapp15, ↓kapp2, ↓kapp3, ↓ev_ext, ↓kext, ↓kext15, ↓kext2, ↓kext3, ↓kext4, ↓ev_for, ↓kfor, kinv_nx, kinv_ct, kinv_bk, kinv_rt, ↓kturn, ↓ev_ival, ↓kiv, ↓ev_range1, ↓kr1, ↓ktl, ↓ev_comp, ↓kcomp, ↓ev_comp_nil, ↓ev_comp_cons, ↓kcp, kcp1_t, kcp1_f, ↓kcp2, ↓kcp3, wipe_nil, wipe_cons,
  fv0, fvS, fcon, fnil, ev_oNone, ev_dicN, ev_disp, ev_tyes, snil, spass, sbrk, scnt, sretn, wp_some, ob_some, cd_true,
  List.map_cons, List.map_nil, List.replicate, List.cons_append, List.nil_append, List.append_nil, List.set_cons_zero, List.set_cons_succ, List.length_cons, List.length_nil, Nat.reduceSub, Nat.reduceAdd, Nat.reduceLeDiff, Nat.zero_add, Nat.zero_le, Bool.not_true, Bool.not_false, gSet, gTupF, gConsF, gNilF, dAdd_int, dSub_int, dIdx_tup, dCut_tup, dCut_tl, dRev_tup, bLen_tup, bLen_tl, bList_tup, bList_tl, bTuple_tl, bTuple_tup, bListS_tup, bListS_tl, dIdx_tl, extOf_tup, extOf_tl, lstOf_tl, lstOf_ref, items_tl, items_tup, dAdd_tup, dAdd_tl, List.length_append, atI3, atI4, atI5, cEq_int, cNe_int, atI0, atI1, atI2, tag_non, tag_bl, tag_int, tag_str, tag_tup, tag_tl, tag_sl, isTag, reduceCtorEq, decide_true, decide_false, tru_non, tru_bl, tru_int, tru_tup, tru_tl, tru_sl, Bool.false_eq_true, if_true, if_false, reduceIte, Int.cast_ofNat_Int, cast0, cast1, Int.reduceEq, Int.reduceLE, Int.reduceLT, Int.reduceToNat, Int.reduceAdd, Int.reduceSub, Int.reduceNeg, cLt_int, cLe_int, cGt_int, cGe_int, and_self, rangeD_zero, rangeD_succ, Option.isSome_some, Option.isSome_none, List.isEmpty_nil, List.isEmpty_cons, *])
def Tup3 (M : Nat) (d : D) : Prop := ∀ q, d = .tup q → q.length ≤ M
theorem odd_ok {st : Store} {n : Nat} (h : Fd n st) : Wp (F__law_odd [.ref n] st) (fun d st' => (Fx 60 4 d ∧ Tup3 3 d) ∧ Fr n st st') := by
  unfold F__law_odd B__law_odd
  rw [ev_fn, e_pick]
  refine ⟨rfl, ?_⟩
  walk_at "ev"
  refine (pick_tl h (by simp) (by simp)).mono fun d st1 hd => ?_
  obtain ⟨hm, f1⟩ := hd
  refine ⟨?_, f1⟩
  have hall : ∀ x ∈ [D.non, .bl true, .bl false, .str "", .str "A", .str "a b", .str "abcdefghi", .str "a-", .str "1", .str "~a", .str " a", .str "a\n", .tl [], .tup [], .tl [.str "one", .int 1], .tup [.str "one"], .tup [.str "row", .str "a", .str "b"], .tup [.str "one", .int 1], .tl [.tup [.str "row", .str "a"]], .tup [.tup []], .str "row", .tup [.str "two", .int 1], .int 0, .int (-7), .str "tail"],
      okB 60 4 x = true ∧ (match x with | .tup q => decide (q.length ≤ 3) | _ => true) = true := by decide +kernel
  obtain ⟨h1, h2⟩ := hall d hm
  refine ⟨okB_ok h1, fun q e => ?_⟩
  subst e
  simpa using h2
/-- a piece that is drawn -/
def PcG (nb rw : List D) (p : D) : Prop := (∃ t, p = .tup [.str "one", t] ∧ (t ∈ nb ∨ ∃ i, t = .int i ∧ -999999999 ≤ i ∧ i ≤ 999999999)) ∨ ∃ t, (p = .tup [.str "row", t] ∨ p = .tup [.str "back", t]) ∧ t ∈ rw
theorem word_ok {st : Store} {n : Nat} {nb rw : List D} {most : Nat} (h : Fd n st) (hn : 0 < nb.length) (hr : 0 < rw.length) (hnl : nb.length ≤ 100) (hrl : rw.length ≤ 100) (hm : most ≤ 100) :
    Wp (F__law_word [.ref n, .tl nb, .tl rw, .int most] st) (fun d st' => ∃ ps, d = .tup ps ∧ ps.length ≤ most ∧ (∀ p ∈ ps, PcG nb rw p) ∧ Fr n st st') := by
  unfold F__law_word B__law_word
  rw [ev_fn, e_pick, e_take, e_number]
  refine ⟨rfl, ?_⟩
  walk_at "ev"
  have f0 : Fr n st (st ++ [.lst []]) := (Fr.refl h).push
  have hlt := h.lt
  refine (take_ok f0.fd (m := (most : Int) + 1) (by omega) (by omega)).mono fun d st1 hd => ?_
  obtain ⟨r, rfl, r0, r1, f1⟩ := hd
  have c1 : (-4611686018427387904 ≤ r ∧ r < 4611686018427387904) = True := by simp; omega
  have k1 : lstAt st1 st.length = some [] := lstAt_iff.mpr (f1.keep _ _ (by omega) (lstAt_iff.mp lstAt_push))
  walk_at "ev"
  simp only [c1, cd_true]
  refine ev_forI (fun j e s => ∃ x5 x6 acc, e = [some (.ref n), some (.tl nb), some (.tl rw), some (.int most), some (.ref st.length), x5, x6] ∧ lstAt s st.length = some acc ∧ acc.length = j ∧ (∀ p ∈ acc, PcG nb rw p) ∧ Fr n st s)
    ⟨_, _, [], rfl, k1, rfl, by simp, f0.trans f1⟩ (fun j x e s hx hI => ?_) (fun e s hI => ?_)
  · obtain ⟨x5, x6, acc, rfl, a1, a2, a3, fs⟩ := hI
    have hj : j < r.toNat := by
      have := (List.getElem?_eq_some_iff.mp hx).1
      simpa [rangeD] using this
    refine ⟨trivial, _, rfl, ?_⟩
    show Wp (sSeq _ _ [some (.ref n), some (.tl nb), some (.tl rw), some (.int most), some (.ref st.length), some x, x6] s) _
    walk_at "ev"
    refine (pick_tl fs.fd hn (by omega)).mono fun d s1 hd => ?_
    obtain ⟨m1, g1⟩ := hd
    walk_at "ev"
    refine (number_ok g1.fd).mono fun d s2 hd => ?_
    obtain ⟨i, rfl, i0, i1, g2⟩ := hd
    walk_at "ev"
    refine (pick_tl g2.fd hr (by omega)).mono fun d s3 hd => ?_
    obtain ⟨m3, g3⟩ := hd
    walk_at "ev"
    refine (pick_tl g3.fd hr (by omega)).mono fun d s4 hd => ?_
    obtain ⟨m4, g4⟩ := hd
    have g := ((g1.trans g2).trans g3).trans g4
    have a4 : lstAt s4 st.length = some acc := lstAt_iff.mpr (g.keep _ _ (by omega) (lstAt_iff.mp a1))
    walk_at "evs"
    refine (pick_tl g4.fd (by simp) (by simp)).mono fun d s5 hd => ?_
    obtain ⟨m5, g5⟩ := hd
    have a5 : lstAt s5 st.length = some acc := lstAt_iff.mpr (g5.keep _ _ (by omega) (lstAt_iff.mp a4))
    have c5 : acc.length < 16777216 := by omega
    rw [kapp2, a5, ob_some, kapp3]
    refine cd_of c5 ?_
    rw [kinv_nx]
    refine ⟨_, _, _, rfl, lstAt_set (lstAt_lt a5), by simp [a2], ?_, (fs.trans (g.trans g5)).setN (Nat.le_refl _) h.lt⟩
    intro p hp
    rcases List.mem_append.mp hp with hp | hp
    · exact a3 p hp
    · obtain rfl := List.mem_singleton.mp hp
      simp only [List.mem_cons, List.not_mem_nil, or_false] at m5
      rcases m5 with rfl | rfl | rfl | rfl
      · exact .inl ⟨_, rfl, .inl m1⟩
      · exact .inl ⟨_, rfl, .inr ⟨i, rfl, i0, i1⟩⟩
      · exact .inr ⟨_, .inl rfl, m3⟩
      · exact .inr ⟨_, .inr rfl, m4⟩
  · obtain ⟨x5, x6, acc, rfl, a1, a2, a3, fs⟩ := hI
    refine ⟨trivial, ?_⟩
    have e1 := bTuple_ref a1
    walk_at "evs"
    have : (rangeD 0 r.toNat).length = r.toNat := by simp [rangeD]
    exact ⟨acc, rfl, by omega, a3, trivial⟩
def TmG (nb : List D) (t : D) : Prop := t ∈ nb ∨ ∃ i, t = .int i ∧ -999999999 ≤ i ∧ i ≤ 999999999
theorem term_ok {st : Store} {n : Nat} {nb : List D} (h : Fd n st) (hnl : nb.length ≤ 100) : Wp (F__law_term [.ref n, .tl nb] st) (fun d st' => TmG nb d ∧ Fr n st st') := by
  unfold F__law_term B__law_term
  rw [ev_fn, e_pick, e_number]
  refine ⟨rfl, ?_⟩
  have c1 : nb.length + nb.length ≤ 16777216 := by omega
  walk_at "evs"
  refine (number_ok h).mono fun d s1 hd => ?_
  obtain ⟨i, rfl, i0, i1, g1⟩ := hd
  have c2 : nb.length + nb.length + (0 + 1 + 1) ≤ 16777216 := by omega
  have c3 : nb.length + nb.length ≤ 16777214 := by omega
  walk_at "evs"
  refine (pick_tl g1.fd (by simp; omega) (by simp; omega)).mono fun d s2 hd => ?_
  obtain ⟨m2, g2⟩ := hd
  rw [kret, kfn_rt]
  refine ⟨?_, g1.trans g2⟩
  simp only [List.mem_append, List.mem_cons, List.not_mem_nil, or_false] at m2
  rcases m2 with (m2 | m2) | rfl | rfl
  · exact .inl m2
  · exact .inl m2
  · exact .inr ⟨0, rfl, by omega, by omega⟩
  · exact .inr ⟨i, rfl, i0, i1⟩
def PtG (nb rw : List D) (p : D) : Prop := (∃ a b c, p = .tup [.str "cell", a, b, c] ∧ TmG nb a ∧ TmG nb b ∧ TmG nb c) ∨ ∃ a b ws, p = .tup [.str "row", a, b, .tup ws] ∧ TmG nb a ∧ TmG nb b ∧ ws.length ≤ 6 ∧ ∀ w ∈ ws, PcG nb rw w
def FtG (nb : List D) (p : D) : Prop := ∃ k a b, p = .tup [.str k, a, b] ∧ (k = "same" ∨ k = "apart") ∧ TmG nb a ∧ TmG nb b
noncomputable def T_any : FS := sSeq (sSet 6 (fLstS (fNil)))
  (sSeq (sFor (iRange1 (fCons (fCall 2 F__law_take (fCons (fVar 0) (fCons (fVar 3) (fNil)))) (fNil))) (gSet 5) (sApp (fVar 6) (fTup (fCons (fCall 2 F__law_pick (fCons (fVar 0) (fCons (fLst (fCons (fCon (.str "same")) (fCons (fCon (.str "apart")) (fNil)))) (fNil)))) (fCons (fCall 2 F__law_term (fCons (fVar 0) (fCons (fVar 1) (fNil)))) (fCons (fCall 2 F__law_term (fCons (fVar 0) (fCons (fVar 1) (fNil)))) (fNil)))))))
  (sRet (fTup (fCons (fBlt bTuple (fCons (fVar 4) (fNil))) (fCons (fBlt bTuple (fCons (fVar 6) (fNil))) (fNil))))))
theorem T_any_ok {st : Store} {n m : Nat} {nb rw : List D} {most : Nat} {ps : List D} {x5 x6 x7 x8 x9 : Option D} (h : Fd n st) (hnl : nb.length ≤ 100) (hm0 : 0 < most) (hm : most ≤ 100) (hp : lstAt st m = some ps) (hmn : m ≠ n) :
    Wp (T_any [some (.ref n), some (.tl nb), some (.tl rw), some (.int most), some (.ref m), x5, x6, x7, x8, x9] st) fun o st' => ∃ fs, o = .rt (.tup [.tup ps, .tup fs]) ∧ fs.length + 1 ≤ most ∧ (∀ f ∈ fs, FtG nb f) ∧ Fr n st st' := by
  unfold T_any
  rw [e_take, e_pick]
  walk_at "ev"
  have f0 : Fr n st (st ++ [.lst []]) := (Fr.refl h).push
  have hlt := h.lt
  refine (take_ok f0.fd (m := (most : Int)) (by omega) (by omega)).mono fun d st1 hd => ?_
  obtain ⟨r, rfl, r0, r1, f1⟩ := hd
  have c1 : (-4611686018427387904 ≤ r ∧ r < 4611686018427387904) = True := by simp; omega
  have k1 : lstAt st1 st.length = some [] := lstAt_iff.mpr (f1.keep _ _ (by omega) (lstAt_iff.mp lstAt_push))
  have hml := lstAt_lt hp
  have p1 : lstAt st1 m = some ps := lstAt_iff.mpr (f1.keep _ _ hmn (lstAt_iff.mp (lstAt_kp hp Kp.refl.push)))
  walk_at "ev"
  simp only [c1, cd_true]
  refine ev_forI (fun j e s => ∃ x5 acc, e = [some (.ref n), some (.tl nb), some (.tl rw), some (.int most), some (.ref m), x5, some (.ref st.length), x7, x8, x9] ∧ lstAt s st.length = some acc ∧ lstAt s m = some ps ∧ acc.length = j ∧ (∀ p ∈ acc, FtG nb p) ∧ Fr n st s)
    ⟨_, [], rfl, k1, p1, rfl, by simp, f0.trans f1⟩ (fun j x e s hx hI => ?_) (fun e s hI => ?_)
  · obtain ⟨x5, acc, rfl, a1, b1, a2, a3, fs⟩ := hI
    have hj : j < r.toNat := by
      have := (List.getElem?_eq_some_iff.mp hx).1
      simpa [rangeD] using this
    refine ⟨trivial, _, rfl, ?_⟩
    show Wp (sApp _ _ [some (.ref n), some (.tl nb), some (.tl rw), some (.int most), some (.ref m), some x, some (.ref st.length), x7, x8, x9] s) _
    walk_at "evs"
    refine (pick_tl fs.fd (by simp) (by simp)).mono fun d s1 hd => ?_
    obtain ⟨m1, g1⟩ := hd
    walk_at "ev"
    refine (term_ok g1.fd hnl).mono fun t1 s2 hd => ?_
    obtain ⟨m2, g2⟩ := hd
    walk_at "ev"
    refine (term_ok g2.fd hnl).mono fun t2 s3 hd => ?_
    obtain ⟨m3, g3⟩ := hd
    have g := (g1.trans g2).trans g3
    have a5 : lstAt s3 st.length = some acc := lstAt_iff.mpr (g.keep _ _ (by omega) (lstAt_iff.mp a1))
    have b5 : lstAt s3 m = some ps := lstAt_iff.mpr (g.keep _ _ hmn (lstAt_iff.mp b1))
    have c5 : acc.length < 16777216 := by omega
    walk_at "ev"
    rw [a5, ob_some, kapp3]
    refine cd_of c5 ?_
    rw [kinv_nx]
    refine ⟨_, _, rfl, lstAt_set (lstAt_lt a5), by rw [lstAt_set_ne (by omega)]; exact b5, by simp [a2], ?_, (fs.trans g).setN (Nat.le_refl _) h.lt⟩
    intro p hp
    rcases List.mem_append.mp hp with hp | hp
    · exact a3 p hp
    · obtain rfl := List.mem_singleton.mp hp
      simp only [List.mem_cons, List.not_mem_nil, or_false] at m1
      rcases m1 with rfl | rfl
      · exact ⟨_, _, _, rfl, .inl rfl, m2, m3⟩
      · exact ⟨_, _, _, rfl, .inr rfl, m2, m3⟩
  · obtain ⟨x5, acc, rfl, a1, b1, a2, a3, fs⟩ := hI
    refine ⟨trivial, ?_⟩
    have e1 := bTuple_ref a1
    have e2 := bTuple_ref b1
    walk_at "evs"
    have : (rangeD 0 r.toNat).length = r.toNat := by simp [rangeD]
    exact ⟨acc, rfl, by omega, a3, trivial⟩
theorem any_claim_ok {st : Store} {n : Nat} {nb rw : List D} {most : Nat} (h : Fd n st) (hn : 0 < nb.length) (hr : 0 < rw.length) (hnl : nb.length ≤ 100) (hrl : rw.length ≤ 100) (hm0 : 0 < most) (hm : most ≤ 100) :
    Wp (F__law_any_claim [.ref n, .tl nb, .tl rw, .int most] st) fun d st' => ∃ ps fs, d = .tup [.tup ps, .tup fs] ∧ ps.length ≤ most ∧ fs.length + 1 ≤ most ∧ (∀ p ∈ ps, PtG nb rw p) ∧ (∀ f ∈ fs, FtG nb f) ∧ Fr n st st' := by
  unfold F__law_any_claim
  rw [show B__law_any_claim = sSeq (sSet 4 (fLstS (fNil)))
    (sSeq (sFor (iRange1 (fCons (fCall 2 F__law_take (fCons (fVar 0) (fCons (fBin dAdd (fVar 3) (fCon (.int 1))) (fNil)))) (fNil))) (gSet 5) (sSeq (sSet 7 (fComp [9] (iRange1 (fCons (fCon (.int 3)) (fNil))) (gSet 9) (tYesF) (fCall 2 F__law_term (fCons (fVar 0) (fCons (fVar 1) (fNil))))))
    (sSeq (sSet 8 (fCall 2 F__law_pick (fCons (fVar 0) (fCons (fLst (fCons (fTup (fCons (fTup (fCons (fCon (.str "row")) (fCons (fCall 2 F__law_pick (fCons (fVar 0) (fCons (fVar 2) (fNil)))) (fNil)))) (fNil))) (fCons (fCall 4 F__law_word (fCons (fVar 0) (fCons (fVar 1) (fCons (fVar 2) (fCons (fCon (.int 6)) (fNil)))))) (fNil)))) (fNil)))))
    (sApp (fVar 4) (fCall 2 F__law_pick (fCons (fVar 0) (fCons (fLst (fCons (fBin dAdd (fTup (fCons (fCon (.str "cell")) (fNil))) (fBlt bTuple (fCons (fVar 7) (fNil)))) (fCons (fTup (fCons (fCon (.str "row")) (fCons (fBin dIdx (fVar 7) (fCon (.int 0))) (fCons (fBin dIdx (fVar 7) (fCon (.int 1))) (fCons (fVar 8) (fNil)))))) (fNil)))) (fNil)))))))) T_any) from rfl]
  rw [ev_fn, e_pick, e_take]
  refine ⟨rfl, ?_⟩
  have fin := fun {st1 m ps x5 x6 x7 x8 x9} => @T_any_ok st1 n m nb rw most ps x5 x6 x7 x8 x9
  generalize T_any = TA at fin ⊢
  walk_at "ev"
  have f0 : Fr n st (st ++ [.lst []]) := (Fr.refl h).push
  have hlt := h.lt
  refine (take_ok f0.fd (m := (most : Int) + 1) (by omega) (by omega)).mono fun d st1 hd => ?_
  obtain ⟨r, rfl, r0, r1, f1⟩ := hd
  have c1 : (-4611686018427387904 ≤ r ∧ r < 4611686018427387904) = True := by simp; omega
  have k1 : lstAt st1 st.length = some [] := lstAt_iff.mpr (f1.keep _ _ (by omega) (lstAt_iff.mp lstAt_push))
  walk_at "ev"
  simp only [c1, cd_true]
  refine ev_forI (fun j e s => ∃ x5 x7 x8 acc, e = [some (.ref n), some (.tl nb), some (.tl rw), some (.int most), some (.ref st.length), x5, none, x7, x8, none] ∧ lstAt s st.length = some acc ∧ acc.length = j ∧ (∀ p ∈ acc, PtG nb rw p) ∧ Fr n st s)
    ⟨_, _, _, [], rfl, k1, rfl, by simp, f0.trans f1⟩ (fun j x e s hx hI => ?_) (fun e s hI => ?_)
  · clear fin
    obtain ⟨x5, x7, x8, acc, rfl, a1, a2, a3, fs⟩ := hI
    have hj : j < r.toNat := by
      have := (List.getElem?_eq_some_iff.mp hx).1
      simpa [rangeD] using this
    refine ⟨trivial, _, rfl, ?_⟩
    show Wp (sSeq _ _ [some (.ref n), some (.tl nb), some (.tl rw), some (.int most), some (.ref st.length), some x, none, x7, x8, none] s) _
    walk_at "ev"
    refine (term_ok fs.fd hnl).mono fun t1 s1 hd => ?_
    obtain ⟨m1, g1⟩ := hd
    walk_at "ev"
    refine (term_ok g1.fd hnl).mono fun t2 s2 hd => ?_
    obtain ⟨m2, g2⟩ := hd
    walk_at "ev"
    refine (term_ok g2.fd hnl).mono fun t3 s3 hd => ?_
    obtain ⟨m3, g3⟩ := hd
    walk_at "ev"
    refine (pick_tl g3.fd hr (by omega)).mono fun d s4 hd => ?_
    obtain ⟨m4, g4⟩ := hd
    walk_at "ev"
    refine (word_ok (most := 6) g4.fd hn hr hnl hrl (by omega)).mono fun w s5 hd => ?_
    obtain ⟨ws, rfl, w1, w2, g5⟩ := hd
    walk_at "ev"
    refine (pick_tl g5.fd (by simp) (by simp)).mono fun wd s6 hd => ?_
    obtain ⟨m6, g6⟩ := hd
    have hwd : ∃ ws, wd = .tup ws ∧ ws.length ≤ 6 ∧ ∀ w ∈ ws, PcG nb rw w := by
      simp only [List.mem_cons, List.not_mem_nil, or_false] at m6
      rcases m6 with rfl | rfl
      · refine ⟨_, rfl, by simp, fun w hw => ?_⟩
        rw [List.mem_singleton.mp hw]
        exact .inr ⟨_, .inl rfl, m4⟩
      · exact ⟨ws, rfl, w1, w2⟩
    obtain ⟨wz, rfl, z1, z2⟩ := hwd
    have g := ((((g1.trans g2).trans g3).trans g4).trans g5).trans g6
    have a5 : lstAt s6 st.length = some acc := lstAt_iff.mpr (g.keep _ _ (by omega) (lstAt_iff.mp a1))
    walk_at "evs"
    refine (pick_tl g6.fd (by simp) (by simp)).mono fun d s7 hd => ?_
    obtain ⟨m7, g7⟩ := hd
    have a6 : lstAt s7 st.length = some acc := lstAt_iff.mpr (g7.keep _ _ (by omega) (lstAt_iff.mp a5))
    have c5 : acc.length < 16777216 := by omega
    rw [kapp2, a6, ob_some, kapp3]
    refine cd_of c5 ?_
    rw [kinv_nx]
    refine ⟨_, _, _, _, rfl, lstAt_set (lstAt_lt a6), by simp [a2], ?_, (fs.trans (g.trans g7)).setN (Nat.le_refl _) h.lt⟩
    intro p hp
    rcases List.mem_append.mp hp with hp | hp
    · exact a3 p hp
    · obtain rfl := List.mem_singleton.mp hp
      simp only [List.mem_cons, List.not_mem_nil, or_false] at m7
      rcases m7 with rfl | rfl
      · exact .inl ⟨_, _, _, rfl, m1, m2, m3⟩
      · exact .inr ⟨_, _, _, rfl, m1, m2, z1, z2⟩
  · obtain ⟨x5, x7, x8, acc, rfl, a1, a2, a3, fs⟩ := hI
    refine ⟨trivial, ?_⟩
    rw [kt_nx]
    refine (fin fs.fd hnl hm0 hm a1 (by omega)).mono fun o s hr => ?_
    obtain ⟨gs, rfl, g1, g2, g3⟩ := hr
    have : (rangeD 0 r.toNat).length = r.toNat := by simp [rangeD]
    exact ⟨acc, gs, rfl, by omega, g1, a3, g2, fs.trans g3⟩
end k03
namespace k03
open PySem PySem.Spec PyProof.Rows L2 Vm
local macro_rules | `(tactic| walk_at "ev") => `(tactic| simp only [↓ev_bin, ↓kbin, ↓kbin2, ↓kv, ↓kbl, ↓ev_cmp, ↓kcmp, ↓kcmp2, ↓ev_chain, ↓kch, ↓kch2, kch3_t, kch3_f, ↓ev_cons, ↓kcons, ↓kcons2, ↓ev_tup, ↓ktup, ↓ev_lst, ↓klst, ↓ev_lstS, ↓klstS, ↓ev_neg, ↓kneg, ↓ev_or, ↓kor, kor2_t, kor2_f, ↓ev_and, ↓kand, kand2_t, kand2_f, ↓ev_not, ↓knot, ↓knt, kif_t, kif_f, ↓ev_ite, ↓ev_oSome, ↓kos, ↓ev_cut, ↓kcut, ↓kcut2, ↓kcut3, ↓ev_call, ↓kcall, ↓ev_blt, ↓kblt, ↓ev_isi, ↓kisi, ↓ktg, ↓ev_rev, ↓krev, ↓ev_addS, ↓kas, ↓kas2, ↓kas25, ↓kas3, ↓kfn_rt, ↓kfn_nx, ↓ev_tcmp, ↓ktc, ↓ktc2, ↓ev_tchain, ↓ktch, ↓ev_tru, ↓ktru, ↓ev_tand, ktand_t, ktand_f, ↓ev_tor, ktor_t, ktor_f, ↓ev_tnot, ↓ktnot, ↓ev_tite, ↓ev_seq, kt_nx, kt_rt, kt_bk, kt_ct, ↓ev_ret, ↓kret, ↓ev_expr, ↓kexpr, ↓ev_set, ↓kset, ↓knx, ↓ev_asg, ↓kasg, ↓ev_if, ↓ev_put, ↓kput, ↓kput1, ↓kputs, ↓kput2, ↓ev_aug, ↓kaug, ↓kaug2, ↓kaug3, ↓ev_app, ↓kapp, ↓kapp15, ↓kapp2, ↓kapp3, ↓ev_ext, ↓kext, ↓kext15, ↓kext2, ↓kext3, ↓kext4, ↓ev_for, ↓kfor, kinv_nx, kinv_ct, kinv_bk, kinv_rt, ↓kturn, ↓ev_ival, ↓kiv, ↓ev_range1, ↓kr1, ↓ktl, ↓ev_comp, ↓kcomp, ↓ev_comp_nil, ↓ev_comp_cons, ↓kcp, kcp1_t, kcp1_f, ↓kcp2, ↓kcp3, wipe_nil, wipe_cons,
  fv0, fvS, fcon, fnil, ev_oNone, ev_dicN, ev_disp, ev_tyes, snil, spass, sbrk, scnt, sretn, wp_some, ob_some, cd_true,
  List.map_cons, List.map_nil, List.replicate, List.cons_append, List.nil_append, List.append_nil, List.set_cons_zero, List.set_cons_succ, List.length_cons, List.length_nil, Nat.reduceSub, Nat.reduceAdd, Nat.reduceLeDiff, Nat.zero_add, Nat.zero_le, Bool.not_true, Bool.not_false, gSet, gTupF, gConsF, gNilF, dAdd_int, dSub_int, dIdx_tup, dCut_tup, dCut_tl, dRev_tup, bLen_tup, bLen_tl, bList_tup, bList_tl, bTuple_tl, bTuple_tup, bListS_tup, bListS_tl, dIdx_tl, extOf_tup, extOf_tl, lstOf_tl, lstOf_ref, items_tl, items_tup, dAdd_tup, dAdd_tl, List.length_append, atI3, atI4, atI5, cEq_int, cNe_int, atI0, atI1, atI2, tag_non, tag_bl, tag_int, tag_str, tag_tup, tag_tl, tag_sl, isTag, reduceCtorEq, decide_true, decide_false, tru_non, tru_bl, tru_int, tru_tup, tru_tl, tru_sl, Bool.false_eq_true, if_true, if_false, reduceIte, Int.cast_ofNat_Int, cast0, cast1, Int.reduceEq, Int.reduceLE, Int.reduceLT, Int.reduceToNat, Int.reduceAdd, Int.reduceSub, Int.reduceNeg, cLt_int, cLe_int, cGt_int, cGe_int, and_self, rangeD_zero, rangeD_succ, Option.isSome_some, Option.isSome_none, List.isEmpty_nil, List.isEmpty_cons])
local macro_rules | `(tactic| walk_at "evo") => `(tactic| simp (disch := first | assumption | ((try simp only [List.length_append, List.length_cons, List.length_nil, List.length_replicate]) <;> omega)) only [cd_pos, dAdd_tupc, dAdd_tlc, items_ref, bTuple_ref, bLen_ref, dIdx_ref, extOf_ref, tru_ref, ↓ev_bin, ↓kbin, ↓kbin2, ↓kv, ↓kbl, ↓ev_cmp, ↓kcmp, ↓kcmp2, ↓ev_chain, ↓kch, ↓kch2, kch3_t, kch3_f, ↓ev_cons, ↓kcons, ↓kcons2, ↓ev_tup, ↓ktup, ↓ev_lst, ↓klst, ↓ev_lstS, ↓klstS, ↓ev_neg, ↓kneg, ↓ev_or, ↓kor, kor2_t, kor2_f, ↓ev_and, ↓kand, kand2_t, kand2_f, ↓ev_not, ↓knot, ↓knt, kif_t, kif_f, ↓ev_ite, ↓ev_oSome, ↓kos, ↓ev_cut, ↓kcut, ↓kcut2, ↓kcut3, ↓ev_call, ↓kcall, ↓ev_blt, ↓kblt, ↓ev_isi, ↓kisi, ↓ktg, ↓ev_rev, ↓krev, ↓ev_addS, ↓kas, ↓kas2, ↓kas25, ↓kas3, ↓kfn_rt, ↓kfn_nx, ↓ev_tcmp, ↓ktc, ↓ktc2, ↓ev_tchain, ↓ktch, ↓ev_tru, ↓ktru, ↓ev_tand, ktand_t, ktand_f, ↓ev_tor, ktor_t, ktor_f, ↓ev_tnot, ↓ktnot, ↓ev_tite, ↓ev_seq, kt_nx, kt_rt, kt_bk, kt_ct, ↓ev_ret, ↓kret, ↓ev_expr, ↓kexpr, ↓ev_set, ↓kset, ↓knx, ↓ev_asg, ↓kasg, ↓ev_if, ↓ev_put, ↓kput, ↓kput1, ↓kputs, ↓kput2, ↓ev_aug, ↓kaug, ↓kaug2, ↓kaug3, ↓ev_app, ↓kapp, ↓kapp15, ↓kapp2, ↓kapp3, ↓ev_ext, ↓kext, ↓kext15, ↓kext2, ↓kext3, ↓kext4, ↓ev_for, ↓kfor, kinv_nx, kinv_ct, kinv_bk, kinv_rt, ↓kturn, ↓ev_ival, ↓kiv, ↓ev_range1, ↓kr1, ↓ktl, ↓ev_comp, ↓kcomp, ↓ev_comp_nil, ↓ev_comp_cons, ↓kcp, kcp1_t, kcp1_f, ↓kcp2, ↓kcp3, wipe_nil, wipe_cons,
  fv0, fvS, fcon, fnil, ev_oNone, ev_dicN, ev_disp, ev_tyes, snil, spass, sbrk, scnt, sretn, wp_some, ob_some, cd_true,
  List.map_cons, List.map_nil, List.replicate, List.cons_append, List.nil_append, List.append_nil, List.set_cons_zero, List.set_cons_succ, List.length_cons, List.length_nil, Nat.reduceSub, Nat.reduceAdd, Nat.reduceLeDiff, Nat.zero_add, Nat.zero_le, Bool.not_true, Bool.not_false, gSet, gTupF, gConsF, gNilF, dAdd_int, dSub_int, dIdx_tup, dCut_tup, dCut_tl, dRev_tup, bLen_tup, bLen_tl, bList_tup, bList_tl, bTuple_tl, bTuple_tup, bListS_tup, bListS_tl, dIdx_tl, extOf_tup, extOf_tl, lstOf_tl, lstOf_ref, items_tl, items_tup, List.length_append, atI3, atI4, atI5, cEq_int, cNe_int, atI0, atI1, atI2, tag_non, tag_bl, tag_int, tag_str, tag_tup, tag_tl, tag_sl, isTag, reduceCtorEq, decide_true, decide_false, tru_non, tru_bl, tru_int, tru_tup, tru_tl, tru_sl, Bool.false_eq_true, if_true, if_false, reduceIte, Int.cast_ofNat_Int, cast0, cast1, Int.reduceEq, Int.reduceLE, Int.reduceLT, Int.reduceToNat, Int.reduceAdd, Int.reduceSub, Int.reduceNeg, cLt_int, cLe_int, cGt_int, cGe_int, and_self, rangeD_zero, rangeD_succ, Option.isSome_some, Option.isSome_none, List.isEmpty_nil, List.isEmpty_cons])
local macro_rules | `(tactic| walk_at "evs") => `(tactic| simp only [↓ev_bin, ↓kbin, ↓kbin2, ↓kv, ↓kbl, ↓ev_cmp, ↓kcmp, ↓kcmp2, ↓ev_chain, ↓kch, ↓kch2, kch3_t, kch3_f, ↓ev_cons, ↓kcons, ↓kcons2, ↓ev_tup, ↓ktup, ↓ev_lst, ↓klst, ↓ev_lstS, ↓klstS, ↓ev_neg, ↓kneg, ↓ev_or, ↓kor, kor2_t, kor2_f, ↓ev_and, ↓kand, kand2_t, kand2_f, ↓ev_not, ↓knot, ↓knt, kif_t, kif_f, ↓ev_ite, ↓ev_oSome, ↓kos, ↓ev_cut, ↓kcut, ↓kcut2, ↓kcut3, ↓ev_call, ↓kcall, ↓ev_blt, ↓kblt, ↓ev_isi, ↓kisi, ↓ktg, ↓ev_rev, ↓krev, ↓ev_addS, ↓kas, ↓kas2, ↓kas25, ↓kas3, ↓kfn_rt, ↓kfn_nx, ↓ev_tcmp, ↓ktc, ↓ktc2, ↓ev_tchain, ↓ktch, ↓ev_tru, ↓ktru, ↓ev_tand, ktand_t, ktand_f, ↓ev_tor, ktor_t, ktor_f, ↓ev_tnot, ↓ktnot, ↓ev_tite, ↓ev_seq, kt_nx, kt_rt, kt_bk, kt_ct, ↓ev_ret, ↓kret, ↓ev_expr, ↓kexpr, ↓ev_set, ↓kset, ↓knx, ↓ev_asg, ↓kasg, ↓ev_if, ↓ev_put, ↓kput, ↓kput1, ↓kputs, ↓kput2, ↓ev_aug, ↓kaug, ↓kaug2, ↓kaug3, ↓ev_app, ↓kapp, ↓kapp15, ↓kapp2, ↓kapp3, ↓ev_ext, ↓kext, ↓kext15, ↓kext2, ↓kext3, ↓kext4, ↓ev_for, ↓kfor, kinv_nx, kinv_ct, kinv_bk, kinv_rt, ↓kturn, ↓ev_ival, ↓kiv, ↓ev_range1, ↓kr1, ↓ktl, ↓ev_comp, ↓kcomp, ↓ev_comp_nil, ↓ev_comp_cons, ↓kcp, kcp1_t, kcp1_f, ↓kcp2, ↓kcp3, wipe_nil, wipe_cons,
  fv0, fvS, fcon, fnil, ev_oNone, ev_dicN, ev_disp, ev_tyes, snil, spass, sbrk, scnt, sretn, wp_some, ob_some, cd_true,
  List.map_cons, List.map_nil, List.replicate, List.cons_append, List.nil_append, List.append_nil, List.set_cons_zero, List.set_cons_succ, List.length_cons, List.length_nil, Nat.reduceSub, Nat.reduceAdd, Nat.reduceLeDiff, Nat.zero_add, Nat.zero_le, Bool.not_true, Bool.not_false, gSet, gTupF, gConsF, gNilF, dAdd_int, dSub_int, dIdx_tup, dCut_tup, dCut_tl, dRev_tup, bLen_tup, bLen_tl, bList_tup, bList_tl, bTuple_tl, bTuple_tup, bListS_tup, bListS_tl, dIdx_tl, extOf_tup, extOf_tl, lstOf_tl, lstOf_ref, items_tl, items_tup, dAdd_tup, dAdd_tl, List.length_append, atI3, atI4, atI5, cEq_int, cNe_int, atI0, atI1, atI2, tag_non, tag_bl, tag_int, tag_str, tag_tup, tag_tl, tag_sl, isTag, reduceCtorEq, decide_true, decide_false, tru_non, tru_bl, tru_int, tru_tup, tru_tl, tru_sl, Bool.false_eq_true, if_true, if_false, reduceIte, Int.cast_ofNat_Int, cast0, cast1, Int.reduceEq, Int.reduceLE, Int.reduceLT, Int.reduceToNat, Int.reduceAdd, Int.reduceSub, Int.reduceNeg, cLt_int, cLe_int, cGt_int, cGe_int, and_self, rangeD_zero, rangeD_succ, Option.isSome_some, Option.isSome_none, List.isEmpty_nil, List.isEmpty_cons, *])
theorem fxs_all {W E : Nat} : ∀ {ds : List D}, (∀ d ∈ ds, Fx W E d) → Fxs (ds.length * (W + 1)) E ds
  | [], _ => Fxs.nil.mono (Nat.zero_le _) (Nat.zero_le _)
  | d :: ds, h => by
    refine (Fxs.cons (h d List.mem_cons_self) (fxs_all fun x hx => h x (List.mem_cons_of_mem _ hx))).mono ?_ (by omega)
    rw [List.length_cons, Nat.add_mul]
    omega
theorem fx_con {d : D} {W E : Nat} (h : okB W E d = true) : Fx W E d := okB_ok h
theorem tmG_fx {nb : List D} (hn : ∀ x ∈ nb, isNm x = true) {t : D} (h : TmG nb t) : Fx 30 0 t ∧ isTm t = true := by
  rcases h with h | ⟨i, rfl, h1, h2⟩
  · exact ⟨Fx.nm (hn t h), tm_nm (hn t h)⟩
  · exact ⟨Fx.int h1 h2, by simp [isTm, h1, h2]⟩
theorem pcG_fx {nb rw : List D} (hn : ∀ x ∈ nb, isNm x = true) (hr : ∀ x ∈ rw, isNm x = true) {p : D} (h : PcG nb rw p) : Fx 40 1 p ∧ isPc p = true := by
  rcases h with ⟨t, rfl, ht⟩ | ⟨t, hp, ht⟩
  · have := tmG_fx hn ht
    exact ⟨(Fx.tup (Fxs.cons (fx_con (W := 3) (E := 0) (by decide +kernel)) (Fxs.cons this.1 Fxs.nil)) (by simp)).mono (by omega) (by omega), by rw [isPc_two, if_pos (by decide +kernel)]; exact this.2⟩
  · have h1 := Fx.nm (hr t ht)
    have h2 := hr t ht
    rcases hp with rfl | rfl
    · exact ⟨(Fx.tup (Fxs.cons (fx_con (W := 3) (E := 0) (by decide +kernel)) (Fxs.cons h1 Fxs.nil)) (by simp)).mono (by omega) (by omega), by rw [isPc_two, if_neg (by decide +kernel)]; simp [isS, h2]⟩
    · exact ⟨(Fx.tup (Fxs.cons (fx_con (W := 4) (E := 0) (by decide +kernel)) (Fxs.cons h1 Fxs.nil)) (by simp)).mono (by omega) (by omega), by rw [isPc_two, if_neg (by decide +kernel)]; simp [isS, h2]⟩
theorem ptG_fx {nb rw : List D} (hn : ∀ x ∈ nb, isNm x = true) (hr : ∀ x ∈ rw, isNm x = true) {p : D} (h : PtG nb rw p) : Fx 400 3 p ∧ isPt p = true ∧ (∃ q, p = .tup q ∧ q.length = 4) ∧ (∀ x ∈ tmI p, TmG nb x) ∧ ∀ x ∈ rwI p, x ∈ rw := by
  rcases h with ⟨a, b, c, rfl, ha, hb, hc⟩ | ⟨a, b, ws, rfl, ha, hb, hl, hw⟩
  · have h1 := tmG_fx hn ha
    have h2 := tmG_fx hn hb
    have h3 := tmG_fx hn hc
    refine ⟨(Fx.tup (Fxs.cons (fx_con (W := 4) (E := 0) (by decide +kernel)) (Fxs.cons h1.1 (Fxs.cons h2.1 (Fxs.cons h3.1 Fxs.nil)))) (by simp)).mono (by omega) (by omega), ?_, ⟨_, rfl, rfl⟩, ?_, ?_⟩
    · simp [isPt, isS, h1.2, h2.2, h3.2]
    · have : isS "row" (.str "cell") = false := by decide +kernel
      simp only [tmI, this, Bool.false_eq_true, if_false, List.mem_cons, List.not_mem_nil, or_false]
      rintro x (rfl | rfl | rfl)
      · exact ha
      · exact hb
      · exact hc
    · have : isS "row" (.str "cell") = false := by decide +kernel
      simp [rwI, this]
  · have h1 := tmG_fx hn ha
    have h2 := tmG_fx hn hb
    have hpc := fun w hw' => pcG_fx hn hr (hw w hw')
    have hws := fxs_all (W := 40) (E := 1) (ds := ws) fun w hw' => (hpc w hw').1
    have hk : isS "row" (.str "row") = true := by decide +kernel
    have hk2 : isS "cell" (.str "row") = false := by decide +kernel
    refine ⟨(Fx.tup (Fxs.cons (fx_con (W := 3) (E := 0) (by decide +kernel)) (Fxs.cons h1.1 (Fxs.cons h2.1 (Fxs.cons (Fx.tup hws (by omega)) Fxs.nil)))) (by simp)).mono (by omega) (by omega), ?_, ⟨_, rfl, rfl⟩, ?_, ?_⟩
    · have : isWd (.tup ws) = true := by
        simp only [isWd, Bool.and_eq_true, decide_eq_true_eq, List.all_eq_true]
        exact ⟨hl, fun w hw' => (hpc w hw').2⟩
      simp [isPt, hk, hk2, h1.2, h2.2, this]
    · simp only [tmI, hk, if_true, List.mem_append, List.mem_cons, List.not_mem_nil, or_false, onesW, List.mem_map, List.mem_filter]
      rintro x ((rfl | rfl) | ⟨p, ⟨hp, ho⟩, rfl⟩)
      · exact ha
      · exact hb
      · rcases hw p hp with ⟨t, rfl, ht⟩ | ⟨t, e, ht⟩
        · exact ht
        · have hno : isOne p = false := by rcases e with rfl | rfl <;> (show isS "one" (.str _) = false; decide +kernel)
          rw [hno] at ho
          cases ho
    · simp only [rwI, hk, if_true, rowsW, List.mem_map, List.mem_filter]
      rintro x ⟨p, ⟨hp, ho⟩, rfl⟩
      rcases hw p hp with ⟨t, rfl, ht⟩ | ⟨t, rfl | rfl, ht⟩
      · have hno : isOne (.tup [.str "one", t]) = true := by simp [isOne, isS]
        rw [hno] at ho
        cases ho
      · exact ht
      · exact ht
theorem ftG_fx {nb : List D} (hn : ∀ x ∈ nb, isNm x = true) {p : D} (h : FtG nb p) : Fx 400 3 p ∧ isFt p = true ∧ (∃ q, p = .tup q ∧ q.length = 3) ∧ ∀ x ∈ tmI p, TmG nb x := by
  obtain ⟨k, a, b, rfl, hk, ha, hb⟩ := h
  have h1 := tmG_fx hn ha
  have h2 := tmG_fx hn hb
  have hk' : Fx 5 0 (.str k) := by rcases hk with rfl | rfl <;> exact fx_con (by decide +kernel)
  refine ⟨(Fx.tup (Fxs.cons hk' (Fxs.cons h1.1 (Fxs.cons h2.1 Fxs.nil))) (by simp)).mono (by omega) (by omega), ?_, ⟨_, rfl, rfl⟩, ?_⟩
  · have : (isS "same" (.str k) || isS "apart" (.str k)) = true := by rcases hk with rfl | rfl <;> decide +kernel
    simp [isFt, h1.2, h2.2, this]
  · simp only [tmI, List.mem_cons, List.not_mem_nil, or_false]
    rintro x (rfl | rfl)
    · exact ha
    · exact hb
/-- a thing with at most so many items on a side, each with at most so many parts -/
structure Th (W E Ls Lq : Nat) (d : D) : Prop where
  fx : Fx W E d
  ls : ∀ ps fs, d = .tup [.tup ps, .tup fs] → ps.length ≤ Ls ∧ fs.length ≤ Ls ∧ ∀ q, .tup q ∈ ps ++ fs → q.length ≤ Lq
theorem claim_th {nb rw ps fs : List D} (hn : ∀ x ∈ nb, isNm x = true) (hr : ∀ x ∈ rw, isNm x = true) (hd : ∀ x ∈ nb, x ∉ rw) (hpl : ps.length ≤ 5) (hfl : fs.length ≤ 4) (hp : ∀ p ∈ ps, PtG nb rw p) (hf : ∀ f ∈ fs, FtG nb f) :
    Th 4000 5 5 4 (.tup [.tup ps, .tup fs]) ∧ isClm (.tup [.tup ps, .tup fs]) = true ∧ (∀ x ∈ ps ++ fs, ∃ q, x = .tup q ∧ q ≠ []) := by
  have p1 := fun p h => ptG_fx hn hr (hp p h)
  have f1 := fun p h => ftG_fx hn (hf p h)
  have a1 := fxs_all (W := 400) (E := 3) (ds := ps) fun p h => (p1 p h).1
  have a2 := fxs_all (W := 400) (E := 3) (ds := fs) fun p h => (f1 p h).1
  refine ⟨⟨(Fx.tup (Fxs.cons (Fx.tup a1 (by omega)) (Fxs.cons (Fx.tup a2 (by omega)) Fxs.nil)) (by simp)).mono (by omega) (by omega), ?_⟩, ?_, ?_⟩
  · intro ps' fs' e
    cases e
    refine ⟨hpl, by omega, fun q hq => ?_⟩
    rcases List.mem_append.mp hq with hq | hq
    · obtain ⟨q', e, hl⟩ := (p1 _ hq).2.2.1
      cases e
      omega
    · obtain ⟨q', e, hl⟩ := (f1 _ hq).2.2.1
      cases e
      omega
  · have hF : hasF (.tup [.tup ps, .tup fs]) = true := by
      simp only [hasF, Bool.and_eq_true, decide_eq_true_eq, List.all_eq_true]
      exact ⟨⟨⟨hpl, hfl⟩, fun p h => (p1 p h).2.1⟩, fun p h => (f1 p h).2.1⟩
    simp only [isClm, hF, Bool.true_and, Bool.not_eq_true', List.any_eq_false, decide_eq_true_eq]
    intro s hs ht
    simp only [rowS, List.mem_filterMap, List.mem_flatMap] at hs
    obtain ⟨x, ⟨y, hy, hx⟩, hxs⟩ := hs
    simp only [termS, List.mem_filterMap, List.mem_flatMap] at ht
    obtain ⟨x2, ⟨y2, hy2, hx2⟩, hxs2⟩ := ht
    have m1 := (p1 y hy).2.2.2.2 x hx
    have m2 : TmG nb x2 := by
      rcases List.mem_append.mp hy2 with q | q
      · exact (p1 y2 q).2.2.2.1 x2 hx2
      · exact (f1 y2 q).2.2.2 x2 hx2
    have e1 : x = .str s := by cases x <;> simp [strOf] at hxs; rw [hxs]
    have e2 : x2 = .str s := by cases x2 <;> simp [strOf] at hxs2; rw [hxs2]
    subst e1 e2
    rcases m2 with m2 | ⟨i, e, _⟩
    · exact hd _ m2 m1
    · cases e
  · intro x hx
    rcases List.mem_append.mp hx with hx | hx
    · obtain ⟨q', e, hl⟩ := (p1 _ hx).2.2.1
      exact ⟨q', e, fun z => by rw [z] at hl; simp at hl⟩
    · obtain ⟨q', e, hl⟩ := (f1 _ hx).2.2.1
      exact ⟨q', e, fun z => by rw [z] at hl; simp at hl⟩
end k03
namespace k03
open PySem PySem.Spec PyProof.Rows L2 Vm
local macro_rules | `(tactic| walk_at "ev") => `(tactic| simp only [↓ev_bin, ↓kbin, ↓kbin2, ↓kv, ↓kbl, ↓ev_cmp, ↓kcmp, ↓kcmp2, ↓ev_chain, ↓kch, ↓kch2, kch3_t, kch3_f, ↓ev_cons, ↓kcons, ↓kcons2, ↓ev_tup, ↓ktup, ↓ev_lst, ↓klst, ↓ev_lstS, ↓klstS, ↓ev_neg, ↓kneg, ↓ev_or, ↓kor, kor2_t, kor2_f, ↓ev_and, ↓kand, kand2_t, kand2_f, ↓ev_not, ↓knot, ↓knt, kif_t, kif_f, ↓ev_ite, ↓ev_oSome, ↓kos, ↓ev_cut, ↓kcut, ↓kcut2, ↓kcut3, ↓ev_call, ↓kcall, ↓ev_blt, ↓kblt, ↓ev_isi, ↓kisi, ↓ktg, ↓ev_rev, ↓krev, ↓ev_addS, ↓kas, ↓kas2, ↓kas25, ↓kas3, ↓kfn_rt, ↓kfn_nx, ↓ev_tcmp, ↓ktc, ↓ktc2, ↓ev_tchain, ↓ktch, ↓ev_tru, ↓ktru, ↓ev_tand, ktand_t, ktand_f, ↓ev_tor, ktor_t, ktor_f, ↓ev_tnot, ↓ktnot, ↓ev_tite, ↓ev_seq, kt_nx, kt_rt, kt_bk, kt_ct, ↓ev_ret, ↓kret, ↓ev_expr, ↓kexpr, ↓ev_set, ↓kset, ↓knx, ↓ev_asg, ↓kasg, ↓ev_if, ↓ev_put, ↓kput, ↓kput1, ↓kputs, ↓kput2, ↓ev_aug, ↓kaug, ↓kaug2, ↓kaug3, ↓ev_app, ↓kapp, ↓kapp15, ↓kapp2, ↓kapp3, ↓ev_ext, ↓kext, ↓kext15, ↓kext2, ↓kext3, ↓kext4, ↓ev_for, ↓kfor, kinv_nx, kinv_ct, kinv_bk, kinv_rt, ↓kturn, ↓ev_ival, ↓kiv, ↓ev_range1, ↓kr1, ↓ktl, ↓ev_comp, ↓kcomp, ↓ev_comp_nil, ↓ev_comp_cons, ↓kcp, kcp1_t, kcp1_f, ↓kcp2, ↓kcp3, wipe_nil, wipe_cons,
  fv0, fvS, fcon, fnil, ev_oNone, ev_dicN, ev_disp, ev_tyes, snil, spass, sbrk, scnt, sretn, wp_some, ob_some, cd_true,
  List.map_cons, List.map_nil, List.replicate, List.cons_append, List.nil_append, List.append_nil, List.set_cons_zero, List.set_cons_succ, List.length_cons, List.length_nil, Nat.reduceSub, Nat.reduceAdd, Nat.reduceLeDiff, Nat.zero_add, Nat.zero_le, Bool.not_true, Bool.not_false, gSet, gTupF, gConsF, gNilF, dAdd_int, dSub_int, dIdx_tup, dCut_tup, dCut_tl, dRev_tup, bLen_tup, bLen_tl, bList_tup, bList_tl, bTuple_tl, bTuple_tup, bListS_tup, bListS_tl, dIdx_tl, extOf_tup, extOf_tl, lstOf_tl, lstOf_ref, items_tl, items_tup, dAdd_tup, dAdd_tl, List.length_append, atI3, atI4, atI5, cEq_int, cNe_int, atI0, atI1, atI2, tag_non, tag_bl, tag_int, tag_str, tag_tup, tag_tl, tag_sl, isTag, reduceCtorEq, decide_true, decide_false, tru_non, tru_bl, tru_int, tru_tup, tru_tl, tru_sl, Bool.false_eq_true, if_true, if_false, reduceIte, Int.cast_ofNat_Int, cast0, cast1, Int.reduceEq, Int.reduceLE, Int.reduceLT, Int.reduceToNat, Int.reduceAdd, Int.reduceSub, Int.reduceNeg, cLt_int, cLe_int, cGt_int, cGe_int, and_self, rangeD_zero, rangeD_succ, Option.isSome_some, Option.isSome_none, List.isEmpty_nil, List.isEmpty_cons])
local macro_rules | `(tactic| walk_at "evo") => `(tactic| simp (disch := first | assumption | ((try simp only [List.length_append, List.length_cons, List.length_nil, List.length_replicate]) <;> omega)) only [cd_pos, dAdd_tupc, dAdd_tlc, items_ref, bTuple_ref, bLen_ref, dIdx_ref, extOf_ref, tru_ref, ↓ev_bin, ↓kbin, ↓kbin2, ↓kv, ↓kbl, ↓ev_cmp, ↓kcmp, ↓kcmp2, ↓ev_chain, ↓kch, ↓kch2, kch3_t, kch3_f, ↓ev_cons, ↓kcons, ↓kcons2, ↓ev_tup, ↓ktup, ↓ev_lst, ↓klst, ↓ev_lstS, ↓klstS, ↓ev_neg, ↓kneg, ↓ev_or, ↓kor, kor2_t, kor2_f, ↓ev_and, ↓kand, kand2_t, kand2_f, ↓ev_not, ↓knot, ↓knt, kif_t, kif_f, ↓ev_ite, ↓ev_oSome, ↓kos, ↓ev_cut, ↓kcut, ↓kcut2, ↓kcut3, ↓ev_call, ↓kcall, ↓ev_blt, ↓kblt, ↓ev_isi, ↓kisi, ↓ktg, ↓ev_rev, ↓krev, ↓ev_addS, ↓kas, ↓kas2, ↓kas25, ↓kas3, ↓kfn_rt, ↓kfn_nx, ↓ev_tcmp, ↓ktc, ↓ktc2, ↓ev_tchain, ↓ktch, ↓ev_tru, ↓ktru, ↓ev_tand, ktand_t, ktand_f, ↓ev_tor, ktor_t, ktor_f, ↓ev_tnot, ↓ktnot, ↓ev_tite, ↓ev_seq, kt_nx, kt_rt, kt_bk, kt_ct, ↓ev_ret, ↓kret, ↓ev_expr, ↓kexpr, ↓ev_set, ↓kset, ↓knx, ↓ev_asg, ↓kasg, ↓ev_if, ↓ev_put, ↓kput, ↓kput1, ↓kputs, ↓kput2, ↓ev_aug, ↓kaug, ↓kaug2, ↓kaug3, ↓ev_app, ↓kapp, ↓kapp15, ↓kapp2, ↓kapp3, ↓ev_ext, ↓kext, ↓kext15, ↓kext2, ↓kext3, ↓kext4, ↓ev_for, ↓kfor, kinv_nx, kinv_ct, kinv_bk, kinv_rt, ↓kturn, ↓ev_ival, ↓kiv, ↓ev_range1, ↓kr1, ↓ktl, ↓ev_comp, ↓kcomp, ↓ev_comp_nil, ↓ev_comp_cons, ↓kcp, kcp1_t, kcp1_f, ↓kcp2, ↓kcp3, wipe_nil, wipe_cons,
  fv0, fvS, fcon, fnil, ev_oNone, ev_dicN, ev_disp, ev_tyes, snil, spass, sbrk, scnt, sretn, wp_some, ob_some, cd_true,
  List.map_cons, List.map_nil, List.replicate, List.cons_append, List.nil_append, List.append_nil, List.set_cons_zero, List.set_cons_succ, List.length_cons, List.length_nil, Nat.reduceSub, Nat.reduceAdd, Nat.reduceLeDiff, Nat.zero_add, Nat.zero_le, Bool.not_true, Bool.not_false, gSet, gTupF, gConsF, gNilF, dAdd_int, dSub_int, dIdx_tup, dCut_tup, dCut_tl, dRev_tup, bLen_tup, bLen_tl, bList_tup, bList_tl, bTuple_tl, bTuple_tup, bListS_tup, bListS_tl, dIdx_tl, extOf_tup, extOf_tl, lstOf_tl, lstOf_ref, items_tl, items_tup, List.length_append, atI3, atI4, atI5, cEq_int, cNe_int, atI0, atI1, atI2, tag_non, tag_bl, tag_int, tag_str, tag_tup, tag_tl, tag_sl, isTag, reduceCtorEq, decide_true, decide_false, tru_non, tru_bl, tru_int, tru_tup, tru_tl, tru_sl, Bool.false_eq_true, if_true, if_false, reduceIte, Int.cast_ofNat_Int, cast0, cast1, Int.reduceEq, Int.reduceLE, Int.reduceLT, Int.reduceToNat, Int.reduceAdd, Int.reduceSub, Int.reduceNeg, cLt_int, cLe_int, cGt_int, cGe_int, and_self, rangeD_zero, rangeD_succ, Option.isSome_some, Option.isSome_none, List.isEmpty_nil, List.isEmpty_cons])
local macro_rules | `(tactic| walk_at "evs") => `(tactic| simp only [↓ev_bin, ↓kbin, ↓kbin2, ↓kv, ↓kbl, ↓ev_cmp, ↓kcmp, ↓kcmp2, ↓ev_chain, ↓kch, ↓kch2, kch3_t, kch3_f, ↓ev_cons, ↓kcons, ↓kcons2, ↓ev_tup, ↓ktup, ↓ev_lst, ↓klst, ↓ev_lstS, ↓klstS, ↓ev_neg, ↓kneg, ↓ev_or, ↓kor, kor2_t, kor2_f, ↓ev_and, ↓kand, kand2_t, kand2_f, ↓ev_not, ↓knot, ↓knt, kif_t, kif_f, ↓ev_ite, ↓ev_oSome, ↓kos, ↓ev_cut, ↓kcut, ↓kcut2, ↓kcut3, ↓ev_call, ↓kcall, ↓ev_blt, ↓kblt, ↓ev_isi, ↓kisi, ↓ktg, ↓ev_rev, ↓krev, ↓ev_addS, ↓kas, ↓kas2, ↓kas25, ↓kas3, ↓kfn_rt, ↓kfn_nx, ↓ev_tcmp, ↓ktc, ↓ktc2, ↓ev_tchain, ↓ktch, ↓ev_tru, ↓ktru, ↓ev_tand, ktand_t, ktand_f, ↓ev_tor, ktor_t, ktor_f, ↓ev_tnot, ↓ktnot, ↓ev_tite, ↓ev_seq, kt_nx, kt_rt, kt_bk, kt_ct, ↓ev_ret, ↓kret, ↓ev_expr, ↓kexpr, ↓ev_set, ↓kset, ↓knx, ↓ev_asg, ↓kasg, ↓ev_if, ↓ev_put, ↓kput, ↓kput1, ↓kputs, ↓kput2, ↓ev_aug, ↓kaug, ↓kaug2, ↓kaug3, ↓ev_app, ↓kapp, ↓kapp15, ↓kapp2, ↓kapp3, ↓ev_ext, ↓kext, ↓kext15, ↓kext2, ↓kext3, ↓kext4, ↓ev_for, ↓kfor, kinv_nx, kinv_ct, kinv_bk, kinv_rt, ↓kturn, ↓ev_ival, ↓kiv, ↓ev_range1, ↓kr1, ↓ktl, ↓ev_comp, ↓kcomp, ↓ev_comp_nil, ↓ev_comp_cons, ↓kcp, kcp1_t, kcp1_f, ↓kcp2, ↓kcp3, wipe_nil, wipe_cons,
  fv0, fvS, fcon, fnil, ev_oNone, ev_dicN, ev_disp, ev_tyes, snil, spass, sbrk, scnt, sretn, wp_some, ob_some, cd_true,
  List.map_cons, List.map_nil, List.replicate, List.cons_append, List.nil_append, List.append_nil, List.set_cons_zero, List.set_cons_succ, List.length_cons, List.length_nil, Nat.reduceSub, Nat.reduceAdd, Nat.reduceLeDiff, Nat.zero_add, Nat.zero_le, Bool.not_true, Bool.not_false, gSet, gTupF, gConsF, gNilF, dAdd_int, dSub_int, dIdx_tup, dCut_tup, dCut_tl, dRev_tup, bLen_tup, bLen_tl, bList_tup, bList_tl, bTuple_tl, bTuple_tup, bListS_tup, bListS_tl, dIdx_tl, extOf_tup, extOf_tl, lstOf_tl, lstOf_ref, items_tl, items_tup, dAdd_tup, dAdd_tl, List.length_append, atI3, atI4, atI5, cEq_int, cNe_int, atI0, atI1, atI2, tag_non, tag_bl, tag_int, tag_str, tag_tup, tag_tl, tag_sl, isTag, reduceCtorEq, decide_true, decide_false, tru_non, tru_bl, tru_int, tru_tup, tru_tl, tru_sl, Bool.false_eq_true, if_true, if_false, reduceIte, Int.cast_ofNat_Int, cast0, cast1, Int.reduceEq, Int.reduceLE, Int.reduceLT, Int.reduceToNat, Int.reduceAdd, Int.reduceSub, Int.reduceNeg, cLt_int, cLe_int, cGt_int, cGe_int, and_self, rangeD_zero, rangeD_succ, Option.isSome_some, Option.isSome_none, List.isEmpty_nil, List.isEmpty_cons, *])
theorem tup3_con {xs : List D} {M : Nat} (h : xs.length ≤ M) : Tup3 M (.tup xs) := fun q e => by cases e; exact h
theorem dCut_neg {xs : List D} : (Vm.cutD xs (some (-1)) none).length ≤ 1 := by
  unfold Vm.cutD
  rw [List.length_take, List.length_drop]
  have : HT.sIx xs.length 0 (some (-1)) + 1 ≥ xs.length := by
    unfold HT.sIx
    simp
    repeat' split
    all_goals omega
  omega
theorem cutD_lo {xs : List D} {i : Int} (h : 0 ≤ i) : (Vm.cutD xs none (some i)).length ≤ i.toNat ∧ (Vm.cutD xs (some (i + 1)) none).length ≤ xs.length - (i.toNat + 1) := by
  unfold Vm.cutD
  rw [List.length_take, List.length_drop, List.length_take, List.length_drop]
  have h1 : HT.sIx xs.length xs.length (some i) ≤ i.toNat := by
    unfold HT.sIx
    simp
    repeat' split
    all_goals omega
  have h2 : min (i.toNat + 1) xs.length ≤ HT.sIx xs.length 0 (some (i + 1)) := by
    unfold HT.sIx
    simp
    repeat' split
    all_goals omega
  omega
theorem cutD_one {xs : List D} : (Vm.cutD xs (some 1) none).length ≤ xs.length - 1 := by
  have := (cutD_lo (xs := xs) (i := 0) (by omega)).2
  simpa using this
theorem bent_item_ok {st : Store} {n W E Lq : Nat} {q : List D} {n0 n1 n2 n3 r0 r1 r2 r3 : D} (h : Fd n st) (hq : Fxs W E q) (hl : q.length ≤ Lq) (hL : 4 ≤ Lq) (hL2 : Lq ≤ 20) (hn0 : isNm n0 = true) (hn1 : isNm n1 = true) (hr0 : isNm r0 = true) :
    Wp (F__law_bent_item [.ref n, .tup q, .tl [n0, n1, n2, n3], .tl [r0, r1, r2, r3]] st) fun d st' => (Fx (2 * W + 300) (max (E + 2) 6) d ∧ Tup3 (Lq + 1) d) ∧ Fr n st st' := by
  unfold F__law_bent_item B__law_bent_item
  rw [ev_fn, e_pick, e_take]
  refine ⟨rfl, ?_⟩
  walk_at "evo"
  refine (take_ok h (by omega) (by omega)).mono fun d s1 hd => ?_
  obtain ⟨r, rfl, b0, b1, g1⟩ := hd
  have lA := cutD_length q none (some r)
  have lB := cutD_length q (some (r + 1)) none
  have lC := cutD_length q (some (-1)) none
  have lD := cutD_length q (some 1) none
  walk_at "evo"
  refine (odd_ok g1.fd).mono fun o1 s2 hd => ?_
  obtain ⟨⟨w1, v1⟩, g2⟩ := hd
  walk_at "evo"
  refine (odd_ok g2.fd).mono fun o2 s3 hd => ?_
  obtain ⟨⟨w2, v2⟩, g3⟩ := hd
  walk_at "evo"
  refine (odd_ok g3.fd).mono fun o3 s4 hd => ?_
  obtain ⟨⟨w3, v3⟩, g4⟩ := hd
  walk_at "evo"
  refine (odd_ok g4.fd).mono fun o4 s5 hd => ?_
  obtain ⟨⟨w4, v4⟩, g5⟩ := hd
  walk_at "evo"
  refine (pick_tl g5.fd (by simp) (by simp)).mono fun k s6 hd => ?_
  obtain ⟨m6, g6⟩ := hd
  walk_at "evo"
  refine (pick_tl g6.fd (by simp) (by simp)).mono fun d s7 hd => ?_
  obtain ⟨m7, g7⟩ := hd
  refine ⟨?_, (((((g1.trans g2).trans g3).trans g4).trans g5).trans g6).trans g7⟩
  have cA := hq.cut none (some r)
  have cB := hq.cut (some (r + 1)) none
  have cC := hq.cut (some (-1)) none
  have cD := hq.cut (some 1) none
  have lC1 := dCut_neg (xs := q)
  have lAB := cutD_lo (xs := q) b0
  have lD1 := cutD_one (xs := q)
  have hk : Fx 5 0 k := by
    simp only [List.mem_cons, List.not_mem_nil, or_false] at m6
    rcases m6 with rfl | rfl | rfl | rfl | rfl | rfl <;> exact fx_con (by decide +kernel)
  have f0 := Fx.nm hn0
  have f1 := Fx.nm hn1
  have fr := Fx.nm hr0
  have z0 : Fx 30 0 (.int 0) := fx_con (by decide +kernel)
  have z1 : Fx 30 0 (.int 1) := fx_con (by decide +kernel)
  have k3 : Fx 5 0 (.str "row") := fx_con (by decide +kernel)
  have k4 : Fx 5 0 (.str "cell") := fx_con (by decide +kernel)
  have k5 : Fx 5 0 (.str "same") := fx_con (by decide +kernel)
  have k6 : Fx 5 0 (.str "back") := fx_con (by decide +kernel)
  simp only [List.mem_append, List.mem_cons, List.not_mem_nil, or_false, List.append_assoc] at m7
  have mk : ∀ (ds : List D) (W' E' : Nat), Fxs W' E' ds → ds.length ≤ Lq + 1 → W' ≤ 2 * W + 300 → E' ≤ max (E + 1) 5 → Fx (2 * W + 300) (max (E + 2) 6) (.tup ds) ∧ Tup3 (Lq + 1) (.tup ds) := fun ds W' E' h1 h2 h3 h4 => ⟨(Fx.tup h1 (by omega)).mono h3 (by omega), tup3_con h2⟩
  rcases m7 with rfl | rfl | rfl | rfl | rfl | rfl | rfl | rfl | rfl | rfl | rfl | rfl
  · exact mk _ _ _ (cA.append (Fxs.cons w1 cB)) (by simp; omega) (by omega) (by omega)
  · exact mk _ _ _ (cA.append cB) (by simp; omega) (by omega) (by omega)
  · exact mk _ _ _ (hq.append cC) (by simp; omega) (by omega) (by omega)
  · exact ⟨(Fx.tl hq (by omega)).mono (by omega) (by omega), fun q e => by cases e⟩
  · exact mk _ _ _ (Fxs.cons k3 (Fxs.cons f0 (Fxs.cons z0 (Fxs.cons (Fx.tup (Fxs.cons (Fx.tup (Fxs.cons k6 (Fxs.cons f1 Fxs.nil)) (by simp)) Fxs.nil) (by simp)) Fxs.nil)))) (by simp; omega) (by omega) (by omega)
  · exact mk _ _ _ (Fxs.cons k4 (Fxs.cons fr (Fxs.cons z0 (Fxs.cons z0 Fxs.nil)))) (by simp; omega) (by omega) (by omega)
  · exact mk _ _ _ (Fxs.cons k5 (Fxs.cons fr (Fxs.cons z1 Fxs.nil))) (by simp; omega) (by omega) (by omega)
  · exact mk _ _ _ (Fxs.cons k3 (Fxs.cons f0 (Fxs.cons z0 (Fxs.cons (Fx.tup (Fxs.cons w2 Fxs.nil) (by simp)) Fxs.nil)))) (by simp; omega) (by omega) (by omega)
  · exact mk _ _ _ (Fxs.cons k3 (Fxs.cons f0 (Fxs.cons z0 (Fxs.cons w3 Fxs.nil)))) (by simp; omega) (by omega) (by omega)
  · exact ⟨w4.mono (by omega) (by omega), fun q e => Nat.le_trans (v4 q e) (by omega)⟩
  · exact mk _ _ _ (Fxs.cons hk cD) (by simp; omega) (by omega) (by omega)
  · have hq' := Fx.tup hq (by omega)
    exact mk _ _ _ (Fxs.cons hq' Fxs.nil) (by simp) (by omega) (by omega)
end k03
namespace k03
open PySem PySem.Spec PyProof.Rows L2 Vm
local macro_rules | `(tactic| walk_at "ev") => `(tactic| simp only [↓ev_bin, ↓kbin, ↓kbin2, ↓kv, ↓kbl, ↓ev_cmp, ↓kcmp, ↓kcmp2, ↓ev_chain, ↓kch, ↓kch2, kch3_t, kch3_f, ↓ev_cons, ↓kcons, ↓kcons2, ↓ev_tup, ↓ktup, ↓ev_lst, ↓klst, ↓ev_lstS, ↓klstS, ↓ev_neg, ↓kneg, ↓ev_or, ↓kor, kor2_t, kor2_f, ↓ev_and, ↓kand, kand2_t, kand2_f, ↓ev_not, ↓knot, ↓knt, kif_t, kif_f, ↓ev_ite, ↓ev_oSome, ↓kos, ↓ev_cut, ↓kcut, ↓kcut2, ↓kcut3, ↓ev_call, ↓kcall, ↓ev_blt, ↓kblt, ↓ev_isi, ↓kisi, ↓ktg, ↓ev_rev, ↓krev, ↓ev_addS, ↓kas, ↓kas2, ↓kas25, ↓kas3, ↓kfn_rt, ↓kfn_nx, ↓ev_tcmp, ↓ktc, ↓ktc2, ↓ev_tchain, ↓ktch, ↓ev_tru, ↓ktru, ↓ev_tand, ktand_t, ktand_f, ↓ev_tor, ktor_t, ktor_f, ↓ev_tnot, ↓ktnot, ↓ev_tite, ↓ev_seq, kt_nx, kt_rt, kt_bk, kt_ct, ↓ev_ret, ↓kret, ↓ev_expr, ↓kexpr, ↓ev_set, ↓kset, ↓knx, ↓ev_asg, ↓kasg, ↓ev_if, ↓ev_put, ↓kput, ↓kput1, ↓kputs, ↓kput2, ↓ev_aug, ↓kaug, ↓kaug2, ↓kaug3, ↓ev_app, ↓kapp, ↓kapp15, ↓kapp2, ↓kapp3, ↓ev_ext, ↓kext, ↓kext15, ↓kext2, ↓kext3, ↓kext4, ↓ev_for, ↓kfor, kinv_nx, kinv_ct, kinv_bk, kinv_rt, ↓kturn, ↓ev_ival, ↓kiv, ↓ev_range1, ↓kr1, ↓ktl, ↓ev_comp, ↓kcomp, ↓ev_comp_nil, ↓ev_comp_cons, ↓kcp, kcp1_t, kcp1_f, ↓kcp2, ↓kcp3, wipe_nil, wipe_cons,
  fv0, fvS, fcon, fnil, ev_oNone, ev_dicN, ev_disp, ev_tyes, snil, spass, sbrk, scnt, sretn, wp_some, ob_some, cd_true,
  List.map_cons, List.map_nil, List.replicate, List.cons_append, List.nil_append, List.append_nil, List.set_cons_zero, List.set_cons_succ, List.length_cons, List.length_nil, Nat.reduceSub, Nat.reduceAdd, Nat.reduceLeDiff, Nat.zero_add, Nat.zero_le, Bool.not_true, Bool.not_false, gSet, gTupF, gConsF, gNilF, dAdd_int, dSub_int, dIdx_tup, dCut_tup, dCut_tl, dRev_tup, bLen_tup, bLen_tl, bList_tup, bList_tl, bTuple_tl, bTuple_tup, bListS_tup, bListS_tl, dIdx_tl, extOf_tup, extOf_tl, lstOf_tl, lstOf_ref, lstAt_push, dicAt_push, lstAt_push_set, lstAt_push1, lstAt_push1_set, lstAt_push2, lstAt_push2_set, items_tl, items_tup, dAdd_tup, dAdd_tl, List.length_append, atI3, atI4, atI5, cEq_int, cNe_int, atI0, atI1, atI2, tag_non, tag_bl, tag_int, tag_str, tag_tup, tag_tl, tag_sl, isTag, reduceCtorEq, decide_true, decide_false, tru_non, tru_bl, tru_int, tru_tup, tru_tl, tru_sl, Bool.false_eq_true, if_true, if_false, reduceIte, Int.cast_ofNat_Int, cast0, cast1, Int.reduceEq, Int.reduceLE, Int.reduceLT, Int.reduceToNat, Int.reduceAdd, Int.reduceSub, Int.reduceNeg, cLt_int, cLe_int, cGt_int, cGe_int, and_self, rangeD_zero, rangeD_succ, Option.isSome_some, Option.isSome_none, List.isEmpty_nil, List.isEmpty_cons])
local macro_rules | `(tactic| walk_at "evo") => `(tactic| simp (disch := first | assumption | ((try simp only [List.length_append, List.length_cons, List.length_nil, List.length_replicate]) <;> omega) | fail) only [cd_pos, dAdd_tupc, dAdd_tlc, dAdd_refc, dAdd_tlrefc, items_ref, bTuple_ref, bLen_ref, dIdx_ref, extOf_ref, tru_ref, ↓ev_bin, ↓kbin, ↓kbin2, ↓kv, ↓kbl, ↓ev_cmp, ↓kcmp, ↓kcmp2, ↓ev_chain, ↓kch, ↓kch2, kch3_t, kch3_f, ↓ev_cons, ↓kcons, ↓kcons2, ↓ev_tup, ↓ktup, ↓ev_lst, ↓klst, ↓ev_lstS, ↓klstS, ↓ev_neg, ↓kneg, ↓ev_or, ↓kor, kor2_t, kor2_f, ↓ev_and, ↓kand, kand2_t, kand2_f, ↓ev_not, ↓knot, ↓knt, kif_t, kif_f, ↓ev_ite, ↓ev_oSome, ↓kos, ↓ev_cut, ↓kcut, ↓kcut2, ↓kcut3, ↓ev_call, ↓kcall, ↓ev_blt, ↓kblt, ↓ev_isi, ↓kisi, ↓ktg, ↓ev_rev, ↓krev, ↓ev_addS, ↓kas, ↓kas2, ↓kas25, ↓kas3, ↓kfn_rt, ↓kfn_nx, ↓ev_tcmp, ↓ktc, ↓ktc2, ↓ev_tchain, ↓ktch, ↓ev_tru, ↓ktru, ↓ev_tand, ktand_t, ktand_f, ↓ev_tor, ktor_t, ktor_f, ↓ev_tnot, ↓ktnot, ↓ev_tite, ↓ev_seq, kt_nx, kt_rt, kt_bk, kt_ct, ↓ev_ret, ↓kret, ↓ev_expr, ↓kexpr, ↓ev_set, ↓kset, ↓knx, ↓ev_asg, ↓kasg, ↓ev_if, ↓ev_put, ↓kput, ↓kput1, ↓kputs, ↓kput2, ↓ev_aug, ↓kaug, ↓kaug2, ↓kaug3, ↓ev_app, ↓kapp, ↓kapp15, ↓kapp2, ↓kapp3, ↓ev_ext, ↓kext, ↓kext15, ↓kext2, ↓kext3, ↓kext4, ↓ev_for, ↓kfor, kinv_nx, kinv_ct, kinv_bk, kinv_rt, ↓kturn, ↓ev_ival, ↓kiv, ↓ev_range1, ↓kr1, ↓ktl, ↓ev_comp, ↓kcomp, ↓ev_comp_nil, ↓ev_comp_cons, ↓kcp, kcp1_t, kcp1_f, ↓kcp2, ↓kcp3, wipe_nil, wipe_cons,
  fv0, fvS, fcon, fnil, ev_oNone, ev_dicN, ev_disp, ev_tyes, snil, spass, sbrk, scnt, sretn, wp_some, ob_some, cd_true,
  List.map_cons, List.map_nil, List.replicate, List.cons_append, List.nil_append, List.append_nil, List.set_cons_zero, List.set_cons_succ, List.length_cons, List.length_nil, Nat.reduceSub, Nat.reduceAdd, Nat.reduceLeDiff, Nat.zero_add, Nat.zero_le, Bool.not_true, Bool.not_false, gSet, gTupF, gConsF, gNilF, dAdd_int, dSub_int, dIdx_tup, dCut_tup, dCut_tl, dRev_tup, bLen_tup, bLen_tl, bList_tup, bList_tl, bTuple_tl, bTuple_tup, bListS_tup, bListS_tl, dIdx_tl, extOf_tup, extOf_tl, lstOf_tl, lstOf_ref, lstAt_push, dicAt_push, lstAt_push_set, lstAt_push1, lstAt_push1_set, lstAt_push2, lstAt_push2_set, items_tl, items_tup, List.length_append, atI3, atI4, atI5, cEq_int, cNe_int, atI0, atI1, atI2, tag_non, tag_bl, tag_int, tag_str, tag_tup, tag_tl, tag_sl, isTag, reduceCtorEq, decide_true, decide_false, tru_non, tru_bl, tru_int, tru_tup, tru_tl, tru_sl, Bool.false_eq_true, if_true, if_false, reduceIte, Int.cast_ofNat_Int, cast0, cast1, Int.reduceEq, Int.reduceLE, Int.reduceLT, Int.reduceToNat, Int.reduceAdd, Int.reduceSub, Int.reduceNeg, cLt_int, cLe_int, cGt_int, cGe_int, and_self, rangeD_zero, rangeD_succ, Option.isSome_some, Option.isSome_none, List.isEmpty_nil, List.isEmpty_cons])
local macro_rules | `(tactic| walk_at "evs") => `(tactic| simp only [↓ev_bin, ↓kbin, ↓kbin2, ↓kv, ↓kbl, ↓ev_cmp, ↓kcmp, ↓kcmp2, ↓ev_chain, ↓kch, ↓kch2, kch3_t, kch3_f, ↓ev_cons, ↓kcons, ↓kcons2, ↓ev_tup, ↓ktup, ↓ev_lst, ↓klst, ↓ev_lstS, ↓klstS, ↓ev_neg, ↓kneg, ↓ev_or, ↓kor, kor2_t, kor2_f, ↓ev_and, ↓kand, kand2_t, kand2_f, ↓ev_not, ↓knot, ↓knt, kif_t, kif_f, ↓ev_ite, ↓ev_oSome, ↓kos, ↓ev_cut, ↓kcut, ↓kcut2, ↓kcut3, ↓ev_call, ↓kcall, ↓ev_blt, ↓kblt, ↓ev_isi, ↓kisi, ↓ktg, ↓ev_rev, ↓krev, ↓ev_addS, ↓kas, ↓kas2, ↓kas25, ↓kas3, ↓kfn_rt, ↓kfn_nx, ↓ev_tcmp, ↓ktc, ↓ktc2, ↓ev_tchain, ↓ktch, ↓ev_tru, ↓ktru, ↓ev_tand, ktand_t, ktand_f, ↓ev_tor, ktor_t, ktor_f, ↓ev_tnot, ↓ktnot, ↓ev_tite, ↓ev_seq, kt_nx, kt_rt, kt_bk, kt_ct, ↓ev_ret, ↓kret, ↓ev_expr, ↓kexpr, ↓ev_set, ↓kset, ↓knx, ↓ev_asg, ↓kasg, ↓ev_if, ↓ev_put, ↓kput, ↓kput1, ↓kputs, ↓kput2, ↓ev_aug, ↓kaug, ↓kaug2, ↓kaug3, ↓ev_app, ↓kapp, ↓kapp15, ↓kapp2, ↓kapp3, ↓ev_ext, ↓kext, ↓kext15, ↓kext2, ↓kext3, ↓kext4, ↓ev_for, ↓kfor, kinv_nx, kinv_ct, kinv_bk, kinv_rt, ↓kturn, ↓ev_ival, ↓kiv, ↓ev_range1, ↓kr1, ↓ktl, ↓ev_comp, ↓kcomp, ↓ev_comp_nil, ↓ev_comp_cons, ↓kcp, kcp1_t, kcp1_f, ↓kcp2, ↓kcp3, wipe_nil, wipe_cons,
  fv0, fvS, fcon, fnil, ev_oNone, ev_dicN, ev_disp, ev_tyes, snil, spass, sbrk, scnt, sretn, wp_some, ob_some, cd_true,
  List.map_cons, List.map_nil, List.replicate, List.cons_append, List.nil_append, List.append_nil, List.set_cons_zero, List.set_cons_succ, List.length_cons, List.length_nil, Nat.reduceSub, Nat.reduceAdd, Nat.reduceLeDiff, Nat.zero_add, Nat.zero_le, Bool.not_true, Bool.not_false, gSet, gTupF, gConsF, gNilF, dAdd_int, dSub_int, dIdx_tup, dCut_tup, dCut_tl, dRev_tup, bLen_tup, bLen_tl, bList_tup, bList_tl, bTuple_tl, bTuple_tup, bListS_tup, bListS_tl, dIdx_tl, extOf_tup, extOf_tl, lstOf_tl, lstOf_ref, lstAt_push, dicAt_push, lstAt_push_set, lstAt_push1, lstAt_push1_set, lstAt_push2, lstAt_push2_set, items_tl, items_tup, dAdd_tup, dAdd_tl, List.length_append, atI3, atI4, atI5, cEq_int, cNe_int, atI0, atI1, atI2, tag_non, tag_bl, tag_int, tag_str, tag_tup, tag_tl, tag_sl, isTag, reduceCtorEq, decide_true, decide_false, tru_non, tru_bl, tru_int, tru_tup, tru_tl, tru_sl, Bool.false_eq_true, if_true, if_false, reduceIte, Int.cast_ofNat_Int, cast0, cast1, Int.reduceEq, Int.reduceLE, Int.reduceLT, Int.reduceToNat, Int.reduceAdd, Int.reduceSub, Int.reduceNeg, cLt_int, cLe_int, cGt_int, cGe_int, and_self, rangeD_zero, rangeD_succ, Option.isSome_some, Option.isSome_none, List.isEmpty_nil, List.isEmpty_cons, *])
theorem dMul_one {x : D} {k : Nat} (hk : k ≤ 10) {st : Store} : dMul (.tl [x]) (.int k) st = some (.tl (List.replicate k x)) := by
  rw [dMul_tlc (by simp) (by omega)]
  congr 2
  induction k with
  | zero => rfl
  | succ k ih => rw [List.replicate_succ, List.flatten_cons, ih (by omega)]; rfl
theorem Fr.len {n : Nat} {a b : Store} (h : Vm.Fr n a b) (hn : n < a.length) : a.length ≤ b.length := by
  rcases Nat.lt_or_ge b.length a.length with z | z
  · by_cases e : b.length = n
    · have := h.fd.lt
      omega
    · have := h.keep b.length _ e (List.getElem?_eq_getElem z)
      rw [List.getElem?_eq_none (Nat.le_refl _)] at this
      cases this
  · exact z
/-- a side that is changed -/
structure Ch (W E L Lq : Nat) (d : D) : Prop where
  fx : Fx W E d
  ls : ∀ c, d = .tup c → c.length ≤ L ∧ ∀ q, .tup q ∈ c → q.length ≤ Lq
noncomputable def T_bent : FS := (sSeq (sSet 6 (fCall 2 F__law_take (fCons (fVar 0) (fCons (fBin dAdd (fBlt bLen (fCons (fVar 5) (fNil))) (fCon (.int 1))) (fNil)))))
  (sSeq (sSet 7 (fBin dIdx (fBin dAdd (fVar 5) (fTup (fCons (fTup (fCons (fCon (.str "cell")) (fCons (fBin dIdx (fVar 2) (fCon (.int 0))) (fCons (fBin dIdx (fVar 2) (fCon (.int 1))) (fCons (fCon (.int 0)) (fNil)))))) (fNil)))) (fVar 6)))
  (sSeq (sSet 8 (fBin dMul (fLst (fCons (fVar 7) (fNil))) (fCall 2 F__law_pick (fCons (fVar 0) (fCons (fLst (fCons (fCon (.int 2)) (fCons (fCon (.int 5)) (fCons (fCon (.int 6)) (fNil))))) (fNil))))))
  (sSeq (sSet 9 (fLstS (fCons (fBin dAdd (fBin dAdd (fCut (fVar 5) (oNone) (oSome (fVar 6))) (fTup (fCons (fCall 4 F__law_bent_item (fCons (fVar 0) (fCons (fVar 7) (fCons (fVar 2) (fCons (fVar 3) (fNil)))))) (fNil)))) (fCut (fVar 5) (oSome (fBin dAdd (fVar 6) (fCon (.int 1)))) (oNone))) (fCons (fBin dAdd (fVar 5) (fBlt bTuple (fCons (fVar 8) (fNil)))) (fNil)))))
  (sSeq (sSet 9 (fAddS (fVar 9) (fLst (fCons (fBin dAdd (fBin dAdd (fCut (fVar 5) (oNone) (oSome (fVar 6))) (fBin dIdx (fVar 1) (fBin dSub (fCon (.int 1)) (fVar 4)))) (fCut (fVar 5) (oSome (fVar 6)) (oNone))) (fCons (fBlt bList (fCons (fVar 5) (fNil))) (fCons (fCon .non) (fNil)))))))
  (sSeq (sApp (fVar 9) (fBin dAdd (fCut (fVar 5) (oNone) (oSome (fVar 6))) (fCut (fVar 5) (oSome (fBin dAdd (fVar 6) (fCon (.int 1)))) (oNone))))
  (sSeq (sSet 9 (fCall 2 F__law_pick (fCons (fVar 0) (fCons (fBin dAdd (fVar 9) (fLst (fCons (fCut (fBin dAdd (fVar 5) (fBlt bTuple (fCons (fVar 8) (fNil)))) (oNone) (oSome (fBin dSub (fCon (.int 6)) (fVar 4)))) (fNil)))) (fNil)))))
  (sSeq (sSet 10 (fBin dIdx (fLst (fCons (fTup (fCons (fVar 9) (fCons (fBin dIdx (fVar 1) (fCon (.int 1))) (fNil)))) (fCons (fTup (fCons (fBin dIdx (fVar 1) (fCon (.int 0))) (fCons (fVar 9) (fNil)))) (fNil)))) (fVar 4)))
  (sRet (fCall 2 F__law_pick (fCons (fVar 0) (fCons (fLst (fCons (fVar 10) (fCons (fVar 10) (fCons (fVar 10) (fCons (fVar 10) (fCons (fBlt bList (fCons (fVar 10) (fNil))) (fCons (fBin dAdd (fVar 10) (fTup (fCons (fTup (fNil)) (fNil)))) (fCons (fCut (fVar 10) (oNone) (oSome (fCon (.int 1)))) (fCons (fTup (fCons (fVar 10) (fNil))) (fCons (fRev (fVar 1)) (fNil))))))))))) (fNil)))))))))))))
theorem T_bent_ok {st : Store} {n W E Ls Lq : Nat} {ps fs its oth : List D} {B : D → List D} {i : Int} {n0 n1 n2 n3 r0 r1 r2 r3 : D} (h : Fd n st) (hps : Fxs W E ps) (hfs : Fxs W E fs) (hpl : ps.length ≤ Ls) (hfl : fs.length ≤ Ls) (hit : Fxs W E its) (hot : Fxs W E oth) (hil : its.length ≤ Ls) (hol : oth.length ≤ Ls)
    (hT : ∀ x ∈ its, ∃ q, x = .tup q ∧ q.length ≤ Lq) (hO : ∀ x ∈ oth, ∃ q, x = .tup q ∧ q.length ≤ Lq) (hL : 4 ≤ Lq) (hL2 : Lq ≤ 20) (hLs : Ls ≤ 40) (hn0 : isNm n0 = true) (hn1 : isNm n1 = true) (hr0 : isNm r0 = true)
    (i0 : 0 ≤ i) (i1 : i ≤ 1) (a2 : L2.atI [D.tup ps, .tup fs] (1 - i) = some (.tup oth)) (a3 : ∀ ch, L2.atI [D.tup [ch, .tup fs], .tup [.tup ps, ch]] i = some (.tup (B ch))) (hB : ∀ ch, (B ch).length = 2) :
    Wp (T_bent [some (.ref n), some (.tup [.tup ps, .tup fs]), some (.tl [n0, n1, n2, n3]), some (.tl [r0, r1, r2, r3]), some (.int i), some (.tup its), none, none, none, none, none] st) fun o st' => ∃ ch d, o = .rt d ∧ Ch (7 * W + 1000) (max (E + 3) 7) (3 * Ls + 7) (Lq + 1) ch ∧ (d = .tup (B ch) ∨ d = .tl (B ch) ∨ d = .tup (B ch ++ [.tup []]) ∨ d = .tup (Vm.cutD (B ch) none (some 1)) ∨ d = .tup [.tup (B ch)] ∨ d = .tup [.tup fs, .tup ps]) ∧ Fr n st st' := by
  unfold T_bent
  rw [e_pick, e_take]
  walk_at "evo"
  refine (take_ok h (by omega) (by omega)).mono fun d s1 hd => ?_
  obtain ⟨r, rfl, b0, b1, g1⟩ := hd
  walk_at "evo"
  obtain ⟨it, e1, hm1⟩ := atI_of (xs := its ++ [D.tup [.str "cell", n0, n1, .int 0]]) b0 (by simp; omega)
  have hitq : ∃ q, it = .tup q ∧ q.length ≤ Lq ∧ Fxs (W + 100) E q := by
    rcases List.mem_append.mp hm1 with q | q
    · obtain ⟨q', rfl, hl⟩ := hT it q
      exact ⟨q', rfl, hl, (hit.mem q).ofTup.1.mono (by omega) (by omega)⟩
    · obtain rfl := List.mem_singleton.mp q
      have f0 := Fx.nm hn0
      have f1 := Fx.nm hn1
      exact ⟨_, rfl, by simp; omega, (Fxs.cons (fx_con (W := 5) (E := 0) (by decide +kernel)) (Fxs.cons f0 (Fxs.cons f1 (Fxs.cons (fx_con (W := 30) (E := 0) (by decide +kernel)) Fxs.nil)))).mono (by omega) (by omega)⟩
  obtain ⟨q, rfl, hql, hq⟩ := hitq
  rw [e1]
  walk_at "evo"
  refine (pick_tl g1.fd (by simp) (by simp)).mono fun k s2 hd => ?_
  obtain ⟨m2, g2⟩ := hd
  obtain ⟨k, rfl, hk⟩ : ∃ k' : Nat, k = .int k' ∧ k' ≤ 6 := by
    simp only [List.mem_cons, List.not_mem_nil, or_false] at m2
    rcases m2 with rfl | rfl | rfl
    · exact ⟨2, rfl, by omega⟩
    · exact ⟨5, rfl, by omega⟩
    · exact ⟨6, rfl, by omega⟩
  have e2 := fun st => dMul_one (x := .tup q) (k := k) (st := st) (by omega)
  have lA := cutD_length its none (some r)
  have lB := cutD_length its (some (r + 1)) none
  have lC := cutD_length its (some r) none
  walk_at "evo"
  rw [e2]
  walk_at "evo"
  refine (bent_item_ok g2.fd hq hql hL hL2 hn0 hn1 hr0).mono fun bi s3 hd => ?_
  obtain ⟨⟨w3, v3⟩, g3⟩ := hd
  walk_at "evo"
  rw [a2]
  walk_at "evo"
  rw [dAdd_refc lstAt_push1_set (by simp)]
  have g4 : Fr n st _ := ((((g1.trans g2).trans g3).push (o := O.lst
              [D.tup (Vm.cutD its none (some r) ++ [bi] ++ Vm.cutD its (some (r + 1)) none),
                D.tup (its ++ List.replicate k (D.tup q))])).push (o := O.lst
            [D.tup (Vm.cutD its none (some r) ++ [bi] ++ Vm.cutD its (some (r + 1)) none),
              D.tup (its ++ List.replicate k (D.tup q)),
              D.tup (Vm.cutD its none (some r) ++ oth ++ Vm.cutD its (some r) none), D.tl its, D.non])).setN (m := s3.length + 1) (o := O.lst
          [D.tup (Vm.cutD its none (some r) ++ [bi] ++ Vm.cutD its (some (r + 1)) none),
            D.tup (its ++ List.replicate k (D.tup q)),
            D.tup (Vm.cutD its none (some r) ++ oth ++ Vm.cutD its (some r) none), D.tl its, D.non,
            D.tup (Vm.cutD its none (some r) ++ Vm.cutD its (some (r + 1)) none)]) (by have := Fr.len ((g1.trans g2).trans g3) h.lt; omega) h.lt
  walk_at "ev"
  refine (pick_tl g4.fd (by simp) (by simp)).mono fun ch s4 hd => ?_
  obtain ⟨m4, g5⟩ := hd
  have c2 := hB ch
  walk_at "evo"
  rw [a3]
  walk_at "evo"
  refine (pick_tl g5.fd (by simp) (by simp)).mono fun d s5 hd => ?_
  obtain ⟨m5, g6⟩ := hd
  refine ⟨ch, d, rfl, ?_, ?_, (g4.trans g5).trans g6⟩
  · have cA := hit.cut none (some r)
    have cB := hit.cut (some (r + 1)) none
    have cC := hit.cut (some r) none
    have lAB := cutD_lo (xs := its) b0
    have hqt : Fx (W + 100) (E + 1) (.tup q) := Fx.tup hq (by omega)
    have hre := Fxs.same hqt k
    have cM := hit.append hre
    have kM : k * (W + 100 + 1) ≤ 6 * (W + 100 + 1) := Nat.mul_le_mul_right _ hk
    have lM : (its ++ List.replicate k (D.tup q)).length ≤ Ls + 6 := by simp; omega
    have cM6 := cM.cut none (some (6 - i))
    have lM6 := cutD_length (its ++ List.replicate k (D.tup q)) none (some (6 - i))
    have T : ∀ x, x ∈ its → ∀ q', x = .tup q' → q'.length ≤ Lq + 1 := fun x hx q' e => by
      obtain ⟨q2, e2, hl⟩ := hT x hx
      rw [e] at e2
      cases e2
      omega
    have TO : ∀ x, x ∈ oth → ∀ q', x = .tup q' → q'.length ≤ Lq + 1 := fun x hx q' e => by
      obtain ⟨q2, e2, hl⟩ := hO x hx
      rw [e] at e2
      cases e2
      omega
    have TM : ∀ x, x ∈ its ++ List.replicate k (D.tup q) → ∀ q', x = .tup q' → q'.length ≤ Lq + 1 := fun x hx q' e => by
      rcases List.mem_append.mp hx with hx | hx
      · exact T x hx q' e
      · rw [List.mem_replicate] at hx
        rw [hx.2] at e
        cases e
        omega
    have mk : ∀ (ds : List D) (W' E' : Nat), Fxs W' E' ds → ds.length ≤ 3 * Ls + 7 → W' ≤ 7 * W + 1000 → E' ≤ max (E + 2) 6 → (∀ x ∈ ds, ∀ q', x = .tup q' → q'.length ≤ Lq + 1) → Ch (7 * W + 1000) (max (E + 3) 7) (3 * Ls + 7) (Lq + 1) (.tup ds) := fun ds W' E' h1 h2 h3 h4 h5 => ⟨(Fx.tup h1 (by omega)).mono h3 (by omega), fun c e => by
      cases e
      exact ⟨h2, fun q hq => h5 _ hq q rfl⟩⟩
    have sub := fun {lo hi x} (h : x ∈ Vm.cutD its lo hi) => T x (cutD_mem h)
    simp only [List.mem_append, List.mem_cons, List.not_mem_nil, or_false, List.append_assoc] at m4
    rcases m4 with rfl | rfl | rfl | rfl | rfl | rfl | rfl
    · refine mk _ _ _ (cA.append (Fxs.cons w3 cB)) (by simp; omega) (by omega) (by omega) fun x hx q' e => ?_
      rcases List.mem_append.mp hx with hx | hx
      · exact sub hx q' e
      · rcases List.mem_cons.mp hx with rfl | hx
        · exact v3 q' e
        · exact sub hx q' e
    · exact mk _ _ _ cM (by omega) (by omega) (by omega) TM
    · refine mk _ _ _ (cA.append (hot.append cC)) (by simp; omega) (by omega) (by omega) fun x hx q' e => ?_
      rcases List.mem_append.mp hx with hx | hx
      · exact sub hx q' e
      · rcases List.mem_append.mp hx with hx | hx
        · exact TO x hx q' e
        · exact sub hx q' e
    · exact ⟨(Fx.tl hit (by omega)).mono (by omega) (by omega), fun c e => by cases e⟩
    · exact ⟨Fx.non.mono (by omega) (by omega), fun c e => by cases e⟩
    · refine mk _ _ _ (cA.append cB) (by simp; omega) (by omega) (by omega) fun x hx q' e => ?_
      rcases List.mem_append.mp hx with hx | hx
      · exact sub hx q' e
      · exact sub hx q' e
    · exact mk _ _ _ cM6 (by omega) (by omega) (by omega) fun x hx => TM x (cutD_mem hx)
  · simp only [List.mem_cons, List.not_mem_nil, or_false] at m5
    rcases m5 with rfl | rfl | rfl | rfl | rfl | rfl | rfl | rfl | rfl
    · exact .inl rfl
    · exact .inl rfl
    · exact .inl rfl
    · exact .inl rfl
    · exact .inr (.inl rfl)
    · exact .inr (.inr (.inl rfl))
    · exact .inr (.inr (.inr (.inl rfl)))
    · exact .inr (.inr (.inr (.inr (.inl rfl))))
    · exact .inr (.inr (.inr (.inr (.inr rfl))))
theorem bent_eq : B__law_bent = sSeq (sSet 4 (fCall 2 F__law_take (fCons (fVar 0) (fCons (fCon (.int 2)) (fNil))))) (sSeq (sSet 5 (fBin dIdx (fVar 1) (fVar 4))) T_bent) := rfl
/-- what may be bent -/
def Bendy (ps fs : List D) : Prop := ∀ x ∈ ps ++ fs, ∃ q, x = .tup q ∧ q ≠ []
theorem bent_ok {st : Store} {n W E Ls Lq : Nat} {ps fs : List D} {n0 n1 n2 n3 r0 r1 r2 r3 : D} (h : Fd n st) (hth : Th W E Ls Lq (.tup [.tup ps, .tup fs])) (hb : Bendy ps fs) (hL : 4 ≤ Lq) (hL2 : Lq ≤ 20) (hLs : Ls ≤ 40) (hE : 5 ≤ E) (hn0 : isNm n0 = true) (hn1 : isNm n1 = true) (hr0 : isNm r0 = true) :
    Wp (F__law_bent [.ref n, .tup [.tup ps, .tup fs], .tl [n0, n1, n2, n3], .tl [r0, r1, r2, r3]] st) fun d st' => Th (8 * W + 2000) (E + 6) (3 * Ls + 7) (Lq + 1) d ∧ Fr n st st' := by
  obtain ⟨hpl, hfl, hq⟩ := hth.ls ps fs rfl
  have h0 := hth.fx.ofTup.1
  have p0 := (h0.mem (d := .tup ps) (by simp)).ofTup
  have f0 := (h0.mem (d := .tup fs) (by simp)).ofTup
  have hps : Fxs W E ps := p0.1.mono (by omega) (by omega)
  have hfs : Fxs W E fs := f0.1.mono (by omega) (by omega)
  have hP : ∀ x ∈ ps, ∃ q, x = .tup q ∧ q.length ≤ Lq := fun x hx => by
    obtain ⟨q, rfl, _⟩ := hb x (List.mem_append_left _ hx)
    exact ⟨q, rfl, hq q (List.mem_append_left _ hx)⟩
  have hF : ∀ x ∈ fs, ∃ q, x = .tup q ∧ q.length ≤ Lq := fun x hx => by
    obtain ⟨q, rfl, _⟩ := hb x (List.mem_append_right _ hx)
    exact ⟨q, rfl, hq q (List.mem_append_right _ hx)⟩
  unfold F__law_bent
  rw [ev_fn, bent_eq, e_take]
  refine ⟨rfl, ?_⟩
  have T0 := fun {s} (hs : Fd n s) => @T_bent_ok s n W E Ls Lq ps fs ps fs (fun ch => [ch, .tup fs]) 0 n0 n1 n2 n3 r0 r1 r2 r3 hs hps hfs hpl hfl hps hfs hpl hfl hP hF hL hL2 hLs hn0 hn1 hr0 (by omega) (by omega) rfl (fun _ => rfl) (fun _ => rfl)
  have T1 := fun {s} (hs : Fd n s) => @T_bent_ok s n W E Ls Lq ps fs fs ps (fun ch => [.tup ps, ch]) 1 n0 n1 n2 n3 r0 r1 r2 r3 hs hps hfs hpl hfl hfs hps hfl hpl hF hP hL hL2 hLs hn0 hn1 hr0 (by omega) (by omega) rfl (fun _ => rfl) (fun _ => rfl)
  generalize T_bent = TB at T0 T1 ⊢
  walk_at "ev"
  refine (take_ok h (m := 2) (by omega) (by omega)).mono fun d s1 hd => ?_
  obtain ⟨r, rfl, b0, b1, g1⟩ := hd
  -- what comes of the sides
  have fin : ∀ (ch d : D) (B : List D), (B = [ch, .tup fs] ∨ B = [.tup ps, ch]) → Ch (7 * W + 1000) (max (E + 3) 7) (3 * Ls + 7) (Lq + 1) ch → (d = .tup B ∨ d = .tl B ∨ d = .tup (B ++ [.tup []]) ∨ d = .tup (Vm.cutD B none (some 1)) ∨ d = .tup [.tup B] ∨ d = .tup [.tup fs, .tup ps]) → Th (8 * W + 2000) (E + 6) (3 * Ls + 7) (Lq + 1) d := by
    intro ch d B hB hc hd
    have hB2 : Fxs (8 * W + 1002) (max (E + 3) 7) B := by
      have w1 : wt (.tup fs) + wt (.tup ps) + 2 ≤ W := by
        have := h0.w
        simp only [wts] at this
        omega
      have q1 : Fx W (E - 1) (.tup ps) := h0.mem (by simp)
      have q2 : Fx W (E - 1) (.tup fs) := h0.mem (by simp)
      rcases hB with rfl | rfl
      · exact (Fxs.cons hc.fx (Fxs.cons q2 Fxs.nil)).mono (by omega) (by omega)
      · exact (Fxs.cons q1 (Fxs.cons hc.fx Fxs.nil)).mono (by omega) (by omega)
    have hBl : B.length = 2 := by rcases hB with rfl | rfl <;> rfl
    have hTB : Fx (8 * W + 1002) (max (E + 3) 7 + 1) (.tup B) := Fx.tup hB2 (by omega)
    have old : ∀ c : List D, c = ps ∨ c = fs → c.length ≤ 3 * Ls + 7 ∧ ∀ q, .tup q ∈ c → q.length ≤ Lq + 1 := by
      rintro c (rfl | rfl)
      · exact ⟨by omega, fun q hq' => by have := hq q (List.mem_append_left _ hq'); omega⟩
      · exact ⟨by omega, fun q hq' => by have := hq q (List.mem_append_right _ hq'); omega⟩
    have lsok : ∀ c c' : List D, (c.length ≤ 3 * Ls + 7 ∧ ∀ q, .tup q ∈ c → q.length ≤ Lq + 1) → (c'.length ≤ 3 * Ls + 7 ∧ ∀ q, .tup q ∈ c' → q.length ≤ Lq + 1) → c.length ≤ 3 * Ls + 7 ∧ c'.length ≤ 3 * Ls + 7 ∧ ∀ q, .tup q ∈ c ++ c' → q.length ≤ Lq + 1 := fun c c' h1 h2 => ⟨h1.1, h2.1, fun q hq => by
      rcases List.mem_append.mp hq with q' | q'
      · exact h1.2 q q'
      · exact h2.2 q q'⟩
    rcases hd with rfl | rfl | rfl | rfl | rfl | rfl
    · refine ⟨hTB.mono (by omega) (by omega), fun a b e => ?_⟩
      rcases hB with rfl | rfl
      · cases e
        exact lsok _ _ (hc.ls _ rfl) (old _ (.inr rfl))
      · cases e
        exact lsok _ _ (old _ (.inl rfl)) (hc.ls _ rfl)
    · exact ⟨(Fx.tl hB2 (by omega)).mono (by omega) (by omega), fun a b e => by cases e⟩
    · refine ⟨(Fx.tup (hB2.append (Fxs.cons (Fx.tup Fxs.nil (by simp)) Fxs.nil)) (by simp; omega)).mono (by omega) (by omega), fun a b e => ?_⟩
      rcases hB with rfl | rfl <;> cases e
    · refine ⟨(Fx.tup (hB2.cut none (some 1)) (by have := cutD_length B none (some 1); omega)).mono (by omega) (by omega), fun a b e => ?_⟩
      have := congrArg (fun d => match d with | D.tup l => l.length | _ => 0) e
      have l1 := (cutD_lo (xs := B) (i := 1) (by omega)).1
      simp at this l1
      omega
    · exact ⟨(Fx.tup (Fxs.cons hTB Fxs.nil) (by simp)).mono (by omega) (by omega), fun a b e => by cases e⟩
    · have q1 : Fx W (E - 1) (.tup ps) := h0.mem (by simp)
      have q2 : Fx W (E - 1) (.tup fs) := h0.mem (by simp)
      refine ⟨(Fx.tup (Fxs.cons q2 (Fxs.cons q1 Fxs.nil)) (by simp)).mono (by omega) (by omega), fun a b e => ?_⟩
      cases e
      exact lsok _ _ (old _ (.inr rfl)) (old _ (.inl rfl))
  obtain rfl | rfl : r = 0 ∨ r = 1 := by omega
  · walk_at "ev"
    refine (T0 g1.fd).mono fun o s2 ho => ?_
    obtain ⟨ch, d, rfl, c1, c2, g2⟩ := ho
    exact ⟨fin ch d _ (.inl rfl) c1 c2, g1.trans g2⟩
  · walk_at "ev"
    refine (T1 g1.fd).mono fun o s2 ho => ?_
    obtain ⟨ch, d, rfl, c1, c2, g2⟩ := ho
    exact ⟨fin ch d _ (.inr rfl) c1 c2, g1.trans g2⟩
end k03
namespace k03
open PySem PySem.Spec PyProof.Rows L2 Vm
local macro_rules | `(tactic| walk_at "ev") => `(tactic| simp only [↓ev_bin, ↓kbin, ↓kbin2, ↓kv, ↓kbl, ↓ev_cmp, ↓kcmp, ↓kcmp2, ↓ev_chain, ↓kch, ↓kch2, kch3_t, kch3_f, ↓ev_cons, ↓kcons, ↓kcons2, ↓ev_tup, ↓ktup, ↓ev_lst, ↓klst, ↓ev_lstS, ↓klstS, ↓ev_neg, ↓kneg, ↓ev_or, ↓kor, kor2_t, kor2_f, ↓ev_and, ↓kand, kand2_t, kand2_f, ↓ev_not, ↓knot, ↓knt, kif_t, kif_f, ↓ev_ite, ↓ev_oSome, ↓kos, ↓ev_cut, ↓kcut, ↓kcut2, ↓kcut3, ↓ev_call, ↓kcall, ↓ev_blt, ↓kblt, ↓ev_isi, ↓kisi, ↓ktg, ↓ev_rev, ↓krev, ↓ev_addS, ↓kas, ↓kas2, ↓kas25, ↓kas3, ↓kfn_rt, ↓kfn_nx, ↓ev_tcmp, ↓ktc, ↓ktc2, ↓ev_tchain, ↓ktch, ↓ev_tru, ↓ktru, ↓ev_tand, ktand_t, ktand_f, ↓ev_tor, ktor_t, ktor_f, ↓ev_tnot, ↓ktnot, ↓ev_tite, ↓ev_seq, kt_nx, kt_rt, kt_bk, kt_ct, ↓ev_ret, ↓kret, ↓ev_expr, ↓kexpr, ↓ev_set, ↓kset, ↓knx, ↓ev_asg, ↓kasg, ↓ev_if, ↓ev_put, ↓kput, ↓kput1, ↓kputs, ↓kput2, ↓ev_aug, ↓kaug, ↓kaug2, ↓kaug3, ↓ev_app, ↓kapp, ↓kapp15, ↓kapp2, ↓kapp3, ↓ev_ext, ↓kext, ↓kext15, ↓kext2, ↓kext3, ↓kext4, ↓ev_for, ↓kfor, kinv_nx, kinv_ct, kinv_bk, kinv_rt, ↓kturn, ↓ev_ival, ↓kiv, ↓ev_range1, ↓kr1, ↓ktl, ↓ev_comp, ↓kcomp, ↓ev_comp_nil, ↓ev_comp_cons, ↓kcp, kcp1_t, kcp1_f, ↓kcp2, ↓kcp3, wipe_nil, wipe_cons,
  fv0, fvS, fcon, fnil, ev_oNone, ev_dicN, ev_disp, ev_tyes, snil, spass, sbrk, scnt, sretn, wp_some, ob_some, cd_true,
  List.map_cons, List.map_nil, List.replicate, List.cons_append, List.nil_append, List.append_nil, List.set_cons_zero, List.set_cons_succ, List.length_cons, List.length_nil, Nat.reduceSub, Nat.reduceAdd, Nat.reduceLeDiff, Nat.zero_add, Nat.zero_le, Bool.not_true, Bool.not_false, gSet, gTupF, gConsF, gNilF, dAdd_int, dSub_int, dIdx_tup, dCut_tup, dCut_tl, dRev_tup, bLen_tup, bLen_tl, bList_tup, bList_tl, bTuple_tl, bTuple_tup, bListS_tup, bListS_tl, dIdx_tl, extOf_tup, extOf_tl, lstOf_tl, lstOf_ref, lstAt_push, dicAt_push, lstAt_push_set, lstAt_push1, lstAt_push1_set, lstAt_push2, lstAt_push2_set, items_tl, items_tup, dAdd_tup, dAdd_tl, List.length_append, atI3, atI4, atI5, cEq_int, cNe_int, atI0, atI1, atI2, tag_non, tag_bl, tag_int, tag_str, tag_tup, tag_tl, tag_sl, isTag, reduceCtorEq, decide_true, decide_false, tru_non, tru_bl, tru_int, tru_tup, tru_tl, tru_sl, Bool.false_eq_true, if_true, if_false, reduceIte, Int.cast_ofNat_Int, cast0, cast1, Int.reduceEq, Int.reduceLE, Int.reduceLT, Int.reduceToNat, Int.reduceAdd, Int.reduceSub, Int.reduceNeg, cLt_int, cLe_int, cGt_int, cGe_int, and_self, rangeD_zero, rangeD_succ, Option.isSome_some, Option.isSome_none, List.isEmpty_nil, List.isEmpty_cons])
local macro_rules | `(tactic| walk_at "evo") => `(tactic| simp (disch := first | assumption | ((try simp only [List.length_append, List.length_cons, List.length_nil, List.length_replicate]) <;> omega) | fail) only [cd_pos, dAdd_tupc, dAdd_tlc, dAdd_refc, dAdd_tlrefc, items_ref, bTuple_ref, bLen_ref, dIdx_ref, extOf_ref, tru_ref, ↓ev_bin, ↓kbin, ↓kbin2, ↓kv, ↓kbl, ↓ev_cmp, ↓kcmp, ↓kcmp2, ↓ev_chain, ↓kch, ↓kch2, kch3_t, kch3_f, ↓ev_cons, ↓kcons, ↓kcons2, ↓ev_tup, ↓ktup, ↓ev_lst, ↓klst, ↓ev_lstS, ↓klstS, ↓ev_neg, ↓kneg, ↓ev_or, ↓kor, kor2_t, kor2_f, ↓ev_and, ↓kand, kand2_t, kand2_f, ↓ev_not, ↓knot, ↓knt, kif_t, kif_f, ↓ev_ite, ↓ev_oSome, ↓kos, ↓ev_cut, ↓kcut, ↓kcut2, ↓kcut3, ↓ev_call, ↓kcall, ↓ev_blt, ↓kblt, ↓ev_isi, ↓kisi, ↓ktg, ↓ev_rev, ↓krev, ↓ev_addS, ↓kas, ↓kas2, ↓kas25, ↓kas3, ↓kfn_rt, ↓kfn_nx, ↓ev_tcmp, ↓ktc, ↓ktc2, ↓ev_tchain, ↓ktch, ↓ev_tru, ↓ktru, ↓ev_tand, ktand_t, ktand_f, ↓ev_tor, ktor_t, ktor_f, ↓ev_tnot, ↓ktnot, ↓ev_tite, ↓ev_seq, kt_nx, kt_rt, kt_bk, kt_ct, ↓ev_ret, ↓kret, ↓ev_expr, ↓kexpr, ↓ev_set, ↓kset, ↓knx, ↓ev_asg, ↓kasg, ↓ev_if, ↓ev_put, ↓kput, ↓kput1, ↓kputs, ↓kput2, ↓ev_aug, ↓kaug, ↓kaug2, ↓kaug3, ↓ev_app, ↓kapp, ↓kapp15, ↓kapp2, ↓kapp3, ↓ev_ext, ↓kext, ↓kext15, ↓kext2, ↓kext3, ↓kext4, ↓ev_for, ↓kfor, kinv_nx, kinv_ct, kinv_bk, kinv_rt, ↓kturn, ↓ev_ival, ↓kiv, ↓ev_range1, ↓kr1, ↓ktl, ↓ev_comp, ↓kcomp, ↓ev_comp_nil, ↓ev_comp_cons, ↓kcp, kcp1_t, kcp1_f, ↓kcp2, ↓kcp3, wipe_nil, wipe_cons,
  fv0, fvS, fcon, fnil, ev_oNone, ev_dicN, ev_disp, ev_tyes, snil, spass, sbrk, scnt, sretn, wp_some, ob_some, cd_true,
  List.map_cons, List.map_nil, List.replicate, List.cons_append, List.nil_append, List.append_nil, List.set_cons_zero, List.set_cons_succ, List.length_cons, List.length_nil, Nat.reduceSub, Nat.reduceAdd, Nat.reduceLeDiff, Nat.zero_add, Nat.zero_le, Bool.not_true, Bool.not_false, gSet, gTupF, gConsF, gNilF, dAdd_int, dSub_int, dIdx_tup, dCut_tup, dCut_tl, dRev_tup, bLen_tup, bLen_tl, bList_tup, bList_tl, bTuple_tl, bTuple_tup, bListS_tup, bListS_tl, dIdx_tl, extOf_tup, extOf_tl, lstOf_tl, lstOf_ref, lstAt_push, dicAt_push, lstAt_push_set, lstAt_push1, lstAt_push1_set, lstAt_push2, lstAt_push2_set, items_tl, items_tup, List.length_append, atI3, atI4, atI5, cEq_int, cNe_int, atI0, atI1, atI2, tag_non, tag_bl, tag_int, tag_str, tag_tup, tag_tl, tag_sl, isTag, reduceCtorEq, decide_true, decide_false, tru_non, tru_bl, tru_int, tru_tup, tru_tl, tru_sl, Bool.false_eq_true, if_true, if_false, reduceIte, Int.cast_ofNat_Int, cast0, cast1, Int.reduceEq, Int.reduceLE, Int.reduceLT, Int.reduceToNat, Int.reduceAdd, Int.reduceSub, Int.reduceNeg, cLt_int, cLe_int, cGt_int, cGe_int, and_self, rangeD_zero, rangeD_succ, Option.isSome_some, Option.isSome_none, List.isEmpty_nil, List.isEmpty_cons])
local macro_rules | `(tactic| walk_at "evs") => `(tactic| simp only [↓ev_bin, ↓kbin, ↓kbin2, ↓kv, ↓kbl, ↓ev_cmp, ↓kcmp, ↓kcmp2, ↓ev_chain, ↓kch, ↓kch2, kch3_t, kch3_f, ↓ev_cons, ↓kcons, ↓kcons2, ↓ev_tup, ↓ktup, ↓ev_lst, ↓klst, ↓ev_lstS, ↓klstS, ↓ev_neg, ↓kneg, ↓ev_or, ↓kor, kor2_t, kor2_f, ↓ev_and, ↓kand, kand2_t, kand2_f, ↓ev_not, ↓knot, ↓knt, kif_t, kif_f, ↓ev_ite, ↓ev_oSome, ↓kos, ↓ev_cut, ↓kcut, ↓kcut2, ↓kcut3, ↓ev_call, ↓kcall, ↓ev_blt, ↓kblt, ↓ev_isi, ↓kisi, ↓ktg, ↓ev_rev, ↓krev, ↓ev_addS, ↓kas, ↓kas2, ↓kas25, ↓kas3, ↓kfn_rt, ↓kfn_nx, ↓ev_tcmp, ↓ktc, ↓ktc2, ↓ev_tchain, ↓ktch, ↓ev_tru, ↓ktru, ↓ev_tand, ktand_t, ktand_f, ↓ev_tor, ktor_t, ktor_f, ↓ev_tnot, ↓ktnot, ↓ev_tite, ↓ev_seq, kt_nx, kt_rt, kt_bk, kt_ct, ↓ev_ret, ↓kret, ↓ev_expr, ↓kexpr, ↓ev_set, ↓kset, ↓knx, ↓ev_asg, ↓kasg, ↓ev_if, ↓ev_put, ↓kput, ↓kput1, ↓kputs, ↓kput2, ↓ev_aug, ↓kaug, ↓kaug2, ↓kaug3, ↓ev_app, ↓kapp, ↓kapp15, ↓kapp2, ↓kapp3, ↓ev_ext, ↓kext, ↓kext15, ↓kext2, ↓kext3, ↓kext4, ↓ev_for, ↓kfor, kinv_nx, kinv_ct, kinv_bk, kinv_rt, ↓kturn, ↓ev_ival, ↓kiv, ↓ev_range1, ↓kr1, ↓ktl, ↓ev_comp, ↓kcomp, ↓ev_comp_nil, ↓ev_comp_cons, ↓kcp, kcp1_t, kcp1_f, ↓kcp2, ↓kcp3, wipe_nil, wipe_cons,
  fv0, fvS, fcon, fnil, ev_oNone, ev_dicN, ev_disp, ev_tyes, snil, spass, sbrk, scnt, sretn, wp_some, ob_some, cd_true,
  List.map_cons, List.map_nil, List.replicate, List.cons_append, List.nil_append, List.append_nil, List.set_cons_zero, List.set_cons_succ, List.length_cons, List.length_nil, Nat.reduceSub, Nat.reduceAdd, Nat.reduceLeDiff, Nat.zero_add, Nat.zero_le, Bool.not_true, Bool.not_false, gSet, gTupF, gConsF, gNilF, dAdd_int, dSub_int, dIdx_tup, dCut_tup, dCut_tl, dRev_tup, bLen_tup, bLen_tl, bList_tup, bList_tl, bTuple_tl, bTuple_tup, bListS_tup, bListS_tl, dIdx_tl, extOf_tup, extOf_tl, lstOf_tl, lstOf_ref, lstAt_push, dicAt_push, lstAt_push_set, lstAt_push1, lstAt_push1_set, lstAt_push2, lstAt_push2_set, items_tl, items_tup, dAdd_tup, dAdd_tl, List.length_append, atI3, atI4, atI5, cEq_int, cNe_int, atI0, atI1, atI2, tag_non, tag_bl, tag_int, tag_str, tag_tup, tag_tl, tag_sl, isTag, reduceCtorEq, decide_true, decide_false, tru_non, tru_bl, tru_int, tru_tup, tru_tl, tru_sl, Bool.false_eq_true, if_true, if_false, reduceIte, Int.cast_ofNat_Int, cast0, cast1, Int.reduceEq, Int.reduceLE, Int.reduceLT, Int.reduceToNat, Int.reduceAdd, Int.reduceSub, Int.reduceNeg, cLt_int, cLe_int, cGt_int, cGe_int, and_self, rangeD_zero, rangeD_succ, Option.isSome_some, Option.isSome_none, List.isEmpty_nil, List.isEmpty_cons, *])
def isTupD : D → Bool
  | .tup _ => true
  | _ => false
theorem tagTup {d : D} (h : small d = true) (st : Store) : ∃ t, tagOf st d = some t ∧ isTag t .tup = isTupD d := by
  cases d with
  | ref n => simp [small] at h
  | ty n => simp [small] at h
  | _ => exact ⟨_, rfl, rfl⟩
theorem isi_tup {d : D} {env : En} {st : Store} {F : FE} (hF : F env st = some (d, st)) (h : small d = true) : fIsi .tup F env st = some (.bl (isTupD d), st) := by
  obtain ⟨t, h1, h2⟩ := tagTup h st
  apply wp_eq
  rw [ev_isi, hF, wp_some, kisi, h1, ob_some, ktg, h2]
  exact ⟨rfl, rfl⟩
theorem may_bend_ok {d : D} {st : Store} (h : small d = true) : Wp (F__law_may_bend [d] st) fun r s => ∃ b, r = .bl b ∧ (b = true → ∃ ps fs, d = .tup [.tup ps, .tup fs] ∧ Bendy ps fs) ∧ s = st := by
  unfold F__law_may_bend B__law_may_bend
  rw [ev_fn]
  refine ⟨rfl, ?_⟩
  cases d with
  | tup xs =>
    have hxl : xs.length ≤ 1000 := by simp only [small, Bool.and_eq_true, decide_eq_true_eq] at h; exact h.2
    by_cases hl : xs.length = 2
    · obtain ⟨a, b, rfl⟩ : ∃ a b, xs = [a, b] := by
        match xs, hl with
        | [a, b], _ => exact ⟨a, b, rfl⟩
      have hsm := h
      simp only [small, smalls, Bool.and_eq_true] at hsm
      obtain ⟨⟨ha, hb, _⟩, _⟩ := hsm
      have e1 : compN (fun _ => True) (gSet 2) tYesF (fIsi .tup (fVar 2)) [a, b] [some (.tup [a, b]), none, none] st = some (([a, b].map fun d => .bl (isTupD d)), st) := by
        rw [compN_map (f := fun d => .bl (isTupD d))]
        intro x hx
        have hxs : small x = true := by
          simp only [List.mem_cons, List.not_mem_nil, or_false] at hx
          rcases hx with rfl | rfl <;> assumption
        exact ⟨_, rfl, isi_tup rfl hxs⟩
      have e2 := cIn_bls' (p := isTupD) (st := st) false [a, b]
      have e3 : Wp (fComp [2] (iVal (fVar 0)) (gSet 2) tYesF (fIsi .tup (fVar 2)) [some (.tup [a, b]), none, none] st) fun r s => r = .tl ([a, b].map fun d => .bl (isTupD d)) ∧ s = st := by
        rw [ev_comp, ev_ival, fv0, wp_some, kiv, items_tup, ob_some, kv, kcomp]
        refine cd_of (by simp) ?_
        rw [wipe_cons, wipe_nil]
        show Wp (compN (fun _ => True) (gSet 2) tYesF (fIsi .tup (fVar 2)) [a, b] [some (.tup [a, b]), none, none] st) _
        rw [e1, wp_some, ktl]
        exact ⟨rfl, rfl⟩
      have e3 := wp_eq e3
      generalize fComp [2] (iVal (fVar 0)) (gSet 2) tYesF (fIsi .tup (fVar 2)) = X at e3 ⊢
      by_cases ta : isTupD a = true
      · by_cases tb : isTupD b = true
        · obtain ⟨ps, rfl⟩ : ∃ ps, a = .tup ps := by cases a <;> simp [isTupD] at ta; exact ⟨_, rfl⟩
          obtain ⟨fs, rfl⟩ : ∃ ps, b = .tup ps := by cases b <;> simp [isTupD] at tb; exact ⟨_, rfl⟩
          simp only [small, Bool.and_eq_true, decide_eq_true_eq] at ha hb
          have hmem : ∀ x ∈ ps ++ fs, small x = true := fun x hx => by
            rcases List.mem_append.mp hx with q | q
            · exact smalls_mem ha.1 q
            · exact smalls_mem hb.1 q
          have e5 := compN_filterG (g := fun _ => True) (T := gSet 1) (C := tOrF (tNotF (tTru (fIsi .tup (fVar 1)))) (tCmpF cEq (fVar 1) (fTup (fNil)))) (F := fVar 1) (env := [some (.tup [.tup ps, .tup fs]), none, none]) (st := st) (f := id) (p := fun x => match x with | .tup q => q.isEmpty | _ => true) trivial (ps ++ fs) fun x hx => by
            refine ⟨_, rfl, ?_, fun _ => rfl⟩
            have hx := hmem x hx
            apply wp_eq
            cases x with
            | tup q =>
              have := cEq_nil (st := st) hx
              clear hx
              walk_at "evs"
            | ref n => simp [small] at hx
            | ty n => simp [small] at hx
            | _ => (walk_at "ev") <;> exact ⟨rfl, rfl⟩
          have hok : okds (((ps ++ fs).filter fun x => match x with | .tup q => q.isEmpty | _ => true).map id) = true := okds_of fun x hx => by
            simp only [List.map_id, List.mem_filter] at hx
            exact okd_small _ (hmem x hx.1)
          have e6 := (cmp_tlnil (st := st) hok).1
          have hl1 := ha.2
          have hl2 := hb.2
          have e2' : cIn (.bl false) (.tl ([D.tup ps, .tup fs].map fun d => .bl (isTupD d))) st = some false := e2
          generalize hC : tOrF (tNotF (tTru (fIsi .tup (fVar 1)))) (tCmpF cEq (fVar 1) (fTup (fNil))) = C at e5 ⊢
          clear e1 e2 h
          walk_at "evo"
          rw [e3]
          walk_at "evo"
          simp only [List.map_cons, List.map_nil] at e2'
          rw [e2']
          walk_at "evo"
          rw [e5]
          walk_at "evo"
          rw [e6]
          walk_at "evo"
          refine ⟨_, rfl, fun q => ⟨ps, fs, rfl, fun x hx => ?_⟩, by simp⟩
          rw [List.map_id, List.isEmpty_iff, List.filter_eq_nil_iff] at q
          have := q x hx
          cases x with
          | tup q => exact ⟨q, rfl, fun e => by rw [e] at this; simp at this⟩
          | _ => simp at this
        · have hb' : isTupD b = false := by simpa using tb
          have e2' : cIn (.bl false) (.tl ([a, b].map fun d => .bl (isTupD d))) st = some true := by rw [e2]; simp [hb']
          clear e1 e2 h
          walk_at "evo"
          rw [e3]
          walk_at "evo"
          simp only [List.map_cons, List.map_nil] at e2'
          rw [e2']
          walk_at "evo"
          exact ⟨false, rfl, (fun q => by cases q), by simp⟩
      · have ha' : isTupD a = false := by simpa using ta
        have e2' : cIn (.bl false) (.tl ([a, b].map fun d => .bl (isTupD d))) st = some true := by rw [e2]; simp [ha']
        clear e1 e2 h
        walk_at "evo"
        rw [e3]
        walk_at "evo"
        simp only [List.map_cons, List.map_nil] at e2'
        rw [e2']
        walk_at "evo"
        exact ⟨false, rfl, (fun q => by cases q), by simp⟩
    · have hl2 : decide ((xs.length : Int) = 2) = false := decide_eq_false (by omega)
      clear h
      walk_at "evs"
      exact ⟨false, rfl, (fun q => by cases q), by simp⟩
  | _ => simp [small] at h <;> (walk_at "ev") <;> exact ⟨false, rfl, (fun q => by cases q), by simp⟩
end k03
namespace k03
open PySem PySem.Spec PyProof.Rows L2 Vm
local macro_rules | `(tactic| walk_at "ev") => `(tactic| simp only [↓ev_bin, ↓kbin, ↓kbin2, ↓kv, ↓kbl, ↓ev_cmp, ↓kcmp, ↓kcmp2, ↓ev_chain, ↓kch, ↓kch2, kch3_t, kch3_f, ↓ev_cons, ↓kcons, ↓kcons2, ↓ev_tup, ↓ktup, ↓ev_lst, ↓klst, ↓ev_lstS, ↓klstS, ↓ev_neg, ↓kneg, ↓ev_or, ↓kor, kor2_t, kor2_f, ↓ev_and, ↓kand, kand2_t, kand2_f, ↓ev_not, ↓knot, ↓knt, kif_t, kif_f, ↓ev_ite, ↓ev_oSome, ↓kos, ↓ev_cut, ↓kcut, ↓kcut2, ↓kcut3, ↓ev_call, ↓kcall, ↓ev_blt, ↓kblt, ↓ev_isi, ↓kisi, ↓ktg, ↓ev_rev, ↓krev, ↓ev_addS, ↓kas, ↓kas2, ↓kas25, ↓kas3, ↓kfn_rt, ↓kfn_nx, ↓ev_tcmp, ↓ktc, ↓ktc2, ↓ev_tchain, ↓ktch, ↓ev_tru, ↓ktru, ↓ev_tand, ktand_t, ktand_f, ↓ev_tor, ktor_t, ktor_f, ↓ev_tnot, ↓ktnot, ↓ev_tite, ↓ev_seq, kt_nx, kt_rt, kt_bk, kt_ct, ↓ev_ret, ↓kret, ↓ev_expr, ↓kexpr, ↓ev_set, ↓kset, ↓knx, ↓ev_asg, ↓kasg, ↓ev_if, ↓ev_put, ↓kput, ↓kput1, ↓kputs, ↓kput2, ↓ev_aug, ↓kaug, ↓kaug2, ↓kaug3, ↓ev_app, ↓kapp, ↓kapp15, ↓kapp2, ↓kapp3, ↓ev_ext, ↓kext, ↓kext15, ↓kext2, ↓kext3, ↓kext4, ↓ev_for, ↓kfor, kinv_nx, kinv_ct, kinv_bk, kinv_rt, ↓kturn, ↓ev_ival, ↓kiv, ↓ev_range1, ↓kr1, ↓ktl, ↓ev_comp, ↓kcomp, ↓ev_comp_nil, ↓ev_comp_cons, ↓kcp, kcp1_t, kcp1_f, ↓kcp2, ↓kcp3, wipe_nil, wipe_cons,
  fv0, fvS, fcon, fnil, ev_oNone, ev_dicN, ev_disp, ev_tyes, snil, spass, sbrk, scnt, sretn, wp_some, ob_some, cd_true,
  List.map_cons, List.map_nil, List.replicate, List.cons_append, List.nil_append, List.append_nil, List.set_cons_zero, List.set_cons_succ, List.length_cons, List.length_nil, Nat.reduceSub, Nat.reduceAdd, Nat.reduceLeDiff, Nat.zero_add, Nat.zero_le, Bool.not_true, Bool.not_false, gSet, gTupF, gConsF, gNilF, dAdd_int, dSub_int, dIdx_tup, dCut_tup, dCut_tl, dRev_tup, bLen_tup, bLen_tl, bMin_int, bMax_int, bList_tup, bList_tl, bTuple_tl, bTuple_tup, bListS_tup, bListS_tl, dIdx_tl, extOf_tup, extOf_tl, lstOf_tl, lstOf_ref, lstAt_push, dicAt_push, lstAt_push_set, lstAt_push1, lstAt_push1_set, lstAt_push2, lstAt_push2_set, items_tl, items_tup, dAdd_tup, dAdd_tl, List.length_append, atI3, atI4, atI5, cEq_int, cNe_int, atI0, atI1, atI2, tag_non, tag_bl, tag_int, tag_str, tag_tup, tag_tl, tag_sl, isTag, reduceCtorEq, decide_true, decide_false, tru_non, tru_bl, tru_int, tru_tup, tru_tl, tru_sl, Bool.false_eq_true, if_true, if_false, reduceIte, Int.cast_ofNat_Int, cast0, cast1, Int.reduceEq, Int.reduceLE, Int.reduceLT, Int.reduceToNat, Int.reduceAdd, Int.reduceSub, Int.reduceNeg, cLt_int, cLe_int, cGt_int, cGe_int, and_self, rangeD_zero, rangeD_succ, Option.isSome_some, Option.isSome_none, List.isEmpty_nil, List.isEmpty_cons])
local macro_rules | `(tactic| walk_at "evo") => `(tactic| simp (disch := first | assumption | ((try simp only [List.length_append, List.length_cons, List.length_nil, List.length_replicate]) <;> omega) | fail) only [cd_pos, dAdd_tupc, dAdd_tlc, dAdd_refc, dAdd_tlrefc, items_ref, bTuple_ref, bLen_ref, dIdx_ref, extOf_ref, tru_ref, ↓ev_bin, ↓kbin, ↓kbin2, ↓kv, ↓kbl, ↓ev_cmp, ↓kcmp, ↓kcmp2, ↓ev_chain, ↓kch, ↓kch2, kch3_t, kch3_f, ↓ev_cons, ↓kcons, ↓kcons2, ↓ev_tup, ↓ktup, ↓ev_lst, ↓klst, ↓ev_lstS, ↓klstS, ↓ev_neg, ↓kneg, ↓ev_or, ↓kor, kor2_t, kor2_f, ↓ev_and, ↓kand, kand2_t, kand2_f, ↓ev_not, ↓knot, ↓knt, kif_t, kif_f, ↓ev_ite, ↓ev_oSome, ↓kos, ↓ev_cut, ↓kcut, ↓kcut2, ↓kcut3, ↓ev_call, ↓kcall, ↓ev_blt, ↓kblt, ↓ev_isi, ↓kisi, ↓ktg, ↓ev_rev, ↓krev, ↓ev_addS, ↓kas, ↓kas2, ↓kas25, ↓kas3, ↓kfn_rt, ↓kfn_nx, ↓ev_tcmp, ↓ktc, ↓ktc2, ↓ev_tchain, ↓ktch, ↓ev_tru, ↓ktru, ↓ev_tand, ktand_t, ktand_f, ↓ev_tor, ktor_t, ktor_f, ↓ev_tnot, ↓ktnot, ↓ev_tite, ↓ev_seq, kt_nx, kt_rt, kt_bk, kt_ct, ↓ev_ret, ↓kret, ↓ev_expr, ↓kexpr, ↓ev_set, ↓kset, ↓knx, ↓ev_asg, ↓kasg, ↓ev_if, ↓ev_put, ↓kput, ↓kput1, ↓kputs, ↓kput2, ↓ev_aug, ↓kaug, ↓kaug2, ↓kaug3, ↓ev_app, ↓kapp, ↓kapp15, ↓kapp2, ↓kapp3, ↓ev_ext, ↓kext, ↓kext15, ↓kext2, ↓kext3, ↓kext4, ↓ev_for, ↓kfor, kinv_nx, kinv_ct, kinv_bk, kinv_rt, ↓kturn, ↓ev_ival, ↓kiv, ↓ev_range1, ↓kr1, ↓ktl, ↓ev_comp, ↓kcomp, ↓ev_comp_nil, ↓ev_comp_cons, ↓kcp, kcp1_t, kcp1_f, ↓kcp2, ↓kcp3, wipe_nil, wipe_cons,
  fv0, fvS, fcon, fnil, ev_oNone, ev_dicN, ev_disp, ev_tyes, snil, spass, sbrk, scnt, sretn, wp_some, ob_some, cd_true,
  List.map_cons, List.map_nil, List.replicate, List.cons_append, List.nil_append, List.append_nil, List.set_cons_zero, List.set_cons_succ, List.length_cons, List.length_nil, Nat.reduceSub, Nat.reduceAdd, Nat.reduceLeDiff, Nat.zero_add, Nat.zero_le, Bool.not_true, Bool.not_false, gSet, gTupF, gConsF, gNilF, dAdd_int, dSub_int, dIdx_tup, dCut_tup, dCut_tl, dRev_tup, bLen_tup, bLen_tl, bMin_int, bMax_int, bList_tup, bList_tl, bTuple_tl, bTuple_tup, bListS_tup, bListS_tl, dIdx_tl, extOf_tup, extOf_tl, lstOf_tl, lstOf_ref, lstAt_push, dicAt_push, lstAt_push_set, lstAt_push1, lstAt_push1_set, lstAt_push2, lstAt_push2_set, items_tl, items_tup, List.length_append, atI3, atI4, atI5, cEq_int, cNe_int, atI0, atI1, atI2, tag_non, tag_bl, tag_int, tag_str, tag_tup, tag_tl, tag_sl, isTag, reduceCtorEq, decide_true, decide_false, tru_non, tru_bl, tru_int, tru_tup, tru_tl, tru_sl, Bool.false_eq_true, if_true, if_false, reduceIte, Int.cast_ofNat_Int, cast0, cast1, Int.reduceEq, Int.reduceLE, Int.reduceLT, Int.reduceToNat, Int.reduceAdd, Int.reduceSub, Int.reduceNeg, cLt_int, cLe_int, cGt_int, cGe_int, and_self, rangeD_zero, rangeD_succ, Option.isSome_some, Option.isSome_none, List.isEmpty_nil, List.isEmpty_cons])
local macro_rules | `(tactic| walk_at "evs") => `(tactic| simp only [↓ev_bin, ↓kbin, ↓kbin2, ↓kv, ↓kbl, ↓ev_cmp, ↓kcmp, ↓kcmp2, ↓ev_chain, ↓kch, ↓kch2, kch3_t, kch3_f, ↓ev_cons, ↓kcons, ↓kcons2, ↓ev_tup, ↓ktup, ↓ev_lst, ↓klst, ↓ev_lstS, ↓klstS, ↓ev_neg, ↓kneg, ↓ev_or, ↓kor, kor2_t, kor2_f, ↓ev_and, ↓kand, kand2_t, kand2_f, ↓ev_not, ↓knot, ↓knt, kif_t, kif_f, ↓ev_ite, ↓ev_oSome, ↓kos, ↓ev_cut, ↓kcut, ↓kcut2, ↓kcut3, ↓ev_call, ↓kcall, ↓ev_blt, ↓kblt, ↓ev_isi, ↓kisi, ↓ktg, ↓ev_rev, ↓krev, ↓ev_addS, ↓kas, ↓kas2, ↓kas25, ↓kas3, ↓kfn_rt, ↓kfn_nx, ↓ev_tcmp, ↓ktc, ↓ktc2, ↓ev_tchain, ↓ktch, ↓ev_tru, ↓ktru, ↓ev_tand, ktand_t, ktand_f, ↓ev_tor, ktor_t, ktor_f, ↓ev_tnot, ↓ktnot, ↓ev_tite, ↓ev_seq, kt_nx, kt_rt, kt_bk, kt_ct, ↓ev_ret, ↓kret, ↓ev_expr, ↓kexpr, ↓ev_set, ↓kset, ↓knx, ↓ev_asg, ↓kasg, ↓ev_if, ↓ev_put, ↓kput, ↓kput1, ↓kputs, ↓kput2, ↓ev_aug, ↓kaug, ↓kaug2, ↓kaug3, ↓ev_app, ↓kapp, ↓kapp15, ↓kapp2, ↓kapp3, ↓ev_ext, ↓kext, ↓kext15, ↓kext2, ↓kext3, ↓kext4, ↓ev_for, ↓kfor, kinv_nx, kinv_ct, kinv_bk, kinv_rt, ↓kturn, ↓ev_ival, ↓kiv, ↓ev_range1, ↓kr1, ↓ktl, ↓ev_comp, ↓kcomp, ↓ev_comp_nil, ↓ev_comp_cons, ↓kcp, kcp1_t, kcp1_f, ↓kcp2, ↓kcp3, wipe_nil, wipe_cons,
  fv0, fvS, fcon, fnil, ev_oNone, ev_dicN, ev_disp, ev_tyes, snil, spass, sbrk, scnt, sretn, wp_some, ob_some, cd_true,
  List.map_cons, List.map_nil, List.replicate, List.cons_append, List.nil_append, List.append_nil, List.set_cons_zero, List.set_cons_succ, List.length_cons, List.length_nil, Nat.reduceSub, Nat.reduceAdd, Nat.reduceLeDiff, Nat.zero_add, Nat.zero_le, Bool.not_true, Bool.not_false, gSet, gTupF, gConsF, gNilF, dAdd_int, dSub_int, dIdx_tup, dCut_tup, dCut_tl, dRev_tup, bLen_tup, bLen_tl, bMin_int, bMax_int, bList_tup, bList_tl, bTuple_tl, bTuple_tup, bListS_tup, bListS_tl, dIdx_tl, extOf_tup, extOf_tl, lstOf_tl, lstOf_ref, lstAt_push, dicAt_push, lstAt_push_set, lstAt_push1, lstAt_push1_set, lstAt_push2, lstAt_push2_set, items_tl, items_tup, dAdd_tup, dAdd_tl, List.length_append, atI3, atI4, atI5, cEq_int, cNe_int, atI0, atI1, atI2, tag_non, tag_bl, tag_int, tag_str, tag_tup, tag_tl, tag_sl, isTag, reduceCtorEq, decide_true, decide_false, tru_non, tru_bl, tru_int, tru_tup, tru_tl, tru_sl, Bool.false_eq_true, if_true, if_false, reduceIte, Int.cast_ofNat_Int, cast0, cast1, Int.reduceEq, Int.reduceLE, Int.reduceLT, Int.reduceToNat, Int.reduceAdd, Int.reduceSub, Int.reduceNeg, cLt_int, cLe_int, cGt_int, cGe_int, and_self, rangeD_zero, rangeD_succ, Option.isSome_some, Option.isSome_none, List.isEmpty_nil, List.isEmpty_cons, *])
theorem fd_kp {n : Nat} {b c : Store} (h : Fd n b) (hk : Kp b c) : Fd n c := by
  obtain ⟨x, y, e, h1, h2⟩ := h
  exact ⟨x, y, hk _ _ e, h1, h2⟩
theorem cNeS_str {x y : Str} {st : Store} : cNeS (.str x) (.str y) st = some (!decide (x = y)) := rfl
theorem clm_nil : isClm (.tup [.tup [], .tup []]) = true := by decide +kernel
theorem clm_no : isClm (.tup []) = false := by decide +kernel
theorem cIs_bl {a b : Bool} {st : Store} : cIs (.bl a) (.bl b) st = some (a == b) := rfl
theorem cIsNot_bl {a b : Bool} {st : Store} : cIsNot (.bl a) (.bl b) st = some (!(a == b)) := rfl
theorem thing_small {W E Ls Lq : Nat} {d : D} (h : Th W E Ls Lq d) : small d = true := h.fx.sm
/-- a turn on a thing: what is_claim tells is what the law's look tells -/
noncomputable def T_look : FS := (sSeq (sSet 7 (fBlt bReprA (fCons (fVar 6) (fNil))))
  (sSeq (sSet 8 (fCall 1 F_is_claim (fCons (fVar 6) (fNil))))
  (sIf (tOrF (tNotF (tTru (fIsi .bl (fVar 8)))) (tOrF (tCmpF cNe (fVar 8) (fCall 1 F__law_is_claim (fCons (fVar 6) (fNil)))) (tCmpF cNeS (fBlt bReprA (fCons (fVar 6) (fNil))) (fVar 7)))) (sRet (fCon (.bl false))) (sNil))))
theorem T_look_ok {d : D} {W E : Nat} {x0 x1 x2 x3 x4 x5 x7 x8 : Option D} {st : Store} (h : Fx W E d) (hW : W ≤ 1048576) (hE : E ≤ 60) :
    Wp (T_look [x0, x1, x2, x3, x4, x5, some d, x7, x8] st) fun o s => (∃ y7 y8, o = .nx [x0, x1, x2, x3, x4, x5, some d, y7, y8]) ∧ Kp st s := by
  have hr := fun st => h.reprA (st := st) hW hE
  unfold T_look
  walk_at "evs"
  refine (is_claim_ok h.sm).mono fun r s1 hr1 => ?_
  obtain ⟨rfl, k1⟩ := hr1
  walk_at "ev"
  refine (law_is_claim_ok h.sm).mono fun r s2 hr2 => ?_
  obtain ⟨rfl, k2⟩ := hr2
  have e1 : cNe (.bl (isClm d)) (.bl (isClm d)) s2 = some false := by rw [cNe_bl]; simp
  have e2 := fun x => cNeS_str (x := x) (y := x) (st := s2)
  walk_at "evo"
  simp only [e1, ob_some, kv, ktor_f]
  walk_at "evo"
  simp only [hr, wp_some]
  walk_at "evo"
  simp only [e2, decide_true, Bool.not_true, ob_some, kv]
  walk_at "evo"
  exact ⟨⟨_, _, rfl⟩, k1.trans k2⟩
noncomputable def T_turns : FS := sSeq (sSet 6 (fCall 4 F__law_bent (fCons (fVar 2) (fCons (fVar 4) (fCons (fCut (fVar 3) (oNone) (oSome (fCon (.int 4)))) (fCons (fCut (fVar 3) (oSome (fCon (.int 4))) (oNone)) (fNil)))))))
  (sSeq (sIf (tAndF (tTru (fCall 1 F__law_may_bend (fCons (fVar 6) (fNil)))) (tCmpF cEq (fCall 2 F__law_take (fCons (fVar 2) (fCons (fCon (.int 3)) (fNil)))) (fCon (.int 0)))) (sSet 6 (fCall 4 F__law_bent (fCons (fVar 2) (fCons (fVar 6) (fCons (fCut (fVar 3) (oNone) (oSome (fCon (.int 4)))) (fCons (fCut (fVar 3) (oSome (fCon (.int 4))) (oNone)) (fNil))))))) (sNil)) T_look)
theorem T_turns_ok {n : Nat} {ps fs : List D} {n0 n1 n2 n3 r0 r1 r2 r3 : D} {x0 x1 x5 x6 x7 x8 : Option D} {st : Store} (h : Fd n st) (hth : Th 4000 5 5 4 (.tup [.tup ps, .tup fs])) (hb : Bendy ps fs) (hn0 : isNm n0 = true) (hn1 : isNm n1 = true) (hr0 : isNm r0 = true) :
    Wp (T_turns [x0, x1, some (.ref n), some (.tl [n0, n1, n2, n3, r0, r1, r2, r3]), some (.tup [.tup ps, .tup fs]), x5, x6, x7, x8] st) fun o s => (∃ y6 y7 y8, o = .nx [x0, x1, some (.ref n), some (.tl [n0, n1, n2, n3, r0, r1, r2, r3]), some (.tup [.tup ps, .tup fs]), x5, y6, y7, y8]) ∧ Fd n s := by
  have c1 : Vm.cutD [n0, n1, n2, n3, r0, r1, r2, r3] none (some 4) = [n0, n1, n2, n3] := by simp [Vm.cutD, HT.sIx]
  have c2 : Vm.cutD [n0, n1, n2, n3, r0, r1, r2, r3] (some 4) none = [r0, r1, r2, r3] := by simp [Vm.cutD, HT.sIx]
  have look := fun {d W E x5 x7 x8 st} => @T_look_ok d W E x0 x1 (some (.ref n)) (some (.tl [n0, n1, n2, n3, r0, r1, r2, r3])) (some (.tup [.tup ps, .tup fs])) x5 x7 x8 st
  unfold T_turns
  rw [e_take]
  generalize T_look = TL at look ⊢
  walk_at "ev"
  simp only [c1, c2]
  refine (bent_ok h hth hb (by omega) (by omega) (by omega) (by omega) hn0 hn1 hr0).mono fun d s1 hd => ?_
  obtain ⟨t1, f1⟩ := hd
  walk_at "ev"
  refine (may_bend_ok t1.fx.sm).mono fun r s2 hr => ?_
  obtain ⟨b, rfl, hb2, rfl⟩ := hr
  have fin : ∀ {d W E x7 x8 s}, Fx W E d → W ≤ 1048576 → E ≤ 60 → Fd n s → Wp (TL [x0, x1, some (.ref n), some (.tl [n0, n1, n2, n3, r0, r1, r2, r3]), some (.tup [.tup ps, .tup fs]), x5, some d, x7, x8] s) fun o s => (∃ y6 y7 y8, o = .nx [x0, x1, some (.ref n), some (.tl [n0, n1, n2, n3, r0, r1, r2, r3]), some (.tup [.tup ps, .tup fs]), x5, y6, y7, y8]) ∧ Fd n s := by
    intro d W E x7 x8 s h1 h2 h3 h4
    refine (look h1 h2 h3).mono fun o s' ho => ?_
    obtain ⟨⟨y7, y8, rfl⟩, k⟩ := ho
    exact ⟨⟨_, _, _, rfl⟩, fd_kp h4 k⟩
  cases b with
  | false =>
    walk_at "ev"
    exact fin t1.fx (by omega) (by omega) f1.fd
  | true =>
    obtain ⟨ps', fs', rfl, hb'⟩ := hb2 rfl
    walk_at "ev"
    refine (take_ok f1.fd (m := 3) (by omega) (by omega)).mono fun d s3 hd => ?_
    obtain ⟨r, rfl, b0, b1, g1⟩ := hd
    walk_at "ev"
    by_cases hz : r = 0
    · subst hz
      walk_at "ev"
      simp only [c1, c2]
      refine (bent_ok g1.fd t1 hb' (by omega) (by omega) (by omega) (by omega) hn0 hn1 hr0).mono fun d s4 hd => ?_
      obtain ⟨t2, f2⟩ := hd
      walk_at "ev"
      exact fin t2.fx (by omega) (by omega) f2.fd
    · have hz2 : decide (r = 0) = false := by simpa using hz
      simp only [hz2]
      walk_at "ev"
      exact fin t1.fx (by omega) (by omega) g1.fd
theorem law_ok {script : D} {ns : List Int} (hs : ∀ st, lsqOf st script = some (ns.map D.int)) (hlen : ∀ st, lenOf st script = some ns.length) (hi : ∀ (i : Int) st', dIdx script (.int i) st' = (match lsqOf st' script with | some xs => L2.atI xs i | none => none)) (hn63 : ns.length ≤ 63) :
    Wp (F_law [script] []) fun d _ => d = .bl true := by
  unfold F_law
  rw [show B_law = sSeq (sFor (iRange1 (fCons (fBlt bMax (fCons (fCon (.int 2)) (fCons (fBlt bMin (fCons (fCon (.int 5)) (fCons (fBlt bLen (fCons (fVar 0) (fNil))) (fNil)))) (fNil)))) (fNil))) (gSet 1) (sSeq (sSet 2 (fCall 2 F__law_feed (fCons (fVar 0) (fCons (fVar 1) (fNil)))))
    (sSeq (sSet 3 (fCall 2 F__law_names (fCons (fVar 2) (fCons (fCon (.int 8)) (fNil)))))
    (sSeq (sSet 4 (fCall 4 F__law_any_claim (fCons (fVar 2) (fCons (fCut (fVar 3) (oNone) (oSome (fCon (.int 4)))) (fCons (fCut (fVar 3) (oSome (fCon (.int 4))) (oNone)) (fCons (fCon (.int 5)) (fNil)))))))
    (sSeq (sIf (tCmpF cIsNot (fCall 1 F_is_claim (fCons (fVar 4) (fNil))) (fCon (.bl true))) (sRet (fCon (.bl false))) (sNil))
    (sFor (iRange1 (fCons (fCon (.int 7)) (fNil))) (gSet 5) T_turns))))))
    (sRet (fAnd (fCmp cIs (fCall 1 F_is_claim (fCons (fTup (fCons (fTup (fNil)) (fCons (fTup (fNil)) (fNil)))) (fNil))) (fCon (.bl true))) (fCmp cIs (fCall 1 F_is_claim (fCons (fTup (fNil)) (fNil))) (fCon (.bl false))))) from rfl]
  rw [ev_fn, e_feed, e_names]
  refine ⟨rfl, ?_⟩
  have turns := fun {n ps fs n0 n1 n2 n3 r0 r1 r2 r3 x0 x1 x5 x6 x7 x8 st} => @T_turns_ok n ps fs n0 n1 n2 n3 r0 r1 r2 r3 x0 x1 x5 x6 x7 x8 st
  generalize T_turns = TT at turns ⊢
  walk_at "ev"
  simp only [bLen, hlen]
  walk_at "ev"
  generalize hM : (if (if (ns.length : Int) < 5 then (ns.length : Int) else 5) > 2 then if (ns.length : Int) < 5 then (ns.length : Int) else 5 else 2) = M
  have hM0 : 0 ≤ M ∧ M ≤ 8 := by
    subst hM
    repeat' split
    all_goals omega
  have cM : (-4611686018427387904 ≤ M ∧ M < 4611686018427387904) := by omega
  refine cd_of cM ?_
  refine ev_forI (fun j e s => ∃ x1 x2 x3 x4 x5 x6 x7 x8, e = [some script, x1, x2, x3, x4, x5, x6, x7, x8]) ⟨_, _, _, _, _, _, _, _, rfl⟩ (fun j x e s hx hI => ?_) (fun e s hI => ?_)
  · obtain ⟨x1, x2, x3, x4, x5, x6, x7, x8, rfl⟩ := hI
    have hj : j < M.toNat := by
      have := (List.getElem?_eq_some_iff.mp hx).1
      simpa [rangeD] using this
    obtain rfl : x = .int (j : Nat) := by
      simp [rangeD, hj] at hx
      exact hx.symm
    refine ⟨trivial, _, rfl, ?_⟩
    show Wp (sSeq _ _ [some script, some (.int (j : Nat)), x2, x3, x4, x5, x6, x7, x8] s) _
    walk_at "ev"
    refine (feed_ok (hs s) (hlen s) hi (k := j) (by omega)).mono fun d st1 hd => ?_
    obtain ⟨rfl, a, b, rfl, ha, hb⟩ := hd
    have hfd : Fd s.length (s ++ [.lst [.int a, .int b]]) := ⟨a, b, push_at _ _, ha, hb⟩
    walk_at "ev"
    refine (names_ok2 (m := 8) hfd (by omega)).mono fun d st2 hd => ?_
    obtain ⟨nms, r, t, rfl, ⟨hr, ht, hta, rfl⟩, f2⟩ := hd
    have hnm := fun i => nmD_nm (r := r) (i := i) ht hta
    have e8 : ((List.range 8).map fun i => nmD r t i) = [nmD r t 0, nmD r t 1, nmD r t 2, nmD r t 3, nmD r t 4, nmD r t 5, nmD r t 6, nmD r t 7] := rfl
    rw [e8]
    have c1 : Vm.cutD [nmD r t 0, nmD r t 1, nmD r t 2, nmD r t 3, nmD r t 4, nmD r t 5, nmD r t 6, nmD r t 7] none (some 4) = [nmD r t 0, nmD r t 1, nmD r t 2, nmD r t 3] := by simp [Vm.cutD, HT.sIx]
    have c2 : Vm.cutD [nmD r t 0, nmD r t 1, nmD r t 2, nmD r t 3, nmD r t 4, nmD r t 5, nmD r t 6, nmD r t 7] (some 4) none = [nmD r t 4, nmD r t 5, nmD r t 6, nmD r t 7] := by simp [Vm.cutD, HT.sIx]
    walk_at "ev"
    simp only [c1, c2]
    refine (any_claim_ok (most := 5) f2.fd (by simp) (by simp) (by simp) (by simp) (by omega) (by omega)).mono fun d st3 hd => ?_
    obtain ⟨ps, fs, rfl, hpl, hfl, hp, hf, f3⟩ := hd
    have A : ∀ x ∈ [nmD r t 0, nmD r t 1, nmD r t 2, nmD r t 3], isNm x = true := fun x hx => by
      simp only [List.mem_cons, List.not_mem_nil, or_false] at hx
      rcases hx with rfl | rfl | rfl | rfl <;> exact hnm _
    have B : ∀ x ∈ [nmD r t 4, nmD r t 5, nmD r t 6, nmD r t 7], isNm x = true := fun x hx => by
      simp only [List.mem_cons, List.not_mem_nil, or_false] at hx
      rcases hx with rfl | rfl | rfl | rfl <;> exact hnm _
    have C : ∀ x ∈ [nmD r t 0, nmD r t 1, nmD r t 2, nmD r t 3], x ∉ [nmD r t 4, nmD r t 5, nmD r t 6, nmD r t 7] := fun x hx hy => by
      simp only [List.mem_cons, List.not_mem_nil, or_false] at hx hy
      rcases hx with rfl | rfl | rfl | rfl <;> rcases hy with e | e | e | e <;> have := nmD_inj (by omega) (by omega) e <;> omega
    obtain ⟨t1, t2, t3⟩ := claim_th A B C hpl (by omega) hp hf
    walk_at "ev"
    refine (is_claim_ok t1.fx.sm).mono fun rr st4 hr4 => ?_
    obtain ⟨rfl, k4⟩ := hr4
    rw [t2]
    walk_at "ev"
    simp only [cIsNot_bl, beq_self_eq_true, Bool.not_true]
    walk_at "ev"
    refine ev_forI (fun j' e s' => ∃ x5 x6 x7 x8, e = [some script, some (.int (j : Nat)), some (.ref s.length), some (.tl [nmD r t 0, nmD r t 1, nmD r t 2, nmD r t 3, nmD r t 4, nmD r t 5, nmD r t 6, nmD r t 7]), some (.tup [.tup ps, .tup fs]), x5, x6, x7, x8] ∧ Fd s.length s') ⟨_, _, _, _, rfl, fd_kp f3.fd k4⟩ (fun j' y e s' hx' hI => ?_) (fun e s' hI => ?_)
    · obtain ⟨x5, x6, x7, x8, rfl, hfd'⟩ := hI
      refine ⟨trivial, _, rfl, ?_⟩
      refine (turns hfd' t1 t3 (hnm 0) (hnm 1) (hnm 4)).mono fun o s'' ho => ?_
      obtain ⟨⟨y6, y7, y8, rfl⟩, hf'⟩ := ho
      rw [kinv_nx]
      exact ⟨_, _, _, _, rfl, hf'⟩
    · obtain ⟨x5, x6, x7, x8, rfl, hfd'⟩ := hI
      refine ⟨trivial, ?_⟩
      rw [kinv_nx]
      exact ⟨_, _, _, _, _, _, _, _, rfl⟩
  · obtain ⟨x1, x2, x3, x4, x5, x6, x7, x8, rfl⟩ := hI
    refine ⟨trivial, ?_⟩
    walk_at "ev"
    refine (is_claim_ok (d := .tup [.tup [], .tup []]) (by decide +kernel)).mono fun rr st4 hr4 => ?_
    obtain ⟨rfl, k4⟩ := hr4
    rw [clm_nil]
    walk_at "ev"
    simp only [cIs_bl, beq_self_eq_true]
    walk_at "ev"
    refine (is_claim_ok (d := .tup []) (by decide +kernel)).mono fun rr st5 hr5 => ?_
    obtain ⟨rfl, k5⟩ := hr5
    rw [clm_no]
    walk_at "ev"
    simp only [cIs_bl, beq_self_eq_true]
    walk_at "ev"
theorem law_sp {K : PySem.W.Frag} {H : Hp} {a : Addr} {ns : List Int} (hl : ns.length ≤ 63) (hS : SqL K H a (ns.map V.int)) : spD K 1 F_law [.ref a] H (fun v _ => v = .bl true) E0 :=
  sp_of (fun script ns h1 h2 h3 h4 => law_ok h2 h3 h4 h1) hl hS
theorem all_mk {l : PySem.W.OpenLaw} {w : World} {K : PySem.W.Frag} {h : Heap} {mg : Str → Option Value} {fa : Addr} (X : K.In h) (G : h.Ns mainGlobals mg) (hfa : mg "law" = some (.ref fa))
    {f_is_whole f_is_name f_terms_in f_rows_in f__law_feed f__law_take f__law_whole f__law_is_name f__law_names_in f__law_may_bend f_is_term f_term_names f_row_names f__law_pick f__law_names f__law_is_term f_is_piece f_is_fact f__law_number f__law_is_word f__law_odd f_is_word f__law_word f__law_is_item f__law_term f__law_bent_item f_is_part f__law_is_claim f__law_any_claim f__law_bent f_has_form f_is_claim f_law : Addr} {od_is_whole an_is_whole od_is_name an_is_name od_terms_in an_terms_in od_rows_in an_rows_in od__law_feed an__law_feed od__law_take an__law_take od__law_whole an__law_whole od__law_is_name an__law_is_name od__law_names_in an__law_names_in od__law_may_bend an__law_may_bend od_is_term an_is_term od_term_names an_term_names od_row_names an_row_names od__law_pick an__law_pick od__law_names an__law_names od__law_is_term an__law_is_term od_is_piece an_is_piece od_is_fact an_is_fact od__law_number an__law_number od__law_is_word an__law_is_word od__law_odd an__law_odd od_is_word an_is_word od__law_word an__law_word od__law_is_item an__law_is_item od__law_term an__law_term od__law_bent_item an__law_bent_item od_is_part an_is_part od__law_is_claim an__law_is_claim od__law_any_claim an__law_any_claim od__law_bent an__law_bent od_has_form an_has_form od_is_claim an_is_claim od_law an_law : Option Addr} {sl_is_whole sl_is_name sl_terms_in sl_rows_in sl__law_feed sl__law_take sl__law_whole sl__law_is_name sl__law_names_in sl__law_may_bend sl_is_term sl_term_names sl_row_names sl__law_pick sl__law_names sl__law_is_term sl_is_piece sl_is_fact sl__law_number sl__law_is_word sl__law_odd sl_is_word sl__law_word sl__law_is_item sl__law_term sl__law_bent_item sl_is_part sl__law_is_claim sl__law_any_claim sl__law_bent sl_has_form sl_is_claim sl_law : Array (Option Value)} {oc_is_whole kV_is_whole dc_is_whole pm_is_whole cd_is_whole ct_is_whole oc_is_name kV_is_name dc_is_name pm_is_name cd_is_name ct_is_name oc_terms_in kV_terms_in dc_terms_in pm_terms_in cd_terms_in ct_terms_in oc_rows_in kV_rows_in dc_rows_in pm_rows_in cd_rows_in ct_rows_in oc__law_feed kV__law_feed dc__law_feed pm__law_feed cd__law_feed ct__law_feed oc__law_take kV__law_take dc__law_take pm__law_take cd__law_take ct__law_take oc__law_whole kV__law_whole dc__law_whole pm__law_whole cd__law_whole ct__law_whole oc__law_is_name kV__law_is_name dc__law_is_name pm__law_is_name cd__law_is_name ct__law_is_name oc__law_names_in kV__law_names_in dc__law_names_in pm__law_names_in cd__law_names_in ct__law_names_in oc__law_may_bend kV__law_may_bend dc__law_may_bend pm__law_may_bend cd__law_may_bend ct__law_may_bend oc_is_term kV_is_term dc_is_term pm_is_term cd_is_term ct_is_term oc_term_names kV_term_names dc_term_names pm_term_names cd_term_names ct_term_names oc_row_names kV_row_names dc_row_names pm_row_names cd_row_names ct_row_names oc__law_pick kV__law_pick dc__law_pick pm__law_pick cd__law_pick ct__law_pick oc__law_names kV__law_names dc__law_names pm__law_names cd__law_names ct__law_names oc__law_is_term kV__law_is_term dc__law_is_term pm__law_is_term cd__law_is_term ct__law_is_term oc_is_piece kV_is_piece dc_is_piece pm_is_piece cd_is_piece ct_is_piece oc_is_fact kV_is_fact dc_is_fact pm_is_fact cd_is_fact ct_is_fact oc__law_number kV__law_number dc__law_number pm__law_number cd__law_number ct__law_number oc__law_is_word kV__law_is_word dc__law_is_word pm__law_is_word cd__law_is_word ct__law_is_word oc__law_odd kV__law_odd dc__law_odd pm__law_odd cd__law_odd ct__law_odd oc_is_word kV_is_word dc_is_word pm_is_word cd_is_word ct_is_word oc__law_word kV__law_word dc__law_word pm__law_word cd__law_word ct__law_word oc__law_is_item kV__law_is_item dc__law_is_item pm__law_is_item cd__law_is_item ct__law_is_item oc__law_term kV__law_term dc__law_term pm__law_term cd__law_term ct__law_term oc__law_bent_item kV__law_bent_item dc__law_bent_item pm__law_bent_item cd__law_bent_item ct__law_bent_item oc_is_part kV_is_part dc_is_part pm_is_part cd_is_part ct_is_part oc__law_is_claim kV__law_is_claim dc__law_is_claim pm__law_is_claim cd__law_is_claim ct__law_is_claim oc__law_any_claim kV__law_any_claim dc__law_any_claim pm__law_any_claim cd__law_any_claim ct__law_any_claim oc__law_bent kV__law_bent dc__law_bent pm__law_bent cd__law_bent ct__law_bent oc_has_form kV_has_form dc_has_form pm_has_form cd_has_form ct_has_form oc_is_claim kV_is_claim dc_is_claim pm_is_claim cd_is_claim ct_is_claim oc_law kV_law dc_law pm_law cd_law ct_law : Value} {t_LARGEST t_MOST_FACTS t_MOST_LETTERS t_MOST_PARTS t_MOST_PIECES : Tok}
    (a_is_whole : PySem.W.nsIn K mainGlobals "is_whole" = some (some (.ref f_is_whole))) (l_is_whole : K.lookup f_is_whole = some ⟨oc_is_whole, od_is_whole, .func (PySem.W.fnOf "is_whole" "is_whole" (defArgs (topS 4)) (defBody (topS 4)) (defScope (topS 4)) .none kV_is_whole dc_is_whole pm_is_whole an_is_whole cd_is_whole ct_is_whole), sl_is_whole⟩) (c_is_whole : PySem.W.codeIn K cd_is_whole "is_whole" = true) (k_is_whole : PySem.W.keepIn K (.ref f_is_whole) = true)
    (a_is_name : PySem.W.nsIn K mainGlobals "is_name" = some (some (.ref f_is_name))) (l_is_name : K.lookup f_is_name = some ⟨oc_is_name, od_is_name, .func (PySem.W.fnOf "is_name" "is_name" (defArgs (topS 5)) (defBody (topS 5)) (defScope (topS 5)) .none kV_is_name dc_is_name pm_is_name an_is_name cd_is_name ct_is_name), sl_is_name⟩) (c_is_name : PySem.W.codeIn K cd_is_name "is_name" = true) (k_is_name : PySem.W.keepIn K (.ref f_is_name) = true)
    (a_terms_in : PySem.W.nsIn K mainGlobals "terms_in" = some (some (.ref f_terms_in))) (l_terms_in : K.lookup f_terms_in = some ⟨oc_terms_in, od_terms_in, .func (PySem.W.fnOf "terms_in" "terms_in" (defArgs (topS 16)) (defBody (topS 16)) (defScope (topS 16)) .none kV_terms_in dc_terms_in pm_terms_in an_terms_in cd_terms_in ct_terms_in), sl_terms_in⟩) (c_terms_in : PySem.W.codeIn K cd_terms_in "terms_in" = true) (k_terms_in : PySem.W.keepIn K (.ref f_terms_in) = true)
    (a_rows_in : PySem.W.nsIn K mainGlobals "rows_in" = some (some (.ref f_rows_in))) (l_rows_in : K.lookup f_rows_in = some ⟨oc_rows_in, od_rows_in, .func (PySem.W.fnOf "rows_in" "rows_in" (defArgs (topS 17)) (defBody (topS 17)) (defScope (topS 17)) .none kV_rows_in dc_rows_in pm_rows_in an_rows_in cd_rows_in ct_rows_in), sl_rows_in⟩) (c_rows_in : PySem.W.codeIn K cd_rows_in "rows_in" = true) (k_rows_in : PySem.W.keepIn K (.ref f_rows_in) = true)
    (a__law_feed : PySem.W.nsIn K mainGlobals "_law_feed" = some (some (.ref f__law_feed))) (l__law_feed : K.lookup f__law_feed = some ⟨oc__law_feed, od__law_feed, .func (PySem.W.fnOf "_law_feed" "_law_feed" (defArgs (topS 21)) (defBody (topS 21)) (defScope (topS 21)) .none kV__law_feed dc__law_feed pm__law_feed an__law_feed cd__law_feed ct__law_feed), sl__law_feed⟩) (c__law_feed : PySem.W.codeIn K cd__law_feed "_law_feed" = true) (k__law_feed : PySem.W.keepIn K (.ref f__law_feed) = true)
    (a__law_take : PySem.W.nsIn K mainGlobals "_law_take" = some (some (.ref f__law_take))) (l__law_take : K.lookup f__law_take = some ⟨oc__law_take, od__law_take, .func (PySem.W.fnOf "_law_take" "_law_take" (defArgs (topS 22)) (defBody (topS 22)) (defScope (topS 22)) .none kV__law_take dc__law_take pm__law_take an__law_take cd__law_take ct__law_take), sl__law_take⟩) (c__law_take : PySem.W.codeIn K cd__law_take "_law_take" = true) (k__law_take : PySem.W.keepIn K (.ref f__law_take) = true)
    (a__law_whole : PySem.W.nsIn K mainGlobals "_law_whole" = some (some (.ref f__law_whole))) (l__law_whole : K.lookup f__law_whole = some ⟨oc__law_whole, od__law_whole, .func (PySem.W.fnOf "_law_whole" "_law_whole" (defArgs (topS 26)) (defBody (topS 26)) (defScope (topS 26)) .none kV__law_whole dc__law_whole pm__law_whole an__law_whole cd__law_whole ct__law_whole), sl__law_whole⟩) (c__law_whole : PySem.W.codeIn K cd__law_whole "_law_whole" = true) (k__law_whole : PySem.W.keepIn K (.ref f__law_whole) = true)
    (a__law_is_name : PySem.W.nsIn K mainGlobals "_law_is_name" = some (some (.ref f__law_is_name))) (l__law_is_name : K.lookup f__law_is_name = some ⟨oc__law_is_name, od__law_is_name, .func (PySem.W.fnOf "_law_is_name" "_law_is_name" (defArgs (topS 27)) (defBody (topS 27)) (defScope (topS 27)) .none kV__law_is_name dc__law_is_name pm__law_is_name an__law_is_name cd__law_is_name ct__law_is_name), sl__law_is_name⟩) (c__law_is_name : PySem.W.codeIn K cd__law_is_name "_law_is_name" = true) (k__law_is_name : PySem.W.keepIn K (.ref f__law_is_name) = true)
    (a__law_names_in : PySem.W.nsIn K mainGlobals "_law_names_in" = some (some (.ref f__law_names_in))) (l__law_names_in : K.lookup f__law_names_in = some ⟨oc__law_names_in, od__law_names_in, .func (PySem.W.fnOf "_law_names_in" "_law_names_in" (defArgs (topS 32)) (defBody (topS 32)) (defScope (topS 32)) .none kV__law_names_in dc__law_names_in pm__law_names_in an__law_names_in cd__law_names_in ct__law_names_in), sl__law_names_in⟩) (c__law_names_in : PySem.W.codeIn K cd__law_names_in "_law_names_in" = true) (k__law_names_in : PySem.W.keepIn K (.ref f__law_names_in) = true)
    (a__law_may_bend : PySem.W.nsIn K mainGlobals "_law_may_bend" = some (some (.ref f__law_may_bend))) (l__law_may_bend : K.lookup f__law_may_bend = some ⟨oc__law_may_bend, od__law_may_bend, .func (PySem.W.fnOf "_law_may_bend" "_law_may_bend" (defArgs (topS 39)) (defBody (topS 39)) (defScope (topS 39)) .none kV__law_may_bend dc__law_may_bend pm__law_may_bend an__law_may_bend cd__law_may_bend ct__law_may_bend), sl__law_may_bend⟩) (c__law_may_bend : PySem.W.codeIn K cd__law_may_bend "_law_may_bend" = true) (k__law_may_bend : PySem.W.keepIn K (.ref f__law_may_bend) = true)
    (a_is_term : PySem.W.nsIn K mainGlobals "is_term" = some (some (.ref f_is_term))) (l_is_term : K.lookup f_is_term = some ⟨oc_is_term, od_is_term, .func (PySem.W.fnOf "is_term" "is_term" (defArgs (topS 6)) (defBody (topS 6)) (defScope (topS 6)) .none kV_is_term dc_is_term pm_is_term an_is_term cd_is_term ct_is_term), sl_is_term⟩) (c_is_term : PySem.W.codeIn K cd_is_term "is_term" = true) (k_is_term : PySem.W.keepIn K (.ref f_is_term) = true)
    (a_term_names : PySem.W.nsIn K mainGlobals "term_names" = some (some (.ref f_term_names))) (l_term_names : K.lookup f_term_names = some ⟨oc_term_names, od_term_names, .func (PySem.W.fnOf "term_names" "term_names" (defArgs (topS 18)) (defBody (topS 18)) (defScope (topS 18)) .none kV_term_names dc_term_names pm_term_names an_term_names cd_term_names ct_term_names), sl_term_names⟩) (c_term_names : PySem.W.codeIn K cd_term_names "term_names" = true) (k_term_names : PySem.W.keepIn K (.ref f_term_names) = true)
    (a_row_names : PySem.W.nsIn K mainGlobals "row_names" = some (some (.ref f_row_names))) (l_row_names : K.lookup f_row_names = some ⟨oc_row_names, od_row_names, .func (PySem.W.fnOf "row_names" "row_names" (defArgs (topS 19)) (defBody (topS 19)) (defScope (topS 19)) .none kV_row_names dc_row_names pm_row_names an_row_names cd_row_names ct_row_names), sl_row_names⟩) (c_row_names : PySem.W.codeIn K cd_row_names "row_names" = true) (k_row_names : PySem.W.keepIn K (.ref f_row_names) = true)
    (a__law_pick : PySem.W.nsIn K mainGlobals "_law_pick" = some (some (.ref f__law_pick))) (l__law_pick : K.lookup f__law_pick = some ⟨oc__law_pick, od__law_pick, .func (PySem.W.fnOf "_law_pick" "_law_pick" (defArgs (topS 23)) (defBody (topS 23)) (defScope (topS 23)) .none kV__law_pick dc__law_pick pm__law_pick an__law_pick cd__law_pick ct__law_pick), sl__law_pick⟩) (c__law_pick : PySem.W.codeIn K cd__law_pick "_law_pick" = true) (k__law_pick : PySem.W.keepIn K (.ref f__law_pick) = true)
    (a__law_names : PySem.W.nsIn K mainGlobals "_law_names" = some (some (.ref f__law_names))) (l__law_names : K.lookup f__law_names = some ⟨oc__law_names, od__law_names, .func (PySem.W.fnOf "_law_names" "_law_names" (defArgs (topS 24)) (defBody (topS 24)) (defScope (topS 24)) .none kV__law_names dc__law_names pm__law_names an__law_names cd__law_names ct__law_names), sl__law_names⟩) (c__law_names : PySem.W.codeIn K cd__law_names "_law_names" = true) (k__law_names : PySem.W.keepIn K (.ref f__law_names) = true)
    (a__law_is_term : PySem.W.nsIn K mainGlobals "_law_is_term" = some (some (.ref f__law_is_term))) (l__law_is_term : K.lookup f__law_is_term = some ⟨oc__law_is_term, od__law_is_term, .func (PySem.W.fnOf "_law_is_term" "_law_is_term" (defArgs (topS 28)) (defBody (topS 28)) (defScope (topS 28)) .none kV__law_is_term dc__law_is_term pm__law_is_term an__law_is_term cd__law_is_term ct__law_is_term), sl__law_is_term⟩) (c__law_is_term : PySem.W.codeIn K cd__law_is_term "_law_is_term" = true) (k__law_is_term : PySem.W.keepIn K (.ref f__law_is_term) = true)
    (a_is_piece : PySem.W.nsIn K mainGlobals "is_piece" = some (some (.ref f_is_piece))) (l_is_piece : K.lookup f_is_piece = some ⟨oc_is_piece, od_is_piece, .func (PySem.W.fnOf "is_piece" "is_piece" (defArgs (topS 7)) (defBody (topS 7)) (defScope (topS 7)) .none kV_is_piece dc_is_piece pm_is_piece an_is_piece cd_is_piece ct_is_piece), sl_is_piece⟩) (c_is_piece : PySem.W.codeIn K cd_is_piece "is_piece" = true) (k_is_piece : PySem.W.keepIn K (.ref f_is_piece) = true)
    (a_is_fact : PySem.W.nsIn K mainGlobals "is_fact" = some (some (.ref f_is_fact))) (l_is_fact : K.lookup f_is_fact = some ⟨oc_is_fact, od_is_fact, .func (PySem.W.fnOf "is_fact" "is_fact" (defArgs (topS 13)) (defBody (topS 13)) (defScope (topS 13)) .none kV_is_fact dc_is_fact pm_is_fact an_is_fact cd_is_fact ct_is_fact), sl_is_fact⟩) (c_is_fact : PySem.W.codeIn K cd_is_fact "is_fact" = true) (k_is_fact : PySem.W.keepIn K (.ref f_is_fact) = true)
    (a__law_number : PySem.W.nsIn K mainGlobals "_law_number" = some (some (.ref f__law_number))) (l__law_number : K.lookup f__law_number = some ⟨oc__law_number, od__law_number, .func (PySem.W.fnOf "_law_number" "_law_number" (defArgs (topS 25)) (defBody (topS 25)) (defScope (topS 25)) .none kV__law_number dc__law_number pm__law_number an__law_number cd__law_number ct__law_number), sl__law_number⟩) (c__law_number : PySem.W.codeIn K cd__law_number "_law_number" = true) (k__law_number : PySem.W.keepIn K (.ref f__law_number) = true)
    (a__law_is_word : PySem.W.nsIn K mainGlobals "_law_is_word" = some (some (.ref f__law_is_word))) (l__law_is_word : K.lookup f__law_is_word = some ⟨oc__law_is_word, od__law_is_word, .func (PySem.W.fnOf "_law_is_word" "_law_is_word" (defArgs (topS 29)) (defBody (topS 29)) (defScope (topS 29)) .none kV__law_is_word dc__law_is_word pm__law_is_word an__law_is_word cd__law_is_word ct__law_is_word), sl__law_is_word⟩) (c__law_is_word : PySem.W.codeIn K cd__law_is_word "_law_is_word" = true) (k__law_is_word : PySem.W.keepIn K (.ref f__law_is_word) = true)
    (a__law_odd : PySem.W.nsIn K mainGlobals "_law_odd" = some (some (.ref f__law_odd))) (l__law_odd : K.lookup f__law_odd = some ⟨oc__law_odd, od__law_odd, .func (PySem.W.fnOf "_law_odd" "_law_odd" (defArgs (topS 31)) (defBody (topS 31)) (defScope (topS 31)) .none kV__law_odd dc__law_odd pm__law_odd an__law_odd cd__law_odd ct__law_odd), sl__law_odd⟩) (c__law_odd : PySem.W.codeIn K cd__law_odd "_law_odd" = true) (k__law_odd : PySem.W.keepIn K (.ref f__law_odd) = true)
    (a_is_word : PySem.W.nsIn K mainGlobals "is_word" = some (some (.ref f_is_word))) (l_is_word : K.lookup f_is_word = some ⟨oc_is_word, od_is_word, .func (PySem.W.fnOf "is_word" "is_word" (defArgs (topS 8)) (defBody (topS 8)) (defScope (topS 8)) .none kV_is_word dc_is_word pm_is_word an_is_word cd_is_word ct_is_word), sl_is_word⟩) (c_is_word : PySem.W.codeIn K cd_is_word "is_word" = true) (k_is_word : PySem.W.keepIn K (.ref f_is_word) = true)
    (a__law_word : PySem.W.nsIn K mainGlobals "_law_word" = some (some (.ref f__law_word))) (l__law_word : K.lookup f__law_word = some ⟨oc__law_word, od__law_word, .func (PySem.W.fnOf "_law_word" "_law_word" (defArgs (topS 30)) (defBody (topS 30)) (defScope (topS 30)) .none kV__law_word dc__law_word pm__law_word an__law_word cd__law_word ct__law_word), sl__law_word⟩) (c__law_word : PySem.W.codeIn K cd__law_word "_law_word" = true) (k__law_word : PySem.W.keepIn K (.ref f__law_word) = true)
    (a__law_is_item : PySem.W.nsIn K mainGlobals "_law_is_item" = some (some (.ref f__law_is_item))) (l__law_is_item : K.lookup f__law_is_item = some ⟨oc__law_is_item, od__law_is_item, .func (PySem.W.fnOf "_law_is_item" "_law_is_item" (defArgs (topS 33)) (defBody (topS 33)) (defScope (topS 33)) .none kV__law_is_item dc__law_is_item pm__law_is_item an__law_is_item cd__law_is_item ct__law_is_item), sl__law_is_item⟩) (c__law_is_item : PySem.W.codeIn K cd__law_is_item "_law_is_item" = true) (k__law_is_item : PySem.W.keepIn K (.ref f__law_is_item) = true)
    (a__law_term : PySem.W.nsIn K mainGlobals "_law_term" = some (some (.ref f__law_term))) (l__law_term : K.lookup f__law_term = some ⟨oc__law_term, od__law_term, .func (PySem.W.fnOf "_law_term" "_law_term" (defArgs (topS 35)) (defBody (topS 35)) (defScope (topS 35)) .none kV__law_term dc__law_term pm__law_term an__law_term cd__law_term ct__law_term), sl__law_term⟩) (c__law_term : PySem.W.codeIn K cd__law_term "_law_term" = true) (k__law_term : PySem.W.keepIn K (.ref f__law_term) = true)
    (a__law_bent_item : PySem.W.nsIn K mainGlobals "_law_bent_item" = some (some (.ref f__law_bent_item))) (l__law_bent_item : K.lookup f__law_bent_item = some ⟨oc__law_bent_item, od__law_bent_item, .func (PySem.W.fnOf "_law_bent_item" "_law_bent_item" (defArgs (topS 37)) (defBody (topS 37)) (defScope (topS 37)) .none kV__law_bent_item dc__law_bent_item pm__law_bent_item an__law_bent_item cd__law_bent_item ct__law_bent_item), sl__law_bent_item⟩) (c__law_bent_item : PySem.W.codeIn K cd__law_bent_item "_law_bent_item" = true) (k__law_bent_item : PySem.W.keepIn K (.ref f__law_bent_item) = true)
    (a_is_part : PySem.W.nsIn K mainGlobals "is_part" = some (some (.ref f_is_part))) (l_is_part : K.lookup f_is_part = some ⟨oc_is_part, od_is_part, .func (PySem.W.fnOf "is_part" "is_part" (defArgs (topS 12)) (defBody (topS 12)) (defScope (topS 12)) .none kV_is_part dc_is_part pm_is_part an_is_part cd_is_part ct_is_part), sl_is_part⟩) (c_is_part : PySem.W.codeIn K cd_is_part "is_part" = true) (k_is_part : PySem.W.keepIn K (.ref f_is_part) = true)
    (a__law_is_claim : PySem.W.nsIn K mainGlobals "_law_is_claim" = some (some (.ref f__law_is_claim))) (l__law_is_claim : K.lookup f__law_is_claim = some ⟨oc__law_is_claim, od__law_is_claim, .func (PySem.W.fnOf "_law_is_claim" "_law_is_claim" (defArgs (topS 34)) (defBody (topS 34)) (defScope (topS 34)) .none kV__law_is_claim dc__law_is_claim pm__law_is_claim an__law_is_claim cd__law_is_claim ct__law_is_claim), sl__law_is_claim⟩) (c__law_is_claim : PySem.W.codeIn K cd__law_is_claim "_law_is_claim" = true) (k__law_is_claim : PySem.W.keepIn K (.ref f__law_is_claim) = true)
    (a__law_any_claim : PySem.W.nsIn K mainGlobals "_law_any_claim" = some (some (.ref f__law_any_claim))) (l__law_any_claim : K.lookup f__law_any_claim = some ⟨oc__law_any_claim, od__law_any_claim, .func (PySem.W.fnOf "_law_any_claim" "_law_any_claim" (defArgs (topS 36)) (defBody (topS 36)) (defScope (topS 36)) .none kV__law_any_claim dc__law_any_claim pm__law_any_claim an__law_any_claim cd__law_any_claim ct__law_any_claim), sl__law_any_claim⟩) (c__law_any_claim : PySem.W.codeIn K cd__law_any_claim "_law_any_claim" = true) (k__law_any_claim : PySem.W.keepIn K (.ref f__law_any_claim) = true)
    (a__law_bent : PySem.W.nsIn K mainGlobals "_law_bent" = some (some (.ref f__law_bent))) (l__law_bent : K.lookup f__law_bent = some ⟨oc__law_bent, od__law_bent, .func (PySem.W.fnOf "_law_bent" "_law_bent" (defArgs (topS 38)) (defBody (topS 38)) (defScope (topS 38)) .none kV__law_bent dc__law_bent pm__law_bent an__law_bent cd__law_bent ct__law_bent), sl__law_bent⟩) (c__law_bent : PySem.W.codeIn K cd__law_bent "_law_bent" = true) (k__law_bent : PySem.W.keepIn K (.ref f__law_bent) = true)
    (a_has_form : PySem.W.nsIn K mainGlobals "has_form" = some (some (.ref f_has_form))) (l_has_form : K.lookup f_has_form = some ⟨oc_has_form, od_has_form, .func (PySem.W.fnOf "has_form" "has_form" (defArgs (topS 14)) (defBody (topS 14)) (defScope (topS 14)) .none kV_has_form dc_has_form pm_has_form an_has_form cd_has_form ct_has_form), sl_has_form⟩) (c_has_form : PySem.W.codeIn K cd_has_form "has_form" = true) (k_has_form : PySem.W.keepIn K (.ref f_has_form) = true)
    (a_is_claim : PySem.W.nsIn K mainGlobals "is_claim" = some (some (.ref f_is_claim))) (l_is_claim : K.lookup f_is_claim = some ⟨oc_is_claim, od_is_claim, .func (PySem.W.fnOf "is_claim" "is_claim" (defArgs (topS 15)) (defBody (topS 15)) (defScope (topS 15)) .none kV_is_claim dc_is_claim pm_is_claim an_is_claim cd_is_claim ct_is_claim), sl_is_claim⟩) (c_is_claim : PySem.W.codeIn K cd_is_claim "is_claim" = true) (k_is_claim : PySem.W.keepIn K (.ref f_is_claim) = true)
    (a_law : PySem.W.nsIn K mainGlobals "law" = some (some (.ref f_law))) (l_law : K.lookup f_law = some ⟨oc_law, od_law, .func (PySem.W.fnOf "law" "law" (defArgs (topS 40)) (defBody (topS 40)) (defScope (topS 40)) .none kV_law dc_law pm_law an_law cd_law ct_law), sl_law⟩) (c_law : PySem.W.codeIn K cd_law "law" = true) (k_law : PySem.W.keepIn K (.ref f_law) = true)
    (z_abs : PySem.W.nsIn K mainGlobals "abs" = some none)
    (z_all : PySem.W.nsIn K mainGlobals "all" = some none)
    (z_bool : PySem.W.nsIn K mainGlobals "bool" = some none)
    (z_int : PySem.W.nsIn K mainGlobals "int" = some none)
    (z_isinstance : PySem.W.nsIn K mainGlobals "isinstance" = some none)
    (z_len : PySem.W.nsIn K mainGlobals "len" = some none)
    (z_list : PySem.W.nsIn K mainGlobals "list" = some none)
    (z_max : PySem.W.nsIn K mainGlobals "max" = some none)
    (z_min : PySem.W.nsIn K mainGlobals "min" = some none)
    (z_range : PySem.W.nsIn K mainGlobals "range" = some none)
    (z_repr : PySem.W.nsIn K mainGlobals "repr" = some none)
    (z_set : PySem.W.nsIn K mainGlobals "set" = some none)
    (z_sorted : PySem.W.nsIn K mainGlobals "sorted" = some none)
    (z_str : PySem.W.nsIn K mainGlobals "str" = some none)
    (z_tuple : PySem.W.nsIn K mainGlobals "tuple" = some none)
    (g_LARGEST : PySem.W.nsIn K mainGlobals "LARGEST" = some (some (.int 999999999 t_LARGEST)))
    (g_MOST_FACTS : PySem.W.nsIn K mainGlobals "MOST_FACTS" = some (some (.int 4 t_MOST_FACTS)))
    (g_MOST_LETTERS : PySem.W.nsIn K mainGlobals "MOST_LETTERS" = some (some (.int 8 t_MOST_LETTERS)))
    (g_MOST_PARTS : PySem.W.nsIn K mainGlobals "MOST_PARTS" = some (some (.int 5 t_MOST_PARTS)))
    (g_MOST_PIECES : PySem.W.nsIn K mainGlobals "MOST_PIECES" = some (some (.int 6 t_MOST_PIECES))) :
    ∃ fd : FuncData, (∀ (s : Shared) (v : Value), BindsTo s fd ⟨[v], []⟩ [("script", v)]) ∧ ∀ base : Heap, K.In base → base.Ns mainGlobals mg → FnAt l.prog w K mg base callerA [] fa fd ["script"] (spD K 1 F_law) := by
  have T : Tx mg := ⟨PySem.W.mg_none_of X G z_abs, PySem.W.mg_none_of X G z_all, PySem.W.mg_none_of X G z_bool, PySem.W.mg_none_of X G z_int, PySem.W.mg_none_of X G z_isinstance, PySem.W.mg_none_of X G z_len, PySem.W.mg_none_of X G z_list, PySem.W.mg_none_of X G z_max, PySem.W.mg_none_of X G z_min, PySem.W.mg_none_of X G z_range, PySem.W.mg_none_of X G z_repr, PySem.W.mg_none_of X G z_set, PySem.W.mg_none_of X G z_sorted, PySem.W.mg_none_of X G z_str, PySem.W.mg_none_of X G z_tuple, ⟨_, PySem.W.mg_of X G g_LARGEST⟩, ⟨_, PySem.W.mg_of X G g_MOST_FACTS⟩, ⟨_, PySem.W.mg_of X G g_MOST_LETTERS⟩, ⟨_, PySem.W.mg_of X G g_MOST_PARTS⟩, ⟨_, PySem.W.mg_of X G g_MOST_PIECES⟩⟩
  have u_is_whole := fun_mk (st := topS 4) l_is_whole c_is_whole k_is_whole
  have d_is_whole : Df K mg "is_whole" (topS 4) ["thing"] := ⟨_, _, u_is_whole, PySem.W.mg_of X G a_is_whole, u_is_whole.binds (ps := ["thing"]) fun _ _ _ _ _ _ us hl => match us, hl with | [_], _ => rfl⟩
  have u_is_name := fun_mk (st := topS 5) l_is_name c_is_name k_is_name
  have d_is_name : Df K mg "is_name" (topS 5) ["thing"] := ⟨_, _, u_is_name, PySem.W.mg_of X G a_is_name, u_is_name.binds (ps := ["thing"]) fun _ _ _ _ _ _ us hl => match us, hl with | [_], _ => rfl⟩
  have u_terms_in := fun_mk (st := topS 16) l_terms_in c_terms_in k_terms_in
  have d_terms_in : Df K mg "terms_in" (topS 16) ["item"] := ⟨_, _, u_terms_in, PySem.W.mg_of X G a_terms_in, u_terms_in.binds (ps := ["item"]) fun _ _ _ _ _ _ us hl => match us, hl with | [_], _ => rfl⟩
  have u_rows_in := fun_mk (st := topS 17) l_rows_in c_rows_in k_rows_in
  have d_rows_in : Df K mg "rows_in" (topS 17) ["item"] := ⟨_, _, u_rows_in, PySem.W.mg_of X G a_rows_in, u_rows_in.binds (ps := ["item"]) fun _ _ _ _ _ _ us hl => match us, hl with | [_], _ => rfl⟩
  have u__law_feed := fun_mk (st := topS 21) l__law_feed c__law_feed k__law_feed
  have d__law_feed : Df K mg "_law_feed" (topS 21) ["script", "k"] := ⟨_, _, u__law_feed, PySem.W.mg_of X G a__law_feed, u__law_feed.binds (ps := ["script", "k"]) fun _ _ _ _ _ _ us hl => match us, hl with | [_, _], _ => rfl⟩
  have u__law_take := fun_mk (st := topS 22) l__law_take c__law_take k__law_take
  have d__law_take : Df K mg "_law_take" (topS 22) ["feed", "many"] := ⟨_, _, u__law_take, PySem.W.mg_of X G a__law_take, u__law_take.binds (ps := ["feed", "many"]) fun _ _ _ _ _ _ us hl => match us, hl with | [_, _], _ => rfl⟩
  have u__law_whole := fun_mk (st := topS 26) l__law_whole c__law_whole k__law_whole
  have d__law_whole : Df K mg "_law_whole" (topS 26) ["thing"] := ⟨_, _, u__law_whole, PySem.W.mg_of X G a__law_whole, u__law_whole.binds (ps := ["thing"]) fun _ _ _ _ _ _ us hl => match us, hl with | [_], _ => rfl⟩
  have u__law_is_name := fun_mk (st := topS 27) l__law_is_name c__law_is_name k__law_is_name
  have d__law_is_name : Df K mg "_law_is_name" (topS 27) ["thing"] := ⟨_, _, u__law_is_name, PySem.W.mg_of X G a__law_is_name, u__law_is_name.binds (ps := ["thing"]) fun _ _ _ _ _ _ us hl => match us, hl with | [_], _ => rfl⟩
  have u__law_names_in := fun_mk (st := topS 32) l__law_names_in c__law_names_in k__law_names_in
  have d__law_names_in : Df K mg "_law_names_in" (topS 32) ["item"] := ⟨_, _, u__law_names_in, PySem.W.mg_of X G a__law_names_in, u__law_names_in.binds (ps := ["item"]) fun _ _ _ _ _ _ us hl => match us, hl with | [_], _ => rfl⟩
  have u__law_may_bend := fun_mk (st := topS 39) l__law_may_bend c__law_may_bend k__law_may_bend
  have d__law_may_bend : Df K mg "_law_may_bend" (topS 39) ["thing"] := ⟨_, _, u__law_may_bend, PySem.W.mg_of X G a__law_may_bend, u__law_may_bend.binds (ps := ["thing"]) fun _ _ _ _ _ _ us hl => match us, hl with | [_], _ => rfl⟩
  have u_is_term := fun_mk (st := topS 6) l_is_term c_is_term k_is_term
  have d_is_term : Df K mg "is_term" (topS 6) ["thing"] := ⟨_, _, u_is_term, PySem.W.mg_of X G a_is_term, u_is_term.binds (ps := ["thing"]) fun _ _ _ _ _ _ us hl => match us, hl with | [_], _ => rfl⟩
  have u_term_names := fun_mk (st := topS 18) l_term_names c_term_names k_term_names
  have d_term_names : Df K mg "term_names" (topS 18) ["claim"] := ⟨_, _, u_term_names, PySem.W.mg_of X G a_term_names, u_term_names.binds (ps := ["claim"]) fun _ _ _ _ _ _ us hl => match us, hl with | [_], _ => rfl⟩
  have u_row_names := fun_mk (st := topS 19) l_row_names c_row_names k_row_names
  have d_row_names : Df K mg "row_names" (topS 19) ["claim"] := ⟨_, _, u_row_names, PySem.W.mg_of X G a_row_names, u_row_names.binds (ps := ["claim"]) fun _ _ _ _ _ _ us hl => match us, hl with | [_], _ => rfl⟩
  have u__law_pick := fun_mk (st := topS 23) l__law_pick c__law_pick k__law_pick
  have d__law_pick : Df K mg "_law_pick" (topS 23) ["feed", "some"] := ⟨_, _, u__law_pick, PySem.W.mg_of X G a__law_pick, u__law_pick.binds (ps := ["feed", "some"]) fun _ _ _ _ _ _ us hl => match us, hl with | [_, _], _ => rfl⟩
  have u__law_names := fun_mk (st := topS 24) l__law_names c__law_names k__law_names
  have d__law_names : Df K mg "_law_names" (topS 24) ["feed", "many"] := ⟨_, _, u__law_names, PySem.W.mg_of X G a__law_names, u__law_names.binds (ps := ["feed", "many"]) fun _ _ _ _ _ _ us hl => match us, hl with | [_, _], _ => rfl⟩
  have u__law_is_term := fun_mk (st := topS 28) l__law_is_term c__law_is_term k__law_is_term
  have d__law_is_term : Df K mg "_law_is_term" (topS 28) ["thing"] := ⟨_, _, u__law_is_term, PySem.W.mg_of X G a__law_is_term, u__law_is_term.binds (ps := ["thing"]) fun _ _ _ _ _ _ us hl => match us, hl with | [_], _ => rfl⟩
  have u_is_piece := fun_mk (st := topS 7) l_is_piece c_is_piece k_is_piece
  have d_is_piece : Df K mg "is_piece" (topS 7) ["thing"] := ⟨_, _, u_is_piece, PySem.W.mg_of X G a_is_piece, u_is_piece.binds (ps := ["thing"]) fun _ _ _ _ _ _ us hl => match us, hl with | [_], _ => rfl⟩
  have u_is_fact := fun_mk (st := topS 13) l_is_fact c_is_fact k_is_fact
  have d_is_fact : Df K mg "is_fact" (topS 13) ["thing"] := ⟨_, _, u_is_fact, PySem.W.mg_of X G a_is_fact, u_is_fact.binds (ps := ["thing"]) fun _ _ _ _ _ _ us hl => match us, hl with | [_], _ => rfl⟩
  have u__law_number := fun_mk (st := topS 25) l__law_number c__law_number k__law_number
  have d__law_number : Df K mg "_law_number" (topS 25) ["feed"] := ⟨_, _, u__law_number, PySem.W.mg_of X G a__law_number, u__law_number.binds (ps := ["feed"]) fun _ _ _ _ _ _ us hl => match us, hl with | [_], _ => rfl⟩
  have u__law_is_word := fun_mk (st := topS 29) l__law_is_word c__law_is_word k__law_is_word
  have d__law_is_word : Df K mg "_law_is_word" (topS 29) ["thing"] := ⟨_, _, u__law_is_word, PySem.W.mg_of X G a__law_is_word, u__law_is_word.binds (ps := ["thing"]) fun _ _ _ _ _ _ us hl => match us, hl with | [_], _ => rfl⟩
  have u__law_odd := fun_mk (st := topS 31) l__law_odd c__law_odd k__law_odd
  have d__law_odd : Df K mg "_law_odd" (topS 31) ["feed"] := ⟨_, _, u__law_odd, PySem.W.mg_of X G a__law_odd, u__law_odd.binds (ps := ["feed"]) fun _ _ _ _ _ _ us hl => match us, hl with | [_], _ => rfl⟩
  have u_is_word := fun_mk (st := topS 8) l_is_word c_is_word k_is_word
  have d_is_word : Df K mg "is_word" (topS 8) ["thing"] := ⟨_, _, u_is_word, PySem.W.mg_of X G a_is_word, u_is_word.binds (ps := ["thing"]) fun _ _ _ _ _ _ us hl => match us, hl with | [_], _ => rfl⟩
  have u__law_word := fun_mk (st := topS 30) l__law_word c__law_word k__law_word
  have d__law_word : Df K mg "_law_word" (topS 30) ["feed", "numbers", "rows", "most"] := ⟨_, _, u__law_word, PySem.W.mg_of X G a__law_word, u__law_word.binds (ps := ["feed", "numbers", "rows", "most"]) fun _ _ _ _ _ _ us hl => match us, hl with | [_, _, _, _], _ => rfl⟩
  have u__law_is_item := fun_mk (st := topS 33) l__law_is_item c__law_is_item k__law_is_item
  have d__law_is_item : Df K mg "_law_is_item" (topS 33) ["thing"] := ⟨_, _, u__law_is_item, PySem.W.mg_of X G a__law_is_item, u__law_is_item.binds (ps := ["thing"]) fun _ _ _ _ _ _ us hl => match us, hl with | [_], _ => rfl⟩
  have u__law_term := fun_mk (st := topS 35) l__law_term c__law_term k__law_term
  have d__law_term : Df K mg "_law_term" (topS 35) ["feed", "names"] := ⟨_, _, u__law_term, PySem.W.mg_of X G a__law_term, u__law_term.binds (ps := ["feed", "names"]) fun _ _ _ _ _ _ us hl => match us, hl with | [_, _], _ => rfl⟩
  have u__law_bent_item := fun_mk (st := topS 37) l__law_bent_item c__law_bent_item k__law_bent_item
  have d__law_bent_item : Df K mg "_law_bent_item" (topS 37) ["feed", "item", "names", "rows"] := ⟨_, _, u__law_bent_item, PySem.W.mg_of X G a__law_bent_item, u__law_bent_item.binds (ps := ["feed", "item", "names", "rows"]) fun _ _ _ _ _ _ us hl => match us, hl with | [_, _, _, _], _ => rfl⟩
  have u_is_part := fun_mk (st := topS 12) l_is_part c_is_part k_is_part
  have d_is_part : Df K mg "is_part" (topS 12) ["thing"] := ⟨_, _, u_is_part, PySem.W.mg_of X G a_is_part, u_is_part.binds (ps := ["thing"]) fun _ _ _ _ _ _ us hl => match us, hl with | [_], _ => rfl⟩
  have u__law_is_claim := fun_mk (st := topS 34) l__law_is_claim c__law_is_claim k__law_is_claim
  have d__law_is_claim : Df K mg "_law_is_claim" (topS 34) ["thing"] := ⟨_, _, u__law_is_claim, PySem.W.mg_of X G a__law_is_claim, u__law_is_claim.binds (ps := ["thing"]) fun _ _ _ _ _ _ us hl => match us, hl with | [_], _ => rfl⟩
  have u__law_any_claim := fun_mk (st := topS 36) l__law_any_claim c__law_any_claim k__law_any_claim
  have d__law_any_claim : Df K mg "_law_any_claim" (topS 36) ["feed", "names", "rows", "most"] := ⟨_, _, u__law_any_claim, PySem.W.mg_of X G a__law_any_claim, u__law_any_claim.binds (ps := ["feed", "names", "rows", "most"]) fun _ _ _ _ _ _ us hl => match us, hl with | [_, _, _, _], _ => rfl⟩
  have u__law_bent := fun_mk (st := topS 38) l__law_bent c__law_bent k__law_bent
  have d__law_bent : Df K mg "_law_bent" (topS 38) ["feed", "claim", "names", "rows"] := ⟨_, _, u__law_bent, PySem.W.mg_of X G a__law_bent, u__law_bent.binds (ps := ["feed", "claim", "names", "rows"]) fun _ _ _ _ _ _ us hl => match us, hl with | [_, _, _, _], _ => rfl⟩
  have u_has_form := fun_mk (st := topS 14) l_has_form c_has_form k_has_form
  have d_has_form : Df K mg "has_form" (topS 14) ["thing"] := ⟨_, _, u_has_form, PySem.W.mg_of X G a_has_form, u_has_form.binds (ps := ["thing"]) fun _ _ _ _ _ _ us hl => match us, hl with | [_], _ => rfl⟩
  have u_is_claim := fun_mk (st := topS 15) l_is_claim c_is_claim k_is_claim
  have d_is_claim : Df K mg "is_claim" (topS 15) ["thing"] := ⟨_, _, u_is_claim, PySem.W.mg_of X G a_is_claim, u_is_claim.binds (ps := ["thing"]) fun _ _ _ _ _ _ us hl => match us, hl with | [_], _ => rfl⟩
  have u_law := fun_mk (st := topS 40) l_law c_law k_law
  have d_law : Df K mg "law" (topS 40) ["script"] := ⟨_, _, u_law, PySem.W.mg_of X G a_law, u_law.binds (ps := ["script"]) fun _ _ _ _ _ _ us hl => match us, hl with | [_], _ => rfl⟩
  have e := hfa.symm.trans (PySem.W.mg_of X G a_law)
  cases e
  refine ⟨PySem.W.fnOf "law" "law" (defArgs (topS 40)) (defBody (topS 40)) (defScope (topS 40)) .none kV_law dc_law pm_law an_law cd_law ct_law, fun s v => .of_eq rfl, fun base _ _ => ?_⟩
  have o_is_whole := ok_is_whole (P := l.prog) (w := w) (base := base) T d_is_whole 
  have o_is_name := ok_is_name (P := l.prog) (w := w) (base := base) T d_is_name 
  have o_terms_in := ok_terms_in (P := l.prog) (w := w) (base := base) T d_terms_in 
  have o_rows_in := ok_rows_in (P := l.prog) (w := w) (base := base) T d_rows_in 
  have o__law_feed := ok__law_feed (P := l.prog) (w := w) (base := base) T d__law_feed 
  have o__law_take := ok__law_take (P := l.prog) (w := w) (base := base) T d__law_take 
  have o__law_whole := ok__law_whole (P := l.prog) (w := w) (base := base) T d__law_whole 
  have o__law_is_name := ok__law_is_name (P := l.prog) (w := w) (base := base) T d__law_is_name 
  have o__law_names_in := ok__law_names_in (P := l.prog) (w := w) (base := base) T d__law_names_in 
  have o__law_may_bend := ok__law_may_bend (P := l.prog) (w := w) (base := base) T d__law_may_bend 
  have o_is_term := ok_is_term (P := l.prog) (w := w) (base := base) T d_is_term o_is_whole o_is_name
  have o_term_names := ok_term_names (P := l.prog) (w := w) (base := base) T d_term_names o_is_name o_terms_in
  have o_row_names := ok_row_names (P := l.prog) (w := w) (base := base) T d_row_names o_rows_in
  have o__law_pick := ok__law_pick (P := l.prog) (w := w) (base := base) T d__law_pick o__law_take
  have o__law_names := ok__law_names (P := l.prog) (w := w) (base := base) T d__law_names o__law_take
  have o__law_is_term := ok__law_is_term (P := l.prog) (w := w) (base := base) T d__law_is_term o__law_whole o__law_is_name
  have o_is_piece := ok_is_piece (P := l.prog) (w := w) (base := base) T d_is_piece o_is_name o_is_term
  have o_is_fact := ok_is_fact (P := l.prog) (w := w) (base := base) T d_is_fact o_is_term
  have o__law_number := ok__law_number (P := l.prog) (w := w) (base := base) T d__law_number o__law_take o__law_pick
  have o__law_is_word := ok__law_is_word (P := l.prog) (w := w) (base := base) T d__law_is_word o__law_is_name o__law_is_term
  have o__law_odd := ok__law_odd (P := l.prog) (w := w) (base := base) T d__law_odd o__law_pick
  have o_is_word := ok_is_word (P := l.prog) (w := w) (base := base) T d_is_word o_is_piece
  have o__law_word := ok__law_word (P := l.prog) (w := w) (base := base) T d__law_word o__law_take o__law_pick o__law_number
  have o__law_is_item := ok__law_is_item (P := l.prog) (w := w) (base := base) T d__law_is_item o__law_is_term o__law_is_word
  have o__law_term := ok__law_term (P := l.prog) (w := w) (base := base) T d__law_term o__law_pick o__law_number
  have o__law_bent_item := ok__law_bent_item (P := l.prog) (w := w) (base := base) T d__law_bent_item o__law_take o__law_pick o__law_odd
  have o_is_part := ok_is_part (P := l.prog) (w := w) (base := base) T d_is_part o_is_term o_is_word
  have o__law_is_claim := ok__law_is_claim (P := l.prog) (w := w) (base := base) T d__law_is_claim o__law_names_in o__law_is_item
  have o__law_any_claim := ok__law_any_claim (P := l.prog) (w := w) (base := base) T d__law_any_claim o__law_take o__law_pick o__law_word o__law_term
  have o__law_bent := ok__law_bent (P := l.prog) (w := w) (base := base) T d__law_bent o__law_take o__law_pick o__law_bent_item
  have o_has_form := ok_has_form (P := l.prog) (w := w) (base := base) T d_has_form o_is_fact o_is_part
  have o_is_claim := ok_is_claim (P := l.prog) (w := w) (base := base) T d_is_claim o_term_names o_row_names o_has_form
  exact ok_law (P := l.prog) (w := w) (base := base) T u_law o__law_feed o__law_take o__law_may_bend o__law_names o__law_is_claim o__law_any_claim o__law_bent o_is_claim
end k03
open PySem PySem.W PyProof.Rows
set_option maxHeartbeats 0 in
theorem PySem.Challenge.cw_cellvouch_k03_what_is_a_claim_holds : PySem.Challenge.rw_cellvouch_k03_what_is_a_claim.Holds := by
  w_on; o_law; k_head; (case hw => w_witness2)
  k_fill
  refine Vm.walk_at (l := PySem.Challenge.rw_cellvouch_k03_what_is_a_claim) (n := 63) (x := "script") (sp := fun w => Vm.spD _ 1 k03.F_law) rfl (by decide) rfl (fun w h Y => PySem.W.kIn_of Y) ?F (fun _ _ a ns hl hS => k03.law_sp hl hS)
  case F =>
    intro w mg fa h KX G hmg
    refine' k03.all_mk KX G hmg ?a_is_whole ?l_is_whole ?c_is_whole ?k_is_whole ?a_is_name ?l_is_name ?c_is_name ?k_is_name ?a_terms_in ?l_terms_in ?c_terms_in ?k_terms_in ?a_rows_in ?l_rows_in ?c_rows_in ?k_rows_in ?a__law_feed ?l__law_feed ?c__law_feed ?k__law_feed ?a__law_take ?l__law_take ?c__law_take ?k__law_take ?a__law_whole ?l__law_whole ?c__law_whole ?k__law_whole ?a__law_is_name ?l__law_is_name ?c__law_is_name ?k__law_is_name ?a__law_names_in ?l__law_names_in ?c__law_names_in ?k__law_names_in ?a__law_may_bend ?l__law_may_bend ?c__law_may_bend ?k__law_may_bend ?a_is_term ?l_is_term ?c_is_term ?k_is_term ?a_term_names ?l_term_names ?c_term_names ?k_term_names ?a_row_names ?l_row_names ?c_row_names ?k_row_names ?a__law_pick ?l__law_pick ?c__law_pick ?k__law_pick ?a__law_names ?l__law_names ?c__law_names ?k__law_names ?a__law_is_term ?l__law_is_term ?c__law_is_term ?k__law_is_term ?a_is_piece ?l_is_piece ?c_is_piece ?k_is_piece ?a_is_fact ?l_is_fact ?c_is_fact ?k_is_fact ?a__law_number ?l__law_number ?c__law_number ?k__law_number ?a__law_is_word ?l__law_is_word ?c__law_is_word ?k__law_is_word ?a__law_odd ?l__law_odd ?c__law_odd ?k__law_odd ?a_is_word ?l_is_word ?c_is_word ?k_is_word ?a__law_word ?l__law_word ?c__law_word ?k__law_word ?a__law_is_item ?l__law_is_item ?c__law_is_item ?k__law_is_item ?a__law_term ?l__law_term ?c__law_term ?k__law_term ?a__law_bent_item ?l__law_bent_item ?c__law_bent_item ?k__law_bent_item ?a_is_part ?l_is_part ?c_is_part ?k_is_part ?a__law_is_claim ?l__law_is_claim ?c__law_is_claim ?k__law_is_claim ?a__law_any_claim ?l__law_any_claim ?c__law_any_claim ?k__law_any_claim ?a__law_bent ?l__law_bent ?c__law_bent ?k__law_bent ?a_has_form ?l_has_form ?c_has_form ?k_has_form ?a_is_claim ?l_is_claim ?c_is_claim ?k_is_claim ?a_law ?l_law ?c_law ?k_law ?z_abs ?z_all ?z_bool ?z_int ?z_isinstance ?z_len ?z_list ?z_max ?z_min ?z_range ?z_repr ?z_set ?z_sorted ?z_str ?z_tuple ?g_LARGEST ?g_MOST_FACTS ?g_MOST_LETTERS ?g_MOST_PARTS ?g_MOST_PIECES
    (case a_is_whole => k_is); (case l_is_whole => k_is); (case c_is_whole => k_is); (case k_is_whole => k_is); (case a_is_name => k_is); (case l_is_name => k_is); (case c_is_name => k_is); (case k_is_name => k_is); (case a_terms_in => k_is); (case l_terms_in => k_is); (case c_terms_in => k_is); (case k_terms_in => k_is); (case a_rows_in => k_is); (case l_rows_in => k_is); (case c_rows_in => k_is); (case k_rows_in => k_is); (case a__law_feed => k_is); (case l__law_feed => k_is); (case c__law_feed => k_is); (case k__law_feed => k_is); (case a__law_take => k_is); (case l__law_take => k_is); (case c__law_take => k_is); (case k__law_take => k_is); (case a__law_whole => k_is); (case l__law_whole => k_is); (case c__law_whole => k_is); (case k__law_whole => k_is); (case a__law_is_name => k_is); (case l__law_is_name => k_is); (case c__law_is_name => k_is); (case k__law_is_name => k_is); (case a__law_names_in => k_is); (case l__law_names_in => k_is); (case c__law_names_in => k_is); (case k__law_names_in => k_is); (case a__law_may_bend => k_is); (case l__law_may_bend => k_is); (case c__law_may_bend => k_is); (case k__law_may_bend => k_is); (case a_is_term => k_is); (case l_is_term => k_is); (case c_is_term => k_is); (case k_is_term => k_is); (case a_term_names => k_is); (case l_term_names => k_is); (case c_term_names => k_is); (case k_term_names => k_is); (case a_row_names => k_is); (case l_row_names => k_is); (case c_row_names => k_is); (case k_row_names => k_is); (case a__law_pick => k_is); (case l__law_pick => k_is); (case c__law_pick => k_is); (case k__law_pick => k_is); (case a__law_names => k_is); (case l__law_names => k_is); (case c__law_names => k_is); (case k__law_names => k_is); (case a__law_is_term => k_is); (case l__law_is_term => k_is); (case c__law_is_term => k_is); (case k__law_is_term => k_is); (case a_is_piece => k_is); (case l_is_piece => k_is); (case c_is_piece => k_is); (case k_is_piece => k_is); (case a_is_fact => k_is); (case l_is_fact => k_is); (case c_is_fact => k_is); (case k_is_fact => k_is); (case a__law_number => k_is); (case l__law_number => k_is); (case c__law_number => k_is); (case k__law_number => k_is); (case a__law_is_word => k_is); (case l__law_is_word => k_is); (case c__law_is_word => k_is); (case k__law_is_word => k_is); (case a__law_odd => k_is); (case l__law_odd => k_is); (case c__law_odd => k_is); (case k__law_odd => k_is); (case a_is_word => k_is); (case l_is_word => k_is); (case c_is_word => k_is); (case k_is_word => k_is); (case a__law_word => k_is); (case l__law_word => k_is); (case c__law_word => k_is); (case k__law_word => k_is); (case a__law_is_item => k_is); (case l__law_is_item => k_is); (case c__law_is_item => k_is); (case k__law_is_item => k_is); (case a__law_term => k_is); (case l__law_term => k_is); (case c__law_term => k_is); (case k__law_term => k_is); (case a__law_bent_item => k_is); (case l__law_bent_item => k_is); (case c__law_bent_item => k_is); (case k__law_bent_item => k_is); (case a_is_part => k_is); (case l_is_part => k_is); (case c_is_part => k_is); (case k_is_part => k_is); (case a__law_is_claim => k_is); (case l__law_is_claim => k_is); (case c__law_is_claim => k_is); (case k__law_is_claim => k_is); (case a__law_any_claim => k_is); (case l__law_any_claim => k_is); (case c__law_any_claim => k_is); (case k__law_any_claim => k_is); (case a__law_bent => k_is); (case l__law_bent => k_is); (case c__law_bent => k_is); (case k__law_bent => k_is); (case a_has_form => k_is); (case l_has_form => k_is); (case c_has_form => k_is); (case k_has_form => k_is); (case a_is_claim => k_is); (case l_is_claim => k_is); (case c_is_claim => k_is); (case k_is_claim => k_is); (case a_law => k_is); (case l_law => k_is); (case c_law => k_is); (case k_law => k_is); (case z_abs => k_is); (case z_all => k_is); (case z_bool => k_is); (case z_int => k_is); (case z_isinstance => k_is); (case z_len => k_is); (case z_list => k_is); (case z_max => k_is); (case z_min => k_is); (case z_range => k_is); (case z_repr => k_is); (case z_set => k_is); (case z_sorted => k_is); (case z_str => k_is); (case z_tuple => k_is); (case g_LARGEST => k_is); (case g_MOST_FACTS => k_is); (case g_MOST_LETTERS => k_is); (case g_MOST_PARTS => k_is); (case g_MOST_PIECES => k_is)
