import PyProof.Rows.All
import Wide.All
import OpenK.AllK
import Wide.FinOn
import HandS.ForMost
import HandS.ExcInit
import HandS.ExcValue
import HandS.ExcField
import HandS.FStr
import HandS.Wide
import HandS.TupAny
import HandS.TupMul
import HandS.TupLe
import HandS.Deep
import HandS.IsInst
import HandS.Zip
import HandS.More
import HandS.Strs
import KE.GoesMore
import HandS.ExcIs
import PySem.Challenge.RW_codelots_k08_refusals_made_by_hand
set_option Elab.async false
set_option linter.all false
set_option maxRecDepth 100000
set_option maxHeartbeats 16000000
/-! Data of a program's run without addresses; how a heap bears it. -/
namespace IP
open PySem L2

/-- data: loc n is the n-th object of the store (it may change); rol a list that nobody changes; cls a class or the like, by its value; exc an exception that is held, of the class at C, its fields -/
inductive D where
  | non | bl (b : Bool) | int (i : Int) | str (s : Str) | tup (xs : List D) | loc (n : Nat) | rol (xs : List D) | cls (v : V) | exc (C : Addr) (ns : List Str) (xs : List D)
/-- what may change -/
inductive O where
  | lst (xs : List D) | dK (kvs : List (L2.Key × D)) | dT (kvs : List (List L2.Key × D))
abbrev Store := List O

/-- a list that nobody changes -/
def RoL (K : PySem.W.Frag) (H : Hp) (ms : List Addr) (a : Addr) (xs : List V) : Prop :=
  (∃ o, H a = some (.frz o (.lst xs))) ∨
    ∃ (o : Obj) (its : Array Value) (n : Nat), K.lookup a = some o ∧ o.cls = .type "list" ∧ o.dict = none ∧ o.data = .seq its n ∧ its.size ≤ sizeLine ∧ Vals xs its.toList
theorem RoL.seq {K : PySem.W.Frag} {H : Hp} {ms : List Addr} {a : Addr} {xs : List V} (h : RoL K H ms a xs) : SqL K H a xs := by
  rcases h with ⟨o, h⟩ | h
  · exact .inl (.inr ⟨o, h⟩)
  · exact .inr h

mutual
inductive Rep (K : PySem.W.Frag) (H : Hp) (ms : List Addr) : D → V → Prop where
  | non : Rep K H ms .non .non
  | bl (b : Bool) : Rep K H ms (.bl b) (.bl b)
  | int (i : Int) : Rep K H ms (.int i) (.int i)
  | str (s : Str) : Rep K H ms (.str s) (.str s)
  | tup {a : Addr} {vs : List V} {ds : List D} (h : SqT K H a vs) (r : Reps K H ms ds vs) : Rep K H ms (.tup ds) (.ref a)
  | loc {n : Nat} {a : Addr} (h : ms[n]? = some a) : Rep K H ms (.loc n) (.ref a)
  | rol {a : Addr} {vs : List V} {ds : List D} (h : RoL K H ms a vs) (r : Reps K H ms ds vs) : Rep K H ms (.rol ds) (.ref a)
  | cls (v : V) : Rep K H ms (.cls v) v
  | exc {a C d : Addr} {ns : List Str} {xs : List D} {vs : List V} (h : H a = some (exo a C (some d))) (hd : H d = some (exd d (ns.zip vs))) (r : Reps K H ms xs vs) : Rep K H ms (.exc C ns xs) (.ref a)
  | exc0 {a C : Addr} (h : H a = some (ExO (.ref C) a)) : Rep K H ms (.exc C [] []) (.ref a)
inductive Reps (K : PySem.W.Frag) (H : Hp) (ms : List Addr) : List D → List V → Prop where
  | nil : Reps K H ms [] []
  | cons {d : D} {v : V} {ds : List D} {vs : List V} (h : Rep K H ms d v) (t : Reps K H ms ds vs) : Reps K H ms (d :: ds) (v :: vs)
end

section
variable {K : PySem.W.Frag} {H H' : Hp} {ms : List Addr}
theorem Reps.length : ∀ {ds : List D} {vs : List V}, Reps K H ms ds vs → ds.length = vs.length
  | _, _, .nil => rfl
  | _, _, .cons _ t => by rw [List.length_cons, List.length_cons, t.length]
theorem Reps.get : ∀ {ds : List D} {vs : List V} {i : Nat} {d : D}, Reps K H ms ds vs → ds[i]? = some d → ∃ v, vs[i]? = some v ∧ Rep K H ms d v
  | _, _, _, _, .nil, e => by simp at e
  | _, _, 0, _, .cons h _, e => by simp at e; subst e; exact ⟨_, rfl, h⟩
  | _, _, i + 1, d, .cons _ t, e => by
    obtain ⟨v, h1, h2⟩ := Reps.get (i := i) (d := d) t (by simpa using e)
    exact ⟨v, by simpa using h1, h2⟩
theorem Reps.getV : ∀ {ds : List D} {vs : List V} {i : Nat} {v : V}, Reps K H ms ds vs → vs[i]? = some v → ∃ d, ds[i]? = some d ∧ Rep K H ms d v
  | _, _, _, _, .nil, e => by simp at e
  | _, _, 0, _, .cons h _, e => by simp at e; subst e; exact ⟨_, rfl, h⟩
  | _, _, i + 1, v, .cons _ t, e => by
    obtain ⟨d, h1, h2⟩ := Reps.getV (i := i) (v := v) t (by simpa using e)
    exact ⟨d, by simpa using h1, h2⟩
theorem Reps.append : ∀ {ds es : List D} {vs ws : List V}, Reps K H ms ds vs → Reps K H ms es ws → Reps K H ms (ds ++ es) (vs ++ ws)
  | _, _, _, _, .nil, s => s
  | _, _, _, _, .cons h t, s => .cons h (Reps.append t s)
theorem Reps.take : ∀ {ds : List D} {vs : List V} (n : Nat), Reps K H ms ds vs → Reps K H ms (ds.take n) (vs.take n)
  | _, _, 0, _ => .nil
  | _, _, _ + 1, .nil => .nil
  | _, _, n + 1, .cons h t => .cons h (Reps.take n t)
theorem Reps.drop : ∀ {ds : List D} {vs : List V} (n : Nat), Reps K H ms ds vs → Reps K H ms (ds.drop n) (vs.drop n)
  | _, _, 0, r => r
  | _, _, _ + 1, .nil => .nil
  | _, _, n + 1, .cons _ t => Reps.drop n t
theorem Reps.set {d : D} {v : V} (r : Rep K H ms d v) : ∀ {ds : List D} {vs : List V} (i : Nat), Reps K H ms ds vs → Reps K H ms (ds.set i d) (vs.set i v)
  | _, _, _, .nil => .nil
  | _, _, 0, .cons _ t => .cons r t
  | _, _, i + 1, .cons q t => .cons q (Reps.set r i t)
end

/-- how an object of the store is borne -/
def RO (K : PySem.W.Frag) (H : Hp) (ms : List Addr) : O → HO → Prop
  | .lst ds, u => ∃ vs, u = .lst vs ∧ Reps K H ms ds vs
  | .dK kvs, u => ∃ ws, u = .dK ws ∧ Paired (fun (p : L2.Key × D) (q : L2.Key × V) => p.1 = q.1 ∧ Rep K H ms p.2 q.2) kvs ws
  | .dT kvs, u => ∃ ws, u = .dT ws ∧ Paired (fun (p : List L2.Key × D) (q : List L2.Key × V) => p.1 = q.1 ∧ Rep K H ms p.2 q.2) kvs ws
/-- the store S stands in the heap H, its objects at ms -/
structure SR (K : PySem.W.Frag) (ms : List Addr) (S : Store) (H : Hp) : Prop where
  len : ms.length = S.length
  nd : ms.Nodup
  ob : ∀ (n : Nat) (a : Addr) (o : O), ms[n]? = some a → S[n]? = some o → ∃ u, H a = some u ∧ RO K H ms o u
/-- the heap has gone on: the store's objects may have changed, new ones have come, all else stands -/
structure Gr (ms : List Addr) (H : Hp) (ms' : List Addr) (H' : Hp) : Prop where
  pre : ∃ t, ms' = ms ++ t ∧ ∀ a ∈ t, a ∉ ms ∧ H a = none
  keep : ∀ a o, a ∉ ms → H a = some o → H' a = some o
theorem Gr.refl (ms : List Addr) (H : Hp) : Gr ms H ms H := ⟨⟨[], by simp, by simp⟩, fun _ _ _ h => h⟩
theorem Gr.trans {ms ms1 ms2 : List Addr} {H H1 H2 : Hp} (g : Gr ms H ms1 H1) (g' : Gr ms1 H1 ms2 H2) : Gr ms H ms2 H2 := by
  obtain ⟨⟨t, rfl, ht⟩, k⟩ := g
  obtain ⟨⟨t', rfl, ht'⟩, k'⟩ := g'
  have aux : ∀ a o, a ∉ ms → H a = some o → a ∉ ms ++ t := fun a o ha e z => by
    rcases List.mem_append.mp z with z | z
    · exact ha z
    · rw [(ht a z).2] at e; cases e
  refine ⟨⟨t ++ t', by simp, fun a ha => ?_⟩, fun a o ha e => k' a o (aux a o ha e) (k a o ha e)⟩
  rcases List.mem_append.mp ha with h | h
  · exact ht a h
  · have h1 := ht' a h
    have hm : a ∉ ms := fun z => h1.1 (List.mem_append_left _ z)
    refine ⟨hm, ?_⟩
    cases e : H a with
    | none => rfl
    | some o =>
      have := k a o hm e
      rw [h1.2] at this
      cases this
theorem Gr.mem {ms ms' : List Addr} {H H' : Hp} (g : Gr ms H ms' H') {n : Nat} {a : Addr} (h : ms[n]? = some a) : ms'[n]? = some a := by
  obtain ⟨t, rfl, _⟩ := g.pre
  have hn : n < ms.length := (List.getElem?_eq_some_iff.mp h).1
  rw [List.getElem?_append_left hn]
  exact h
theorem Gr.out {ms ms' : List Addr} {H H' : Hp} (g : Gr ms H ms' H') {a : Addr} {o : HO} (h : a ∉ ms) (e : H a = some o) : a ∉ ms' := by
  obtain ⟨t, rfl, ht⟩ := g.pre
  intro z
  rcases List.mem_append.mp z with z | z
  · exact h z
  · rw [(ht a z).2] at e; cases e
/-- a new object -/
theorem Gr.new {ms : List Addr} {H : Hp} {p : Addr} {o : HO} (hp : H p = none) : Gr ms H ms (upd H p o) :=
  ⟨⟨[], by simp, by simp⟩, fun a u _ e => by rw [upd_ne (ne_of_none e hp)]; exact e⟩
theorem Gr.alloc {ms : List Addr} {H : Hp} {p : Addr} {o : HO} (hp : H p = none) (hm : p ∉ ms) : Gr ms H (ms ++ [p]) (upd H p o) :=
  ⟨⟨[p], rfl, fun a ha => by rw [List.mem_singleton] at ha; subst ha; exact ⟨hm, hp⟩⟩, fun a u _ e => by rw [upd_ne (ne_of_none e hp)]; exact e⟩
/-- an object of the store is changed -/
theorem Gr.put {ms : List Addr} {H : Hp} {p : Addr} {o : HO} (hm : p ∈ ms) : Gr ms H ms (upd H p o) :=
  ⟨⟨[], by simp, by simp⟩, fun a u ha e => by rw [upd_ne (fun z => ha (by rw [z]; exact hm))]; exact e⟩

/-- what a store's object looks like -/
def MuO : HO → Prop
  | .lst _ => True
  | .dK _ => True
  | .dT _ => True
  | _ => False
def Muts (ms : List Addr) (H : Hp) : Prop := ∀ a ∈ ms, ∃ u, H a = some u ∧ MuO u
section
variable {K : PySem.W.Frag} {H H' : Hp} {ms ms' : List Addr} {S : Store}
theorem SR.muts (h : SR K ms S H) : Muts ms H := fun a ha => by
  obtain ⟨n, hn, e⟩ := List.getElem_of_mem ha
  have e1 : ms[n]? = some a := by rw [List.getElem?_eq_getElem hn, e]
  have hs : n < S.length := by rw [← h.len]; exact hn
  obtain ⟨u, hu, r⟩ := h.ob n a S[n] e1 (List.getElem?_eq_getElem hs)
  refine ⟨u, hu, ?_⟩
  cases hS : S[n] with
  | lst ds => rw [hS] at r; obtain ⟨_, rfl, _⟩ := r; trivial
  | dK ds => rw [hS] at r; obtain ⟨_, rfl, _⟩ := r; trivial
  | dT ds => rw [hS] at r; obtain ⟨_, rfl, _⟩ := r; trivial
theorem SR.fresh (h : SR K ms S H) {p : Addr} (hp : H p = none) : p ∉ ms := fun z => by
  obtain ⟨u, hu, _⟩ := h.muts p z
  rw [hp] at hu; cases hu
theorem tup_mono {a : Addr} {xs : List V} (hm : Muts ms H) (g : Gr ms H ms' H') (h : SqT K H a xs) : SqT K H' a xs := by
  rcases h with (h | ⟨o, h⟩) | h
  · refine .inl (.inl (g.keep a _ (fun z => ?_) h))
    obtain ⟨u, hu, q⟩ := hm a z
    rw [h] at hu; cases hu; exact q
  · refine .inl (.inr ⟨o, g.keep a _ (fun z => ?_) h⟩)
    obtain ⟨u, hu, q⟩ := hm a z
    rw [h] at hu; cases hu; exact q
  · exact .inr h
theorem rol_mono {a : Addr} {xs : List V} (hm : Muts ms H) (g : Gr ms H ms' H') (h : RoL K H ms a xs) : RoL K H' ms' a xs := by
  rcases h with ⟨o, h⟩ | h
  · refine .inl ⟨o, g.keep a _ (fun z => ?_) h⟩
    obtain ⟨u, hu, q⟩ := hm a z
    rw [h] at hu; cases hu; exact q
  · exact .inr h
theorem keep_ext {a : Addr} {φ : Heap → Prop} (hm : Muts ms H) (g : Gr ms H ms' H') (h : H a = some (.ext φ)) : H' a = some (.ext φ) := g.keep a _ (fun z => by
  obtain ⟨u, hu, q⟩ := hm a z
  rw [h] at hu; cases hu; exact q) h
mutual
theorem Rep.mono (hm : Muts ms H) (g : Gr ms H ms' H') : ∀ {d : D} {v : V}, Rep K H ms d v → Rep K H' ms' d v
  | _, _, .non => .non
  | _, _, .bl b => .bl b
  | _, _, .int i => .int i
  | _, _, .str s => .str s
  | _, _, .tup h r => .tup (tup_mono hm g h) (Reps.mono hm g r)
  | _, _, .loc h => .loc (g.mem h)
  | _, _, .rol h r => .rol (rol_mono hm g h) (Reps.mono hm g r)
  | _, _, .cls v => .cls v
  | _, _, .exc h hd r => .exc (keep_ext hm g h) (keep_ext hm g hd) (Reps.mono hm g r)
  | _, _, .exc0 h => .exc0 (keep_ext hm g h)
theorem Reps.mono (hm : Muts ms H) (g : Gr ms H ms' H') : ∀ {ds : List D} {vs : List V}, Reps K H ms ds vs → Reps K H' ms' ds vs
  | _, _, .nil => .nil
  | _, _, .cons h t => .cons (Rep.mono hm g h) (Reps.mono hm g t)
end
mutual
/-- the store's list of places may be longer -/
theorem Rep.more {t : List Addr} : ∀ {d : D} {v : V}, Rep K H ms d v → Rep K H (ms ++ t) d v
  | _, _, .non => .non
  | _, _, .bl b => .bl b
  | _, _, .int i => .int i
  | _, _, .str s => .str s
  | _, _, .tup h r => .tup h (Reps.more r)
  | _, _, .loc h => .loc (by rw [List.getElem?_append_left (List.getElem?_eq_some_iff.mp h).1]; exact h)
  | _, _, .rol h r => .rol h (Reps.more r)
  | _, _, .cls v => .cls v
  | _, _, .exc h hd r => .exc h hd (Reps.more r)
  | _, _, .exc0 h => .exc0 h
theorem Reps.more {t : List Addr} : ∀ {ds : List D} {vs : List V}, Reps K H ms ds vs → Reps K H (ms ++ t) ds vs
  | _, _, .nil => .nil
  | _, _, .cons h t => .cons (Rep.more h) (Reps.more t)
end
theorem RO.more {t : List Addr} {o : O} {u : HO} (r : RO K H ms o u) : RO K H (ms ++ t) o u := by
  cases o with
  | lst ds => obtain ⟨vs, rfl, r⟩ := r; exact ⟨vs, rfl, r.more⟩
  | dK ds => obtain ⟨vs, rfl, r⟩ := r; exact ⟨vs, rfl, Paired.mapP r fun _ _ z => ⟨z.1, z.2.more⟩⟩
  | dT ds => obtain ⟨vs, rfl, r⟩ := r; exact ⟨vs, rfl, Paired.mapP r fun _ _ z => ⟨z.1, z.2.more⟩⟩
theorem RO.mono (hm : Muts ms H) (g : Gr ms H ms' H') {o : O} {u : HO} (r : RO K H ms o u) : RO K H' ms' o u := by
  cases o with
  | lst ds => obtain ⟨vs, rfl, r⟩ := r; exact ⟨vs, rfl, r.mono hm g⟩
  | dK ds => obtain ⟨vs, rfl, r⟩ := r; exact ⟨vs, rfl, Paired.mapP r fun _ _ z => ⟨z.1, z.2.mono hm g⟩⟩
  | dT ds => obtain ⟨vs, rfl, r⟩ := r; exact ⟨vs, rfl, Paired.mapP r fun _ _ z => ⟨z.1, z.2.mono hm g⟩⟩
/-- a new thing beside the store -/
theorem SR.new (h : SR K ms S H) {p : Addr} {u : HO} (hp : H p = none) : SR K ms S (upd H p u) :=
  ⟨h.len, h.nd, fun n a o e1 e2 => by
    obtain ⟨w, hw, r⟩ := h.ob n a o e1 e2
    exact ⟨w, by rw [upd_ne (ne_of_none hw hp)]; exact hw, r.mono h.muts (Gr.new hp)⟩⟩
/-- a new object of the store -/
theorem SR.alloc (h : SR K ms S H) {p : Addr} {o : O} {u : HO} (hp : H p = none) (r : RO K H ms o u) : SR K (ms ++ [p]) (S ++ [o]) (upd H p u) := by
  have hm := h.fresh hp
  have g : Gr ms H (ms ++ [p]) (upd H p u) := Gr.alloc hp hm
  refine ⟨by simp [h.len], ?_, fun n a o' e1 e2 => ?_⟩
  · rw [List.nodup_append]
    refine ⟨h.nd, by simp, fun x hx y hy => ?_⟩
    rw [List.mem_singleton] at hy
    subst hy
    exact fun z => hm (by rw [← z]; exact hx)
  · by_cases hn : n < ms.length
    · rw [List.getElem?_append_left hn] at e1
      rw [List.getElem?_append_left (by rw [← h.len]; exact hn)] at e2
      obtain ⟨w, hw, r'⟩ := h.ob n a o' e1 e2
      exact ⟨w, by rw [upd_ne (ne_of_none hw hp)]; exact hw, r'.mono h.muts g⟩
    · rw [List.getElem?_append_right (by omega)] at e1
      rw [List.getElem?_append_right (by rw [← h.len]; omega)] at e2
      have e0 : n - ms.length = 0 := by
        have := (List.getElem?_eq_some_iff.mp e1).1
        simp at this
        omega
      rw [e0] at e1
      have e0' : n - S.length = 0 := by rw [← h.len]; exact e0
      rw [e0'] at e2
      simp at e1 e2
      subst e1 e2
      exact ⟨u, upd_same, r.mono h.muts g⟩
/-- an object that stands is taken into the store -/
theorem SR.adopt (h : SR K ms S H) {p : Addr} {o : O} {u : HO} (hp : H p = some u) (hm : p ∉ ms) (r : RO K H ms o u) : SR K (ms ++ [p]) (S ++ [o]) H := by
  refine ⟨by simp [h.len], ?_, fun n a o' e1 e2 => ?_⟩
  · rw [List.nodup_append]
    refine ⟨h.nd, by simp, fun x hx y hy => ?_⟩
    rw [List.mem_singleton] at hy
    subst hy
    exact fun z => hm (by rw [← z]; exact hx)
  · by_cases hn : n < ms.length
    · rw [List.getElem?_append_left hn] at e1
      rw [List.getElem?_append_left (by rw [← h.len]; exact hn)] at e2
      obtain ⟨w, hw, r'⟩ := h.ob n a o' e1 e2
      exact ⟨w, hw, r'.more⟩
    · rw [List.getElem?_append_right (by omega)] at e1
      rw [List.getElem?_append_right (by rw [← h.len]; omega)] at e2
      have e0 : n - ms.length = 0 := by
        have := (List.getElem?_eq_some_iff.mp e1).1
        simp at this
        omega
      rw [e0] at e1
      have e0' : n - S.length = 0 := by rw [← h.len]; exact e0
      rw [e0'] at e2
      simp at e1 e2
      subst e1 e2
      exact ⟨u, hp, r.more⟩
/-- an object of the store is changed -/
theorem SR.put (h : SR K ms S H) {n : Nat} {p : Addr} {o : O} {u : HO} (e : ms[n]? = some p) (mu : MuO u) (r : RO K H ms o u) : SR K ms (S.set n o) (upd H p u) := by
  have hm : p ∈ ms := List.mem_of_getElem? e
  have g : Gr ms H ms (upd H p u) := Gr.put hm
  have hn : n < ms.length := (List.getElem?_eq_some_iff.mp e).1
  refine ⟨by simp [h.len], h.nd, fun k a o' e1 e2 => ?_⟩
  by_cases hk : k = n
  · subst hk
    rw [e] at e1
    cases e1
    rw [List.getElem?_set_self (by rw [← h.len]; exact hn)] at e2
    cases e2
    exact ⟨u, upd_same, r.mono h.muts g⟩
  · rw [List.getElem?_set_ne (Ne.symm hk)] at e2
    obtain ⟨w, hw, r'⟩ := h.ob k a o' e1 e2
    have ne : a ≠ p := fun z => by
      subst z
      have hkl := (List.getElem?_eq_some_iff.mp e1)
      have hnl := (List.getElem?_eq_some_iff.mp e)
      exact hk ((List.getElem_inj h.nd).mp (hkl.2.trans hnl.2.symm))
    exact ⟨w, by rw [upd_ne ne]; exact hw, r'.mono h.muts g⟩
theorem SR.lst (h : SR K ms S H) {n : Nat} {a : Addr} {ds : List D} (e1 : ms[n]? = some a) (e2 : S[n]? = some (.lst ds)) : ∃ vs, H a = some (.lst vs) ∧ Reps K H ms ds vs := by
  obtain ⟨u, hu, vs, rfl, r⟩ := h.ob n a _ e1 e2
  exact ⟨vs, hu, r⟩
theorem SR.len_lt (h : SR K ms S H) {n : Nat} {o : O} (e2 : S[n]? = some o) : ∃ a, ms[n]? = some a := by
  have : n < S.length := (List.getElem?_eq_some_iff.mp e2).1
  exact ⟨ms[n]'(by rw [h.len]; exact this), List.getElem?_eq_getElem _⟩
end
end IP

namespace IP
open PySem L2

def LIM : Nat := 100000
theorem lim_size {n : Nat} (h : n ≤ LIM) : n ≤ sizeLine := Nat.le_trans h (by decide)
theorem lim_lt {n : Nat} (h : n < LIM) : n < sizeLine := Nat.lt_of_lt_of_le h (by decide)
def alloc (S : Store) (o : O) : Option (D × Store) := some (.loc S.length, S ++ [o])

/-! ### data as a whole -/
def toPy (S : Store) : Nat → D → Option PyData
  | 0, _ => none
  | n + 1, d => match d with
    | .non => some .none
    | .bl b => some (.bool b)
    | .int i => some (.int i)
    | .str s => some (.str s)
    | .tup xs => (xs.mapM (toPy S n)).map .tuple
    | .rol xs => (xs.mapM (toPy S n)).map .list
    | .loc k => match S[k]? with
      | some (.lst xs) => (xs.mapM (toPy S n)).map .list
      | _ => none
    | .cls _ => none
    | .exc _ _ _ => none
section
variable {K : PySem.W.Frag} {H : Hp} {ms : List Addr} {S : Store}
theorem dpAll_of {f : D → Option PyData} (ih : ∀ d p v, f d = some p → Rep K H ms d v → Dp K H v p) : ∀ (ds : List D) (vs : List V) (ps : List PyData), ds.mapM f = some ps → Reps K H ms ds vs → DpAll K H vs ps
  | [], vs, ps, e, r => by
    cases r
    simp at e
    subst e
    exact .nil
  | d :: ds, vs, ps, e, r => by
    cases r with
    | cons h t =>
      simp only [List.mapM_cons] at e
      cases e1 : f d with
      | none => rw [e1] at e; simp at e
      | some p =>
        cases e2 : ds.mapM f with
        | none => rw [e1, e2] at e; simp at e
        | some qs =>
          rw [e1, e2] at e
          simp at e
          subst e
          exact .cons (ih d p _ e1 h) (dpAll_of ih ds _ qs e2 t)
theorem dp_of (h : SR K ms S H) : ∀ (n : Nat) (d : D) (p : PyData) (v : V), toPy S n d = some p → Rep K H ms d v → Dp K H v p
  | 0, d, p, v, e, r => by simp [toPy] at e
  | n + 1, d, p, v, e, r => by
    cases r with
    | non => simp only [toPy] at e; cases e; exact .non
    | bl b => simp only [toPy] at e; cases e; exact .bl b
    | int i => simp only [toPy] at e; cases e; exact .int i
    | str s => simp only [toPy] at e; cases e; exact .str s
    | tup hq r =>
      simp only [toPy] at e
      obtain ⟨ps, e1, rfl⟩ := Option.map_eq_some_iff.mp e
      exact .tup hq (dpAll_of (dp_of h n) _ _ ps e1 r)
    | rol hq r =>
      simp only [toPy] at e
      obtain ⟨ps, e1, rfl⟩ := Option.map_eq_some_iff.mp e
      exact .lst hq.seq (dpAll_of (dp_of h n) _ _ ps e1 r)
    | loc hl =>
      rename_i k a
      simp only [toPy] at e
      cases e2 : S[k]? with
      | none => rw [e2] at e; simp at e
      | some o =>
        rw [e2] at e
        cases o with
        | lst xs =>
          simp only at e
          obtain ⟨ps, e1, rfl⟩ := Option.map_eq_some_iff.mp e
          obtain ⟨vs, hv, r⟩ := h.lst hl e2
          exact .lst (SqL.of hv) (dpAll_of (dp_of h n) _ _ ps e1 r)
        | dK _ => simp at e
        | dT _ => simp at e
    | cls => simp only [toPy] at e; cases e
    | exc _ _ _ => simp only [toPy] at e; cases e
    | exc0 _ => simp only [toPy] at e; cases e
end
def py (S : Store) (d : D) : Option PyData := (toPy S 40 d).bind fun p => if SeqAt.shaped p then some p else none
theorem py_dp {K : PySem.W.Frag} {H : Hp} {ms : List Addr} {S : Store} (h : SR K ms S H) {d : D} {p : PyData} {v : V} (e : py S d = some p) (r : Rep K H ms d v) : Dp K H v p ∧ SeqAt.shaped p = true := by
  unfold py at e
  obtain ⟨q, e1, e2⟩ := Option.bind_eq_some_iff.mp e
  split at e2
  · cases e2
    exact ⟨dp_of h 40 d p v e1 r, by assumption⟩
  · cases e2

/-! ### what a step leaves -/
def Post (K : PySem.W.Frag) (ms : List Addr) (H : Hp) (d : D) (S' : Store) (Q : VK) : Prop := ∀ v H' ms', Gr ms H ms' H' → SR K ms' S' H' → Rep K H' ms' d v → Q v H'
section
variable {K : PySem.W.Frag} {H : Hp} {ms : List Addr} {S : Store} {Q : VK} {d : D}
theorem Post.here (p : Post K ms H d S Q) (h : SR K ms S H) {v : V} (r : Rep K H ms d v) : Q v H := p v H ms (Gr.refl _ _) h r
theorem Post.tup {ds : List D} {vs : List V} (p : Post K ms H (.tup ds) S Q) (h : SR K ms S H) (r : Reps K H ms ds vs) {a : Addr} (ha : H a = none) : Q (.ref a) (upd H a (.tup vs)) :=
  p _ _ ms (Gr.new ha) (h.new ha) (.tup (SqT.of upd_same) (r.mono h.muts (Gr.new ha)))
theorem Post.obj {o : O} {u : HO} (p : Post K ms H (.loc S.length) (S ++ [o]) Q) (h : SR K ms S H) (r : RO K H ms o u) {a : Addr} (ha : H a = none) : Q (.ref a) (upd H a u) :=
  p _ _ (ms ++ [a]) (Gr.alloc ha (h.fresh ha)) (h.alloc ha r) (.loc (by rw [← h.len]; simp))
end

/-! ### operations of two places -/
inductive Op where
  | add | sub | mul | fdiv | mod | pow | eq | ne | lt | le | gt | ge | is | isn | isin | nin

def bothLst (S : Store) (a b : Nat) (f : List D → List D → Option (D × Store)) : Option (D × Store) := match S[a]?, S[b]? with
  | some (.lst xs), some (.lst ys) => f xs ys
  | _, _ => none
def addD (S : Store) : D → D → Option (D × Store)
  | .int i, .int j => some (.int (i + j), S)
  | .str a, .str b => if a.length + b.length ≤ LIM then some (.str (a ++ b), S) else none
  | .tup xs, .tup ys => if xs.length + ys.length ≤ LIM then some (.tup (xs ++ ys), S) else none
  | .loc a, .loc b => bothLst S a b fun xs ys => if xs.length + ys.length ≤ LIM then alloc S (.lst (xs ++ ys)) else none
  | _, _ => none
def subD (S : Store) : D → D → Option (D × Store)
  | .int i, .int j => some (.int (i - j), S)
  | _, _ => none
def smallI (i : Int) : Bool := decide (-(2 ^ 64) < i) && decide (i < 2 ^ 64)
def mulD (S : Store) : D → D → Option (D × Store)
  | .int i, .int j => if smallI i || smallI j then some (.int (i * j), S) else none
  | .loc a, .int k => match S[a]? with
    | some (.lst xs) => if 0 ≤ k ∧ k ≤ 1000 ∧ xs.length * k.toNat ≤ LIM then alloc S (.lst (List.replicate k.toNat xs).flatten) else none
    | _ => none
  | .tup xs, .int k => if xs ≠ [] ∧ 2 ≤ k ∧ k ≤ 1000 ∧ xs.length ≤ 1000 then some (.tup (List.replicate k.toNat xs).flatten, S) else none
  | _, _ => none
def fdivD (S : Store) : D → D → Option (D × Store)
  | .int i, .int j => if j ≠ 0 ∧ j.natAbs < 1073741824 then some (.int (i.fdiv j), S) else none
  | _, _ => none
def modD (S : Store) : D → D → Option (D × Store)
  | .int i, .int j => if j ≠ 0 then some (.int (i.fmod j), S) else none
  | _, _ => none
def powD (S : Store) : D → D → Option (D × Store)
  | .int i, .int j => if 0 ≤ j ∧ j ≤ 1000000 ∧ i.natAbs < 2 ^ 64 then some (.int (i ^ j.toNat), S) else none
  | _, _ => none
def eqD (neg : Bool) (S : Store) (x y : D) : Option (D × Store) := (py S x).bind fun p => (py S y).bind fun q => some (.bl (if neg then !PyData.eqv p q else PyData.eqv p q), S)
def ordD (fi : Int → Int → Bool) (fs : Str → Str → Bool) (S : Store) : D → D → Option (D × Store)
  | .int i, .int j => some (.bl (fi i j), S)
  | .str i, .str j => some (.bl (fs i j), S)
  | _, _ => none
def isD (neg : Bool) (S : Store) : D → D → Option (D × Store)
  | .non, .non => some (.bl (!neg), S)
  | .cls _, .non => none
  | _, .non => some (.bl neg, S)
  | .bl a, .bl b => some (.bl (if neg then !decide (a = b) else decide (a = b)), S)
  | _, _ => none
def flatD : D → Bool
  | .non => true
  | .bl _ => true
  | .int _ => true
  | .str _ => true
  | _ => false
def eqF : D → D → Bool
  | .non, .non => true
  | .bl a, .bl b => a == b
  | .bl a, .int b => (if a then 1 else 0) == b
  | .int a, .bl b => a == (if b then 1 else 0)
  | .int a, .int b => a == b
  | .str a, .str b => a == b
  | _, _ => false
def ng (neg b : Bool) : Bool := if neg then !b else b
def keyOf : D → Option L2.Key
  | .int i => some (.inl i)
  | .str s => some (.inr s)
  | _ => none
def lookK {κ : Type} [DecidableEq κ] (kvs : List (κ × D)) (k : κ) : Option D := (kvs.find? fun kv => decide (kv.1 = k)).map (·.2)
def inD (neg : Bool) (S : Store) (x : D) : D → Option (D × Store)
  | .str z => match x with
    | .str c => match c.cps.toList with
      | [u] => some (.bl (ng neg (decide (u ∈ z.cps.toList))), S)
      | _ => none
    | _ => none
  | .tup ys => if flatD x && ys.all flatD then some (.bl (ng neg (ys.any fun y => eqF y x)), S) else none
  | .loc a => match S[a]? with
    | some (.lst _) => (py S x).bind fun p => (py S (.loc a)).bind fun q => match q with
      | .list qs => some (.bl (ng neg (qs.any fun z => PyData.eqv z p)), S)
      | _ => none
    | some (.dK kvs) => (keyOf x).bind fun k => some (.bl (ng neg (lookK kvs k).isSome), S)
    | _ => none
  | _ => none

def Op.ev (o : Op) (S : Store) (x y : D) : Option (D × Store) := match o with
  | .add => addD S x y
  | .sub => subD S x y
  | .mul => mulD S x y
  | .fdiv => fdivD S x y
  | .mod => modD S x y
  | .pow => powD S x y
  | .eq => eqD false S x y
  | .ne => eqD true S x y
  | .lt => ordD (fun i j => decide (i < j)) (fun i j => decide (i.cps.toList < j.cps.toList)) S x y
  | .le => ordD (fun i j => decide (i ≤ j)) (fun i j => !decide (j.cps.toList < i.cps.toList)) S x y
  | .gt => ordD (fun i j => decide (j < i)) (fun i j => decide (j.cps.toList < i.cps.toList)) S x y
  | .ge => ordD (fun i j => decide (j ≤ i)) (fun i j => !decide (i.cps.toList < j.cps.toList)) S x y
  | .is => isD false S x y
  | .isn => isD true S x y
  | .isin => inD false S x y
  | .nin => inD true S x y

/-! the readings -/
def orR (r r' : R2) : R2 := fun x y H Q => r x y H Q ∨ r' x y H Q
def rStr (g : Str → Str → Bool) : R2 := fun x y H Q => ∃ i j, x = .str i ∧ y = .str j ∧ Q (.bl (g i j)) H
def rAddS : R2 := fun x y H Q => ∃ i j, x = .str i ∧ y = .str j ∧ i.length + j.length ≤ sizeLine ∧ Q (.str (i ++ j)) H
def rIsN (neg : Bool) : R2 := fun x y H Q => y = .non ∧ Q (.bl (if neg then !decide (x = .non) else decide (x = .non))) H
def rIsB (neg : Bool) : R2 := fun x y H Q => ∃ a b, x = .bl a ∧ y = .bl b ∧ Q (.bl (if neg then !decide (a = b) else decide (a = b))) H
def rSign (neg : Bool) : R2 := fun x y H Q => ∃ (c : Nat) (z : Str), x = .str ⟨#[c]⟩ ∧ y = .str z ∧ Q (.bl (if neg then !decide (c ∈ z.cps.toList) else decide (c ∈ z.cps.toList))) H
def rDk (neg : Bool) : R2 := fun x y H Q => ∃ a o, y = .ref a ∧ DGet H a x o ∧ Q (.bl (if neg then !o.isSome else o.isSome)) H
def Op.den (K : PySem.W.Frag) : Op → R2
  | .add => orR (rI0 fun i j => .int (i + j)) (orR rAddS (orR (rCatA K) rCat))
  | .sub => rI0 fun i j => .int (i - j)
  | .mul => orR (rI CMul fun i j => .int (i * j)) (orR rRep (rRepT K))
  | .fdiv => rI CDivN fun i j => .int (i.fdiv j)
  | .mod => rI (fun _ j => j ≠ 0) fun i j => .int (i.fmod j)
  | .pow => rI CPow fun i j => .int (i ^ j.toNat)
  | .eq => rEqD K
  | .ne => rNeD K
  | .lt => orR (rI0 fun i j => .bl (decide (i < j))) (rStr fun i j => decide (i.cps.toList < j.cps.toList))
  | .le => orR (rI0 fun i j => .bl (decide (i ≤ j))) (rStr fun i j => !decide (j.cps.toList < i.cps.toList))
  | .gt => orR (rI0 fun i j => .bl (decide (j < i))) (rStr fun i j => decide (j.cps.toList < i.cps.toList))
  | .ge => orR (rI0 fun i j => .bl (decide (j ≤ i))) (rStr fun i j => !decide (i.cps.toList < j.cps.toList))
  | .is => orR (rIsN false) (rIsB false)
  | .isn => orR (rIsN true) (rIsB true)
  | .isin => orR (rSign false) (orR (rIn K false) (orR (rInD K) (rDk false)))
  | .nin => orR (rSign true) (orR (rIn K true) (orR (rNotInD K) (rDk true)))
section
variable {X : Cx}
theorem op_dk (hu : X.A.units + 1 < cLine) : OpR X (compareOp .In) (rDk false) := by
  intro pins s σ H x y v u Q I rx ry h
  obtain ⟨a, o, ey, g, q⟩ := h
  subst ey
  obtain rfl : u = Value.ref a := ry
  exact d_in hu I g rx fun s3 I3 => ⟨.bl o.isSome, H, I3, rfl, q⟩
theorem op_dkn (hu : X.A.units + 1 < cLine) : OpR X (compareOp .NotIn) (rDk true) := by
  intro pins s σ H x y v u Q I rx ry h
  obtain ⟨a, o, ey, g, q⟩ := h
  subst ey
  obtain rfl : u = Value.ref a := ry
  exact d_notIn hu I g rx fun s3 I3 => ⟨.bl (!o.isSome), H, I3, rfl, q⟩
variable {k : Nat} (hr : Room k X.A)
theorem o_add : OpR X (binaryOp .Add) (Op.den X.K .add) := OpR.or op_add (OpR.or op_add_str (OpR.or op_catA op_cat))
theorem o_sub : OpR X (binaryOp .Sub) (Op.den X.K .sub) := op_sub
theorem o_mul : OpR X (binaryOp .Mult) (Op.den X.K .mul) := OpR.or op_mul (OpR.or op_rep op_repT)
theorem o_fdiv : OpR X (binaryOp .FloorDiv) (Op.den X.K .fdiv) := op_fdivN
theorem o_mod : OpR X (binaryOp .Mod) (Op.den X.K .mod) := op_modN
theorem o_pow : OpR X (binaryOp .Pow) (Op.den X.K .pow) := op_pow
include hr in
theorem o_eq : OpR X (compareOp .Eq) (Op.den X.K .eq) := op_eqD hr.units
include hr in
theorem o_ne : OpR X (compareOp .NotEq) (Op.den X.K .ne) := op_neD hr.units
theorem o_lt : OpR X (compareOp .Lt) (Op.den X.K .lt) := OpR.or op_lt op_lt_str
theorem o_le : OpR X (compareOp .LtE) (Op.den X.K .le) := OpR.or op_le op_le_str
theorem o_gt : OpR X (compareOp .Gt) (Op.den X.K .gt) := OpR.or op_gt op_gt_str
theorem o_ge : OpR X (compareOp .GtE) (Op.den X.K .ge) := OpR.or op_ge op_ge_str
theorem o_is : OpR X (compareOp .Is) (Op.den X.K .is) := OpR.or op_isN op_is_bl
theorem o_isn : OpR X (compareOp .IsNot) (Op.den X.K .isn) := OpR.or op_notN op_isnot_bl
include hr in
theorem o_in : OpR X (compareOp .In) (Op.den X.K .isin) := OpR.or op_in_sign (OpR.or op_in_seq (OpR.or (op_inD (by have := hr.un; omega)) (op_dk (by have := hr.un; omega))))
include hr in
theorem o_nin : OpR X (compareOp .NotIn) (Op.den X.K .nin) := OpR.or op_notIn_sign (OpR.or op_notIn_seq (OpR.or (op_notInD (by have := hr.un; omega)) (op_dkn (by have := hr.un; omega))))
end

/-! ### the readings keep to the data -/
section
variable {K : PySem.W.Frag} {H : Hp} {ms : List Addr} {S S' : Store} {x y d : D} {u v : V} {Q : VK}
theorem addD_ok (h : SR K ms S H) (rx : Rep K H ms x u) (ry : Rep K H ms y v) (e : addD S x y = some (d, S')) (p : Post K ms H d S' Q) : Op.den K .add u v H Q := by
  cases rx with
  | int i =>
    cases ry <;> simp only [addD] at e <;> first | cases e | skip
    case int j => exact .inl ⟨i, j, rfl, rfl, p.here h (.int _)⟩
  | str a =>
    cases ry <;> simp only [addD] at e <;> first | cases e | skip
    case str b =>
      split at e
      · rename_i hl
        cases e
        exact .inr (.inl ⟨a, b, rfl, rfl, lim_size hl, p.here h (.str _)⟩)
      · cases e
  | tup hx rx =>
    cases ry <;> simp only [addD] at e <;> first | cases e | skip
    case tup hy ry =>
      split at e
      · rename_i hl
        cases e
        refine .inr (.inr (.inl ⟨_, _, _, _, rfl, rfl, hx, hy, lim_size (by rw [← rx.length, ← ry.length]; exact hl), fun z => ?_, fun _ z => ?_, fun _ _ q hq => p.tup h (rx.append ry) hq⟩))
        · subst z
          cases rx
          exact p.here h (.tup hy (by simpa using ry))
        · subst z
          cases ry
          exact p.here h (.tup hx (by simpa using rx))
      · cases e
  | loc hx =>
    cases ry <;> simp only [addD] at e <;> first | cases e | skip
    case loc hy =>
      unfold bothLst at e
      split at e
      · rename_i xs ys ex ey
        dsimp only at e
        obtain ⟨us, hu, ru⟩ := h.lst hx ex
        obtain ⟨ws, hw, rw'⟩ := h.lst hy ey
        split at e
        · rename_i hl
          unfold alloc at e
          cases e
          refine .inr (.inr (.inr ⟨_, _, _, _, rfl, rfl, hu, hw, lim_size (by rw [← ru.length, ← rw'.length]; exact hl), fun q hq => p.obj h ⟨_, rfl, ru.append rw'⟩ hq⟩))
        · cases e
      · cases e
  | _ => simp only [addD] at e; cases e
theorem subD_ok (h : SR K ms S H) (rx : Rep K H ms x u) (ry : Rep K H ms y v) (e : subD S x y = some (d, S')) (p : Post K ms H d S' Q) : Op.den K .sub u v H Q := by
  cases rx <;> cases ry <;> simp only [subD] at e <;> first | cases e | skip
  exact ⟨_, _, rfl, rfl, p.here h (.int _)⟩
theorem smallI_iff {i : Int} : smallI i = true ↔ -(2 ^ 64) < i ∧ i < 2 ^ 64 := by
  unfold smallI
  rw [Bool.and_eq_true, decide_eq_true_eq, decide_eq_true_eq]
theorem Reps.flatten {ds : List D} {vs : List V} (r : Reps K H ms ds vs) : ∀ k : Nat, Reps K H ms (List.replicate k ds).flatten (List.replicate k vs).flatten
  | 0 => .nil
  | k + 1 => by
    rw [List.replicate_succ, List.replicate_succ, List.flatten_cons, List.flatten_cons]
    exact r.append (Reps.flatten r k)
theorem mulD_ok (h : SR K ms S H) (rx : Rep K H ms x u) (ry : Rep K H ms y v) (e : mulD S x y = some (d, S')) (p : Post K ms H d S' Q) : Op.den K .mul u v H Q := by
  cases rx with
  | int i =>
    cases ry <;> simp only [mulD] at e <;> first | cases e | skip
    case int j =>
      split at e
      · rename_i hl
        cases e
        refine .inl ⟨i, j, rfl, rfl, ?_, p.here h (.int _)⟩
        rcases Bool.or_eq_true_iff.mp hl with z | z
        · exact .inl (smallI_iff.mp z)
        · exact .inr (smallI_iff.mp z)
      · cases e
  | loc hx =>
    cases ry <;> simp only [mulD] at e <;> first | cases e | skip
    case int k =>
      split at e
      · rename_i xs ex
        obtain ⟨us, hu, ru⟩ := h.lst hx ex
        split at e
        · rename_i hl
          unfold alloc at e
          cases e
          exact .inr (.inl ⟨_, k, us, rfl, rfl, hu, by omega, by omega, lim_size (by rw [← ru.length]; exact hl.2.2), fun q hq => p.obj h ⟨_, rfl, ru.flatten k.toNat⟩ hq⟩)
        · cases e
      · cases e
  | tup hx rx =>
    cases ry <;> simp only [mulD] at e <;> first | cases e | skip
    case int k =>
      split at e
      · rename_i hl
        cases e
        have hl' := rx.length
        refine .inr (.inr ⟨_, k, _, rfl, rfl, hx, fun z => ?_, hl.2.1, hl.2.2.1, by rw [← rx.length]; exact hl.2.2.2, fun q hq => p.tup h (rx.flatten k.toNat) hq⟩)
        subst z
        cases rx
        exact hl.1 rfl
      · cases e
  | _ => simp only [mulD] at e; cases e
theorem fdivD_ok (h : SR K ms S H) (rx : Rep K H ms x u) (ry : Rep K H ms y v) (e : fdivD S x y = some (d, S')) (p : Post K ms H d S' Q) : Op.den K .fdiv u v H Q := by
  cases rx <;> cases ry <;> simp only [fdivD] at e <;> first | cases e | skip
  split at e
  · cases e
    exact ⟨_, _, rfl, rfl, by assumption, p.here h (.int _)⟩
  · cases e
theorem modD_ok (h : SR K ms S H) (rx : Rep K H ms x u) (ry : Rep K H ms y v) (e : modD S x y = some (d, S')) (p : Post K ms H d S' Q) : Op.den K .mod u v H Q := by
  cases rx <;> cases ry <;> simp only [modD] at e <;> first | cases e | skip
  split at e
  · cases e
    exact ⟨_, _, rfl, rfl, by assumption, p.here h (.int _)⟩
  · cases e
theorem powD_ok (h : SR K ms S H) (rx : Rep K H ms x u) (ry : Rep K H ms y v) (e : powD S x y = some (d, S')) (p : Post K ms H d S' Q) : Op.den K .pow u v H Q := by
  cases rx <;> cases ry <;> simp only [powD] at e <;> first | cases e | skip
  split at e
  · cases e
    exact ⟨_, _, rfl, rfl, by assumption, p.here h (.int _)⟩
  · cases e
theorem eqD_ok (h : SR K ms S H) (rx : Rep K H ms x u) (ry : Rep K H ms y v) (e : eqD false S x y = some (d, S')) (p : Post K ms H d S' Q) : Op.den K .eq u v H Q := by
  unfold eqD at e
  obtain ⟨a, e1, e2⟩ := Option.bind_eq_some_iff.mp e
  obtain ⟨b, e3, e4⟩ := Option.bind_eq_some_iff.mp e2
  cases e4
  obtain ⟨h1, s1⟩ := py_dp h e1 rx
  obtain ⟨h2, s2⟩ := py_dp h e3 ry
  exact ⟨a, b, h1, h2, s1, s2, p.here h (.bl _)⟩
theorem neD_ok (h : SR K ms S H) (rx : Rep K H ms x u) (ry : Rep K H ms y v) (e : eqD true S x y = some (d, S')) (p : Post K ms H d S' Q) : Op.den K .ne u v H Q := by
  unfold eqD at e
  obtain ⟨a, e1, e2⟩ := Option.bind_eq_some_iff.mp e
  obtain ⟨b, e3, e4⟩ := Option.bind_eq_some_iff.mp e2
  cases e4
  obtain ⟨h1, s1⟩ := py_dp h e1 rx
  obtain ⟨h2, s2⟩ := py_dp h e3 ry
  exact ⟨a, b, h1, h2, s1, s2, p.here h (.bl _)⟩
theorem ordD_ok {fi : Int → Int → Bool} {fs : Str → Str → Bool} (h : SR K ms S H) (rx : Rep K H ms x u) (ry : Rep K H ms y v) (e : ordD fi fs S x y = some (d, S')) (p : Post K ms H d S' Q) : orR (rI0 fun i j => .bl (fi i j)) (rStr fs) u v H Q := by
  cases rx <;> cases ry <;> simp only [ordD] at e <;> first | cases e | skip
  · exact .inl ⟨_, _, rfl, rfl, p.here h (.bl _)⟩
  · exact .inr ⟨_, _, rfl, rfl, p.here h (.bl _)⟩
theorem isD_ok (neg : Bool) (h : SR K ms S H) (rx : Rep K H ms x u) (ry : Rep K H ms y v) (e : isD neg S x y = some (d, S')) (p : Post K ms H d S' Q) : orR (rIsN neg) (rIsB neg) u v H Q := by
  cases ry with
  | non =>
    refine .inl ⟨rfl, ?_⟩
    cases rx <;> simp only [isD] at e <;> cases e <;> (have q := p.here h (.bl _); cases neg <;> simpa using q)
  | bl b =>
    cases rx <;> simp only [isD] at e <;> cases e
    exact .inr ⟨_, _, rfl, rfl, p.here h (.bl _)⟩
  | _ => cases rx <;> simp only [isD] at e <;> cases e
theorem eqF_V {x y : D} (rx : Rep K H ms x u) (ry : Rep K H ms y v) (fx : flatD x = true) (fy : flatD y = true) : eqV u v = eqF x y := by
  cases rx <;> simp [flatD] at fx <;> cases ry <;> simp [flatD] at fy <;> simp [eqV, eqF]
theorem flat_V (rx : Rep K H ms x u) (h : flatD x = true) : flatV u = true := by
  cases rx <;> simp [flatD] at h <;> rfl
theorem flats_V : ∀ {ds : List D} {vs : List V}, Reps K H ms ds vs → ds.all flatD = true → vs.all flatV = true
  | _, _, .nil, _ => rfl
  | _, _, .cons r t, h => by
    rw [List.all_cons, Bool.and_eq_true] at h
    rw [List.all_cons, Bool.and_eq_true]
    exact ⟨flat_V r h.1, flats_V t h.2⟩
theorem inV_D (rx : Rep K H ms x u) (fx : flatD x = true) : ∀ {ds : List D} {vs : List V}, Reps K H ms ds vs → ds.all flatD = true → inV u vs = ds.any fun y => eqF y x
  | _, _, .nil, _ => rfl
  | _, _, .cons r t, h => by
    rw [List.all_cons, Bool.and_eq_true] at h
    have ih := inV_D rx fx t h.2
    unfold inV at ih ⊢
    rw [List.any_cons, List.any_cons, ih, eqF_V r rx h.1 fx]
theorem lookK_V {κ : Type} [DecidableEq κ] (k : κ) : ∀ {kvs : List (κ × D)} {ws : List (κ × V)}, Paired (fun (p : κ × D) (q : κ × V) => p.1 = q.1 ∧ Rep K H ms p.2 q.2) kvs ws →
    (lookK kvs k = none ∧ valV ws k = none) ∨ ∃ d v, lookK kvs k = some d ∧ valV ws k = some v ∧ Rep K H ms d v
  | _, _, .nil => .inl ⟨rfl, rfl⟩
  | _, _, .cons (a := a) (b := b) r t => by
    obtain ⟨a1, a2⟩ := a
    obtain ⟨b1, b2⟩ := b
    obtain ⟨r1, r2⟩ := r
    simp only at r1 r2
    subst r1
    unfold lookK valV
    rw [List.find?_cons, List.find?_cons]
    by_cases hk : a1 = k
    · rw [decide_eq_true hk]
      exact .inr ⟨a2, b2, rfl, rfl, r2⟩
    · rw [decide_eq_false hk]
      exact lookK_V k t
theorem keyOf_V {k : L2.Key} (rx : Rep K H ms x u) (e : keyOf x = some k) : u = kV k := by
  cases rx <;> simp [keyOf] at e <;> subst e <;> rfl
theorem SR.dK (h : SR K ms S H) {n : Nat} {a : Addr} {kvs : List (L2.Key × D)} (e1 : ms[n]? = some a) (e2 : S[n]? = some (.dK kvs)) : ∃ ws, H a = some (.dK ws) ∧ Paired (fun (p : L2.Key × D) (q : L2.Key × V) => p.1 = q.1 ∧ Rep K H ms p.2 q.2) kvs ws := by
  obtain ⟨u, hu, vs, rfl, r⟩ := h.ob n a _ e1 e2
  exact ⟨vs, hu, r⟩
theorem inD_ok (neg : Bool) (h : SR K ms S H) (rx : Rep K H ms x u) (ry : Rep K H ms y v) (e : inD neg S x y = some (d, S')) (p : Post K ms H d S' Q) :
    orR (rSign neg) (orR (rIn K neg) (orR (if neg then rNotInD K else rInD K) (rDk neg))) u v H Q := by
  cases ry with
  | str z =>
    simp only [inD] at e
    cases rx <;> simp only at e <;> first | cases e | skip
    rename_i c
    split at e
    · rename_i w ew
      cases e
      obtain ⟨cps⟩ := c
      have : cps = #[w] := by
        have e2 : cps.toList = [w] := ew
        exact Array.toList_inj.mp (by rw [e2])
      subst this
      refine .inl ⟨w, z, rfl, rfl, ?_⟩
      have q := p.here h (.bl _)
      cases neg <;> simpa [ng] using q
    · cases e
  | tup hy r =>
    simp only [inD] at e
    split at e
    · rename_i hf
      cases e
      rw [Bool.and_eq_true] at hf
      refine .inr (.inl ⟨_, _, rfl, .inr hy, flat_V rx hf.1, flats_V r hf.2, ?_⟩)
      rw [inV_D rx hf.1 r hf.2]
      have q := p.here h (.bl _)
      cases neg <;> simpa [ng] using q
    · cases e
  | loc hl =>
    simp only [inD] at e
    split at e
    · rename_i ys ey
      obtain ⟨a, e1, e2⟩ := Option.bind_eq_some_iff.mp e
      obtain ⟨b, e3, e4⟩ := Option.bind_eq_some_iff.mp e2
      obtain ⟨h1, s1⟩ := py_dp h e1 rx
      obtain ⟨h2, s2⟩ := py_dp h e3 (.loc hl)
      split at e4
      · cases e4
        have q := p.here h (.bl _)
        refine .inr (.inr (.inl ?_))
        cases neg
        · exact ⟨a, _, h1, h2, s1, s2, by simpa [ng] using q⟩
        · exact ⟨a, _, h1, h2, s1, s2, by simpa [ng] using q⟩
      · cases e4
    · rename_i kvs ey
      obtain ⟨k, e1, e2⟩ := Option.bind_eq_some_iff.mp e
      cases e2
      obtain ⟨ws, hw, r⟩ := h.dK hl ey
      refine .inr (.inr (.inr ⟨_, valV ws k, rfl, by rw [keyOf_V rx e1]; exact DGet.k hw, ?_⟩))
      have q := p.here h (.bl _)
      have e3 : (valV ws k).isSome = (lookK kvs k).isSome := by
        rcases lookK_V k r with ⟨z1, z2⟩ | ⟨_, _, z1, z2, _⟩ <;> rw [z1, z2] <;> rfl
      rw [e3]
      cases neg <;> simpa [ng] using q
    · cases e
  | _ => simp only [inD] at e; cases e
/-- what an operation of two places is asked -/
theorem op_ok (o : Op) (h : SR K ms S H) (rx : Rep K H ms x u) (ry : Rep K H ms y v) (e : o.ev S x y = some (d, S')) (p : Post K ms H d S' Q) : o.den K u v H Q := by
  cases o with
  | add => exact addD_ok h rx ry e p
  | sub => exact subD_ok h rx ry e p
  | mul => exact mulD_ok h rx ry e p
  | fdiv => exact fdivD_ok h rx ry e p
  | mod => exact modD_ok h rx ry e p
  | pow => exact powD_ok h rx ry e p
  | eq => exact eqD_ok h rx ry e p
  | ne => exact neD_ok h rx ry e p
  | lt => exact ordD_ok h rx ry e p
  | le => exact ordD_ok h rx ry e p
  | gt => exact ordD_ok h rx ry e p
  | ge => exact ordD_ok h rx ry e p
  | is => exact isD_ok false h rx ry e p
  | isn => exact isD_ok true h rx ry e p
  | isin => exact inD_ok false h rx ry e p
  | nin => exact inD_ok true h rx ry e p
end
end IP

namespace IP
open PySem L2

/-! ### items and slices -/
def ixD (S : Store) (x y : D) : Option (D × Store) := match x with
  | .tup ds => match y with
    | .int i => (atI ds i).map fun d => (d, S)
    | _ => none
  | .rol ds => match y with
    | .int i => (atI ds i).map fun d => (d, S)
    | _ => none
  | .str z => match y with
    | .int i => if z.length ≤ LIM then (atI z.cps.toList i).map fun c => (.str ⟨#[c]⟩, S) else none
    | _ => none
  | .loc n => match S[n]? with
    | some (.lst ds) => match y with
      | .int i => (atI ds i).map fun d => (d, S)
      | _ => none
    | some (.dK kvs) => (keyOf y).bind fun k => (lookK kvs k).map fun d => (d, S)
    | _ => none
  | _ => none
def rDg : R2 := fun x y H Q => ∃ a v, x = .ref a ∧ DGet H a y (some v) ∧ Q v H
def ixDen (K : PySem.W.Frag) : R2 := orR (rIx K) rDg
section
variable {X : Cx}
theorem ix_dg (hu : X.A.units + 1 < cLine) : IxR X rDg := by
  intro value slice pins s σ H x y v u Q I rx ry h hs
  obtain ⟨a, w, rfl, g, q⟩ := h
  obtain rfl : v = Value.ref a := rx
  exact PyProof.Rows.tail_any (dict_typeIs I g) PySem.F.slot_dict_getitem.lookup (d_getItem hu I g ry fun w' s3 I3 rw' => ⟨w, H, I3, rw', q⟩) hs
theorem o_ix {k : Nat} (hr : Room k X.A) : IxR X (ixDen X.K) := IxR.or ix_seq (ix_dg (by have := hr.un; omega))
end
def cutD {α : Type} (xs : List α) (lo hi : Option Int) : List α := (xs.drop (HT.sIx xs.length 0 lo)).take (HT.sIx xs.length xs.length hi - HT.sIx xs.length 0 lo)
def slD (S : Store) (lo hi : Option Int) : D → Option (D × Store)
  | .tup ds => some (.tup (cutD ds lo hi), S)
  | .rol ds => alloc S (.lst (cutD ds lo hi))
  | .str z => if z.length ≤ LIM then some (.str (cutS z lo hi), S) else none
  | .loc n => match S[n]? with
    | some (.lst ds) => alloc S (.lst (cutD ds lo hi))
    | _ => none
  | _ => none
abbrev RS := V → Option Int → Option Int → Hp → VK → Prop
def orS (r r' : RS) : RS := fun x lo hi H Q => r x lo hi H Q ∨ r' x lo hi H Q
def slDen (K : PySem.W.Frag) : RS := orS (rSlA K) (orS (rSlL K) rSlS)
theorem o_sl {X : Cx} : SlR X (slDen X.K) := SlR.or sl_tupA (SlR.or sl_list sl_str)
section
variable {K : PySem.W.Frag} {H : Hp} {ms : List Addr} {S S' : Store} {x y d : D} {u v : V} {Q : VK}
theorem Reps.atI {ds : List D} {vs : List V} (r : Reps K H ms ds vs) {i : Int} (e : L2.atI ds i = some d) : ∃ v, L2.atI vs i = some v ∧ Rep K H ms d v := by
  unfold L2.atI at e ⊢
  rw [← r.length]
  obtain ⟨j, e1, e2⟩ := Option.bind_eq_some_iff.mp e
  obtain ⟨v, h1, h2⟩ := r.get e2
  exact ⟨v, by rw [e1]; exact h1, h2⟩
theorem Reps.cut {ds : List D} {vs : List V} (r : Reps K H ms ds vs) (lo hi : Option Int) : Reps K H ms (cutD ds lo hi) (cutV vs lo hi) := by
  unfold cutD cutV
  rw [r.length]
  exact (r.drop _).take _
theorem ixD_ok (h : SR K ms S H) (rx : Rep K H ms x u) (ry : Rep K H ms y v) (e : ixD S x y = some (d, S')) (p : Post K ms H d S' Q) : ixDen K u v H Q := by
  cases rx with
  | tup hx r =>
    cases ry <;> simp only [ixD] at e <;> first | cases e | skip
    obtain ⟨d', e1, e2⟩ := Option.map_eq_some_iff.mp e
    cases e2
    obtain ⟨w, h1, h2⟩ := r.atI e1
    exact .inl (.inr (.inl ⟨_, _, _, w, rfl, rfl, hx, h1, p.here h h2⟩))
  | rol hx r =>
    cases ry <;> simp only [ixD] at e <;> first | cases e | skip
    obtain ⟨d', e1, e2⟩ := Option.map_eq_some_iff.mp e
    cases e2
    obtain ⟨w, h1, h2⟩ := r.atI e1
    exact .inl (.inl ⟨_, _, _, w, rfl, rfl, hx.seq, h1, p.here h h2⟩)
  | str z =>
    cases ry <;> simp only [ixD] at e <;> first | cases e | skip
    split at e
    · obtain ⟨c, e1, e2⟩ := Option.map_eq_some_iff.mp e
      cases e2
      exact .inl (.inr (.inr ⟨z, _, c, rfl, rfl, lim_size (by assumption), e1, p.here h (.str _)⟩))
    · cases e
  | loc hl =>
    simp only [ixD] at e
    split at e
    · rename_i ds es
      cases ry <;> simp only at e <;> first | cases e | skip
      obtain ⟨d', e1, e2⟩ := Option.map_eq_some_iff.mp e
      cases e2
      obtain ⟨vs, hv, r⟩ := h.lst hl es
      obtain ⟨w, h1, h2⟩ := r.atI e1
      exact .inl (.inl ⟨_, _, _, w, rfl, rfl, SqL.of hv, h1, p.here h h2⟩)
    · rename_i kvs es
      obtain ⟨k, e1, e2⟩ := Option.bind_eq_some_iff.mp e
      obtain ⟨d', e3, e4⟩ := Option.map_eq_some_iff.mp e2
      cases e4
      obtain ⟨ws, hw, r⟩ := h.dK hl es
      rcases lookK_V k r with ⟨z1, _⟩ | ⟨d2, w, z1, z2, z3⟩
      · rw [z1] at e3; cases e3
      · rw [z1] at e3
        cases e3
        refine .inr ⟨_, w, rfl, ?_, p.here h z3⟩
        rw [keyOf_V ry e1, ← z2]
        exact DGet.k hw
    · cases e
  | _ => simp only [ixD] at e; cases e
theorem slD_ok {lo hi : Option Int} (h : SR K ms S H) (rx : Rep K H ms x u) (e : slD S lo hi x = some (d, S')) (p : Post K ms H d S' Q) : slDen K u lo hi H Q := by
  cases rx with
  | tup hx r =>
    simp only [slD] at e
    cases e
    refine .inl ⟨_, _, rfl, hx, fun z => p.here h (.tup hx ?_), fun _ q hq => p.tup h (r.cut lo hi) hq⟩
    have hl := r.length
    unfold cutD
    rw [hl, z.1, z.2]
    rw [List.drop_zero, Nat.sub_zero, ← hl, List.take_length]
    exact r
  | rol hx r =>
    simp only [slD, alloc] at e
    cases e
    exact .inr (.inl ⟨_, _, rfl, hx.seq, fun q hq => p.obj h ⟨_, rfl, r.cut lo hi⟩ hq⟩)
  | str z =>
    simp only [slD] at e
    split at e
    · cases e
      exact .inr (.inr ⟨z, rfl, lim_size (by assumption), p.here h (.str _)⟩)
    · cases e
  | loc hl =>
    simp only [slD] at e
    split at e
    · rename_i ds es
      unfold alloc at e
      cases e
      obtain ⟨vs, hv, r⟩ := h.lst hl es
      exact .inr (.inl ⟨_, _, rfl, SqL.of hv, fun q hq => p.obj h ⟨_, rfl, r.cut lo hi⟩ hq⟩)
    · cases e
  | _ => simp only [slD] at e; cases e
end

/-! ### built-in functions, by values -/
inductive Bi where
  | len | list | tuple | int | max2 | min2 | all | dict
abbrev RL := List V → Hp → VK → Prop
def orL (r r' : RL) : RL := fun xs H Q => r xs H Q ∨ r' xs H Q
theorem CallR.or {X : Cx} {f : Value} {r r' : RL} (h : CallR X f r) (h' : CallR X f r') : CallR X f (orL r r') := by
  intro pins s σ H xs us Q I rx q
  rcases q with q | q
  · exact h pins s σ H xs us Q I rx q
  · exact h' pins s σ H xs us Q I rx q
def rLen (K : PySem.W.Frag) : RL := fun xs H Q => ∃ x n, xs = [x] ∧ LenV K x H n ∧ Q (.int n) H
def rLenDk : RL := fun xs H Q => ∃ a kvs, xs = [V.ref a] ∧ H a = some (.dK kvs) ∧ Q (.int kvs.length) H
def rList (K : PySem.W.Frag) : RL := fun xs H Q => ∃ p ys, xs = [.ref p] ∧ (SqL K H p ys ∨ SqT K H p ys) ∧ ∀ l, H l = none → Q (.ref l) (upd H l (.lst ys))
def rTuple (K : PySem.W.Frag) : RL := fun xs H Q => ∃ p ys, xs = [.ref p] ∧ ((SqL K H p ys ∧ ∀ l, H l = none → Q (.ref l) (upd H l (.tup ys))) ∨ (SqT K H p ys ∧ Q (.ref p) H))
def rInt : RL := fun xs H Q => (∃ i, xs = [.int i] ∧ Q (.int i) H) ∨ ∃ k, xs = [.bl k] ∧ Q (.int (if k then 1 else 0)) H
def rMx (f : Int → Int → Int) : RL := fun xs H Q => ∃ i j, xs = [.int i, .int j] ∧ Q (.int (f i j)) H
def rAllB (K : PySem.W.Frag) : RL := fun vs H Q => ∃ (a : Addr) (bs : List Bool), vs = [V.ref a] ∧ SqL K H a (bs.map V.bl) ∧ Q (.bl (bs.all id)) H
def rDict (K : PySem.W.Frag) : RL := fun xs H Q => ∃ (a : Addr) (ps : List Addr) (kvs : List (L2.Key × V)), xs = [.ref a] ∧ SqL K H a (ps.map V.ref) ∧ Paired (fun p kv => SqT K H p [kV kv.1, kv.2]) ps kvs ∧
    ∀ p, H p = none → Q (.ref p) (upd H p (.dK (mergeK [] kvs)))
def Bi.den (K : PySem.W.Frag) : Bi → RL
  | .len => orL (rLen K) rLenDk
  | .list => rList K
  | .tuple => rTuple K
  | .int => rInt
  | .max2 => rMx fun i j => if j > i then j else i
  | .min2 => rMx fun i j => if j < i then j else i
  | .all => rAllB K
  | .dict => rDict K
section
variable {X : Cx}
theorem b_len : CallR X (.builtin "len") (Bi.den X.K .len) := CallR.or call_len call_lenD
theorem b_list : CallR X (.type "list") (Bi.den X.K .list) := call_list_of
theorem b_tuple : CallR X (.type "tuple") (Bi.den X.K .tuple) := call_tuple_of
theorem b_int : CallR X (.type "int") (Bi.den X.K .int) := call_int1
theorem b_max (hc : X.calm = true) : CallR X (.builtin "max") (Bi.den X.K .max2) := call_max2 hc
theorem b_min (hc : X.calm = true) : CallR X (.builtin "min") (Bi.den X.K .min2) := call_min2 hc
theorem b_all (hc : X.calm = true) : CallR X (.builtin "all") (Bi.den X.K .all) := cr_all hc
theorem b_dict (hc : X.calm = true) : CallR X (.type "dict") (Bi.den X.K .dict) := call_dictP hc
end
def seqD (S : Store) : D → Option (List D)
  | .tup ds => some ds
  | .rol ds => some ds
  | .loc n => match S[n]? with
    | some (.lst ds) => some ds
    | _ => none
  | _ => none
def bools : List D → Option (List Bool)
  | [] => some []
  | .bl b :: r => (bools r).map fun t => b :: t
  | _ :: _ => none
def pairs : List D → Option (List (L2.Key × D))
  | [] => some []
  | .tup [k, v] :: r => (keyOf k).bind fun a => (pairs r).map fun t => (a, v) :: t
  | _ :: _ => none
def putD {κ : Type} [DecidableEq κ] (kvs : List (κ × D)) (k : κ) (v : D) : List (κ × D) :=
  if (kvs.any fun kv => decide (kv.1 = k)) = true then kvs.map (fun kv => if kv.1 = k then (kv.1, v) else kv) else kvs ++ [(k, v)]
def mergeD {κ : Type} [DecidableEq κ] (kvs more : List (κ × D)) : List (κ × D) := more.foldl (fun acc kv => putD acc kv.1 kv.2) kvs
def Bi.ev (b : Bi) (S : Store) (xs : List D) : Option (D × Store) := match b with
  | .len => match xs with
    | [.str z] => if z.length ≤ LIM then some (.int z.length, S) else none
    | [.loc n] => match S[n]? with
      | some (.dK kvs) => some (.int kvs.length, S)
      | some (.lst ds) => some (.int ds.length, S)
      | _ => none
    | [x] => (seqD S x).map fun ds => (.int ds.length, S)
    | _ => none
  | .list => match xs with
    | [x] => (seqD S x).bind fun ds => alloc S (.lst ds)
    | _ => none
  | .tuple => match xs with
    | [x] => (seqD S x).map fun ds => (.tup ds, S)
    | _ => none
  | .int => match xs with
    | [.int i] => some (.int i, S)
    | [.bl b] => some (.int (if b then 1 else 0), S)
    | _ => none
  | .max2 => match xs with
    | [.int i, .int j] => some (.int (if j > i then j else i), S)
    | _ => none
  | .min2 => match xs with
    | [.int i, .int j] => some (.int (if j < i then j else i), S)
    | _ => none
  | .all => match xs with
    | [.loc n] => (seqD S (.loc n)).bind fun ds => (bools ds).map fun bs => (.bl (bs.all id), S)
    | _ => none
  | .dict => match xs with
    | [.loc n] => (seqD S (.loc n)).bind fun ds => (pairs ds).bind fun ps => alloc S (.dK (mergeD [] ps))
    | _ => none
section
variable {K : PySem.W.Frag} {H : Hp} {ms : List Addr} {S S' : Store} {x y d : D} {u v : V} {Q : VK}
/-- a sequence's items -/
theorem seqD_ok (h : SR K ms S H) (rx : Rep K H ms x u) {ds : List D} (e : seqD S x = some ds) : ∃ a vs, u = .ref a ∧ Reps K H ms ds vs ∧ ((SqL K H a vs ∧ (∀ es, x ≠ .tup es)) ∨ (SqT K H a vs ∧ x = .tup ds)) := by
  cases rx with
  | tup hx r => simp only [seqD] at e; cases e; exact ⟨_, _, rfl, r, .inr ⟨hx, rfl⟩⟩
  | rol hx r => simp only [seqD] at e; cases e; exact ⟨_, _, rfl, r, .inl ⟨hx.seq, fun _ => nofun⟩⟩
  | loc hl =>
    simp only [seqD] at e
    split at e
    · cases e
      obtain ⟨vs, hv, r⟩ := h.lst hl (by assumption)
      exact ⟨_, vs, rfl, r, .inl ⟨SqL.of hv, fun _ => nofun⟩⟩
    · cases e
  | _ => simp only [seqD] at e; cases e
theorem bools_V : ∀ {ds : List D} {vs : List V} {bs : List Bool}, Reps K H ms ds vs → bools ds = some bs → vs = bs.map V.bl
  | _, _, _, .nil, e => by simp [bools] at e; subst e; rfl
  | _, _, bs, .cons r t, e => by
    cases r <;> simp only [bools] at e <;> first | cases e | skip
    obtain ⟨t', e1, e2⟩ := Option.map_eq_some_iff.mp e
    subst e2
    rw [List.map_cons, ← bools_V t e1]
theorem pairs_V : ∀ {ds : List D} {vs : List V} {ps : List (L2.Key × D)}, Reps K H ms ds vs → pairs ds = some ps →
    ∃ (as : List Addr) (kvs : List (L2.Key × V)), vs = as.map V.ref ∧ Paired (fun p kv => SqT K H p [kV kv.1, kv.2]) as kvs ∧ Paired (fun (p : L2.Key × D) (q : L2.Key × V) => p.1 = q.1 ∧ Rep K H ms p.2 q.2) ps kvs
  | _, _, _, .nil, e => by simp [pairs] at e; subst e; exact ⟨[], [], rfl, .nil, .nil⟩
  | _, _, ps, .cons r t, e => by
    cases r with
    | tup hq rr =>
      cases rr with
      | nil => simp [pairs] at e
      | cons r1 rr =>
        cases rr with
        | nil => simp [pairs] at e
        | cons r2 rr =>
          cases rr with
          | nil =>
            simp only [pairs] at e
            obtain ⟨k, e1, e2⟩ := Option.bind_eq_some_iff.mp e
            obtain ⟨t', e3, e4⟩ := Option.map_eq_some_iff.mp e2
            subst e4
            obtain ⟨as, kvs, h1, h2, h3⟩ := pairs_V t e3
            have hk := keyOf_V r1 e1
            subst hk
            exact ⟨_ :: as, (k, _) :: kvs, by rw [h1]; rfl, .cons hq h2, .cons ⟨rfl, r2⟩ h3⟩
          | cons _ _ => simp [pairs] at e
    | _ => simp [pairs] at e
theorem put_V {κ : Type} [DecidableEq κ] {kvs : List (κ × D)} {ws : List (κ × V)} (r : Paired (fun (p : κ × D) (q : κ × V) => p.1 = q.1 ∧ Rep K H ms p.2 q.2) kvs ws) (k : κ) {d : D} {v : V} (rv : Rep K H ms d v) :
    Paired (fun (p : κ × D) (q : κ × V) => p.1 = q.1 ∧ Rep K H ms p.2 q.2) (putD kvs k d) (putK ws k v) := by
  have ha : (kvs.any fun kv => decide (kv.1 = k)) = ws.any fun kv => decide (kv.1 = k) := by
    induction r with
    | nil => rfl
    | cons r t ih => rw [List.any_cons, List.any_cons, ih, r.1]
  have hm : Paired (fun (p : κ × D) (q : κ × V) => p.1 = q.1 ∧ Rep K H ms p.2 q.2) (kvs.map fun kv => if kv.1 = k then (kv.1, d) else kv) (ws.map fun kv => if kv.1 = k then (kv.1, v) else kv) := by
    clear ha
    induction r with
    | nil => exact .nil
    | @cons a b as bs r t ih =>
      rw [List.map_cons, List.map_cons]
      refine .cons ?_ ih
      by_cases hk : a.1 = k
      · rw [if_pos hk, if_pos (by rw [← r.1]; exact hk)]
        exact ⟨r.1, rv⟩
      · rw [if_neg hk, if_neg (by rw [← r.1]; exact hk)]
        exact r
  have hap : ∀ {as : List (κ × D)} {bs : List (κ × V)}, Paired (fun (p : κ × D) (q : κ × V) => p.1 = q.1 ∧ Rep K H ms p.2 q.2) as bs → Paired (fun (p : κ × D) (q : κ × V) => p.1 = q.1 ∧ Rep K H ms p.2 q.2) (as ++ [(k, d)]) (bs ++ [(k, v)]) := by
    intro as bs q
    induction q with
    | nil => exact .cons ⟨rfl, rv⟩ .nil
    | cons r t ih => exact .cons r ih
  unfold putD putK
  rw [ha]
  split
  · exact hm
  · exact hap r
theorem merge_V : ∀ {ps : List (L2.Key × D)} {qs : List (L2.Key × V)} {kvs : List (L2.Key × D)} {ws : List (L2.Key × V)}, Paired (fun (p : L2.Key × D) (q : L2.Key × V) => p.1 = q.1 ∧ Rep K H ms p.2 q.2) ps qs →
    Paired (fun (p : L2.Key × D) (q : L2.Key × V) => p.1 = q.1 ∧ Rep K H ms p.2 q.2) kvs ws → Paired (fun (p : L2.Key × D) (q : L2.Key × V) => p.1 = q.1 ∧ Rep K H ms p.2 q.2) (mergeD kvs ps) (mergeK ws qs)
  | _, _, _, _, .nil, r => r
  | _, _, _, _, .cons (a := a) (b := b) q t, r => by
    unfold mergeD mergeK
    rw [List.foldl_cons, List.foldl_cons]
    obtain ⟨a1, a2⟩ := a
    obtain ⟨b1, b2⟩ := b
    obtain ⟨q1, q2⟩ := q
    simp only at q1 q2
    subst q1
    exact merge_V t (put_V r a1 q2)
theorem bi_ok (b : Bi) {xs : List D} {us : List V} (h : SR K ms S H) (rx : Reps K H ms xs us) (e : b.ev S xs = some (d, S')) (p : Post K ms H d S' Q) : b.den K us H Q := by
  cases b with
  | len =>
    simp only [Bi.ev] at e
    split at e
    · cases rx with
      | cons r t =>
        cases t
        cases r
        split at e
        · cases e
          exact .inl ⟨_, _, rfl, ⟨lim_size (by assumption), rfl⟩, p.here h (.int _)⟩
        · cases e
    · cases rx with
      | cons r t =>
        cases t
        cases r with
        | loc hl =>
          split at e
          · rename_i es
            cases e
            obtain ⟨ws, hw, r⟩ := h.dK hl es
            refine .inr ⟨_, ws, rfl, hw, ?_⟩
            rw [← Paired.length r]
            exact p.here h (.int _)
          · rename_i es
            cases e
            obtain ⟨vs, hv, r⟩ := h.lst hl es
            refine .inl ⟨_, vs.length, rfl, .inl ⟨vs, SqL.of hv, rfl⟩, ?_⟩
            rw [← r.length]
            exact p.here h (.int _)
          · cases e
    · obtain ⟨ds, e1, e2⟩ := Option.map_eq_some_iff.mp e
      cases e2
      cases rx with
      | cons r t =>
        cases t
        obtain ⟨a, vs, rfl, rr, hh⟩ := seqD_ok h r e1
        refine .inl ⟨_, vs.length, rfl, ?_, ?_⟩
        · rcases hh with ⟨hh, _⟩ | ⟨hh, _⟩
          · exact .inl ⟨vs, hh, rfl⟩
          · exact .inr ⟨vs, hh, rfl⟩
        · rw [← rr.length]
          exact p.here h (.int _)
    · cases e
  | list =>
    simp only [Bi.ev] at e
    split at e
    · obtain ⟨ds, e1, e2⟩ := Option.bind_eq_some_iff.mp e
      unfold alloc at e2
      cases e2
      cases rx with
      | cons r t =>
        cases t
        obtain ⟨a, vs, rfl, rr, hh⟩ := seqD_ok h r e1
        refine ⟨a, vs, rfl, ?_, fun l hl => p.obj h ⟨_, rfl, rr⟩ hl⟩
        rcases hh with ⟨hh, _⟩ | ⟨hh, _⟩
        · exact .inl hh
        · exact .inr hh
    · cases e
  | tuple =>
    simp only [Bi.ev] at e
    split at e
    · obtain ⟨ds, e1, e2⟩ := Option.map_eq_some_iff.mp e
      cases e2
      cases rx with
      | cons r t =>
        cases t
        obtain ⟨a, vs, rfl, rr, hh⟩ := seqD_ok h r e1
        refine ⟨a, vs, rfl, ?_⟩
        rcases hh with ⟨hh, _⟩ | ⟨hh, _⟩
        · exact .inl ⟨hh, fun l hl => p.tup h rr hl⟩
        · exact .inr ⟨hh, p.here h (.tup hh rr)⟩
    · cases e
  | int =>
    simp only [Bi.ev] at e
    split at e
    · cases e
      cases rx with
      | cons r t =>
        cases t
        cases r
        exact .inl ⟨_, rfl, p.here h (.int _)⟩
    · cases e
      cases rx with
      | cons r t =>
        cases t
        cases r
        exact .inr ⟨_, rfl, p.here h (.int _)⟩
    · cases e
  | max2 =>
    simp only [Bi.ev] at e
    split at e
    · cases e
      cases rx with
      | cons r t =>
        cases t with
        | cons r2 t =>
          cases t
          cases r
          cases r2
          exact ⟨_, _, rfl, p.here h (.int _)⟩
    · cases e
  | min2 =>
    simp only [Bi.ev] at e
    split at e
    · cases e
      cases rx with
      | cons r t =>
        cases t with
        | cons r2 t =>
          cases t
          cases r
          cases r2
          exact ⟨_, _, rfl, p.here h (.int _)⟩
    · cases e
  | all =>
    simp only [Bi.ev] at e
    split at e
    · obtain ⟨ds, e1, e2⟩ := Option.bind_eq_some_iff.mp e
      obtain ⟨bs, e3, e4⟩ := Option.map_eq_some_iff.mp e2
      cases e4
      cases rx with
      | cons r t =>
        cases t
        obtain ⟨a, vs, rfl, rr, hh⟩ := seqD_ok h r e1
        rcases hh with ⟨hh, _⟩ | ⟨_, hh⟩
        · refine ⟨a, bs, rfl, ?_, p.here h (.bl _)⟩
          rw [← bools_V rr e3]
          exact hh
        · cases hh
    · cases e
  | dict =>
    simp only [Bi.ev] at e
    split at e
    · obtain ⟨ds, e1, e2⟩ := Option.bind_eq_some_iff.mp e
      obtain ⟨ps, e3, e4⟩ := Option.bind_eq_some_iff.mp e2
      unfold alloc at e4
      cases e4
      cases rx with
      | cons r t =>
        cases t
        obtain ⟨a, vs, rfl, rr, hh⟩ := seqD_ok h r e1
        rcases hh with ⟨hh, _⟩ | ⟨_, hh⟩
        · obtain ⟨as, kvs, h1, h2, h3⟩ := pairs_V rr e3
          subst h1
          exact ⟨a, as, kvs, rfl, hh, h2, fun q hq => p.obj h ⟨_, rfl, merge_V h3 .nil⟩ hq⟩
        · cases hh
    · cases e
end
end IP

namespace IP
open PySem L2

/-! ### methods of built-in types, by values -/
inductive Mt where
  | append | index | insert | popAt | tindex | join | get2
abbrev RM := V → List V → Hp → VK → Prop
def Mt.ty : Mt → String
  | .append => "list" | .index => "list" | .insert => "list" | .popAt => "list" | .tindex => "tuple" | .join => "str" | .get2 => "dict"
def rInsert : RM := fun x vs H Q => ∃ (l : Addr) (xs : List V) (i : Int) (y : V), x = .ref l ∧ vs = [.int i, y] ∧ H l = some (.lst xs) ∧ xs.length < sizeLine ∧ 0 ≤ i ∧ i < 2 ^ 63 ∧
    Q .non (upd H l (.lst (xs.take i.toNat ++ [y] ++ xs.drop i.toNat)))
def rTidx (K : PySem.W.Frag) : RM := fun x xs H Q => ∃ p, ∃ ys : List Str, ∃ z j, x = .ref p ∧ xs = [.str z] ∧ SqT K H p (ys.map V.str) ∧ ys[j]? = some z ∧ (∀ m, m < j → ys[m]? ≠ some z) ∧ Q (.int (j : Nat)) H
def rJoin (K : PySem.W.Frag) : RM := fun x xs H Q => ∃ a p, ∃ ys : List Str, x = .str a ∧ xs = [.ref p] ∧ (SqL K H p (ys.map V.str) ∨ SqT K H p (ys.map V.str)) ∧
    (ys.map (·.length)).sum + ys.length * a.length ≤ 16777216 ∧ Q (.str (Txt.join a ys)) H
def rGet2 : RM := fun x xs H Q => ∃ a y z o, x = .ref a ∧ xs = [y, z] ∧ DGet H a y o ∧ Q (o.getD z) H
def Mt.den (K : PySem.W.Frag) : Mt → RM
  | .append => rAppend
  | .index => rIndex K
  | .insert => rInsert
  | .popAt => rPopAt
  | .tindex => rTidx K
  | .join => rJoin K
  | .get2 => rGet2
section
variable {X : Cx}
theorem m_append : MtR X "list.append" (Mt.den X.K .append) := mt_append
theorem m_index : MtR X "list.index" (Mt.den X.K .index) := mt_index
theorem m_insert : MtR X "list.insert" (Mt.den X.K .insert) := mt_insert
theorem m_popAt : MtR X "list.pop" (Mt.den X.K .popAt) := mt_popAt
theorem m_tindex : MtR X "tuple.index" (Mt.den X.K .tindex) := mt_tup_index
theorem m_join : MtR X "str.join" (Mt.den X.K .join) := mt_join
theorem m_get2 (hu : X.A.units + 1 < cLine) : MtR X "dict.get" (Mt.den X.K .get2) := by
  intro pins s σ H x xs v us Q I rx rs h
  obtain ⟨a, y, z, o, rfl, rfl, g, q⟩ := h
  obtain rfl : v = Value.ref a := rx
  obtain ⟨u1, u2, rfl, r1, r2⟩ := vals2 rs
  exact d_get2 hu I g r1 r2 fun w' s3 I3 rw' => ⟨_, H, I3, rw', q⟩
end

def strsD : List D → Option (List Str)
  | [] => some []
  | .str b :: r => (strsD r).map fun t => b :: t
  | _ :: _ => none
def firstIdx (f : D → Bool) : List D → Option Nat
  | [] => none
  | x :: r => if f x then some 0 else (firstIdx f r).map (· + 1)
def firstStr (z : Str) : List Str → Option Nat
  | [] => none
  | x :: r => if x = z then some 0 else (firstStr z r).map (· + 1)
def Mt.ev (m : Mt) (S : Store) (x : D) (xs : List D) : Option (D × Store) := match m with
  | .append => match x, xs with
    | .loc n, [y] => match S[n]? with
      | some (.lst ds) => if ds.length < LIM then some (.non, S.set n (.lst (ds ++ [y]))) else none
      | _ => none
    | _, _ => none
  | .index => match x, xs with
    | .loc n, [y] => match S[n]? with
      | some (.lst ds) => if flatD y && ds.all flatD then (firstIdx (fun z => eqF z y) ds).map fun j => (.int (j : Nat), S) else none
      | _ => none
    | _, _ => none
  | .insert => match x, xs with
    | .loc n, [.int i, y] => match S[n]? with
      | some (.lst ds) => if ds.length < LIM ∧ 0 ≤ i ∧ i < 2 ^ 63 then some (.non, S.set n (.lst (ds.take i.toNat ++ [y] ++ ds.drop i.toNat))) else none
      | _ => none
    | _, _ => none
  | .popAt => match x, xs with
    | .loc n, [.int i] => match S[n]? with
      | some (.lst ds) => if 0 ≤ i ∧ i < 1000000 then (ds[i.toNat]?).map fun d => (d, S.set n (.lst (ds.eraseIdx i.toNat))) else none
      | _ => none
    | _, _ => none
  | .tindex => match x, xs with
    | .tup ds, [.str z] => (strsD ds).bind fun ys => (firstStr z ys).map fun j => (.int (j : Nat), S)
    | _, _ => none
  | .join => match x, xs with
    | .str a, [y] => (seqD S y).bind fun ds => (strsD ds).bind fun ys => if (ys.map (·.length)).sum + ys.length * a.length ≤ LIM then some (.str (Txt.join a ys), S) else none
    | _, _ => none
  | .get2 => match x, xs with
    | .loc n, [y, z] => match S[n]? with
      | some (.dK kvs) => (keyOf y).map fun k => ((lookK kvs k).getD z, S)
      | _ => none
    | _, _ => none
section
variable {K : PySem.W.Frag} {H : Hp} {ms : List Addr} {S S' : Store} {x y d : D} {u v : V} {Q : VK}
theorem strs_V : ∀ {ds : List D} {vs : List V} {ys : List Str}, Reps K H ms ds vs → strsD ds = some ys → vs = ys.map V.str
  | _, _, _, .nil, e => by simp [strsD] at e; subst e; rfl
  | _, _, bs, .cons r t, e => by
    cases r <;> simp only [strsD] at e <;> first | cases e | skip
    obtain ⟨t', e1, e2⟩ := Option.map_eq_some_iff.mp e
    subst e2
    rw [List.map_cons, ← strs_V t e1]
theorem firstIdx_get {f : D → Bool} : ∀ {ds : List D} {j : Nat}, firstIdx f ds = some j → (∃ z, ds[j]? = some z ∧ f z = true) ∧ ∀ (m : Nat) (z : D), m < j → ds[m]? = some z → f z = false
  | [], j, e => by simp [firstIdx] at e
  | x :: r, j, e => by
    unfold firstIdx at e
    split at e
    · cases e
      exact ⟨⟨x, rfl, by assumption⟩, fun m z hm => by omega⟩
    · rename_i hx
      obtain ⟨k, e1, e2⟩ := Option.map_eq_some_iff.mp e
      subst e2
      obtain ⟨⟨z, h1, h2⟩, h3⟩ := firstIdx_get e1
      refine ⟨⟨z, by simpa using h1, h2⟩, fun m z' hm hz => ?_⟩
      cases m with
      | zero => simp at hz; subst hz; simpa using hx
      | succ m => exact h3 m z' (by omega) (by simpa using hz)
theorem firstStr_get {z : Str} : ∀ {ys : List Str} {j : Nat}, firstStr z ys = some j → ys[j]? = some z ∧ ∀ m, m < j → ys[m]? ≠ some z
  | [], j, e => by simp [firstStr] at e
  | x :: r, j, e => by
    unfold firstStr at e
    split at e
    · cases e
      rename_i hx
      exact ⟨by rw [hx]; rfl, fun m hm => by omega⟩
    · rename_i hx
      obtain ⟨k, e1, e2⟩ := Option.map_eq_some_iff.mp e
      subst e2
      obtain ⟨h1, h3⟩ := firstStr_get e1
      refine ⟨by simpa using h1, fun m hm hz => ?_⟩
      cases m with
      | zero => simp at hz; exact hx hz
      | succ m => exact h3 m (by omega) (by simpa using hz)
theorem SR.lstPut (h : SR K ms S H) {n : Nat} {a : Addr} {ds : List D} {vs : List V} (e1 : ms[n]? = some a) (r : Reps K H ms ds vs) : SR K ms (S.set n (.lst ds)) (upd H a (.lst vs)) := h.put e1 trivial ⟨vs, rfl, r⟩
theorem put_gr {n : Nat} {a : Addr} {o : HO} (e1 : ms[n]? = some a) : Gr ms H ms (upd H a o) := Gr.put (List.mem_of_getElem? e1)
theorem Reps.erase {ds : List D} {vs : List V} : ∀ (i : Nat) , Reps K H ms ds vs → Reps K H ms (ds.eraseIdx i) (vs.eraseIdx i) := by
  intro i r
  induction i generalizing ds vs with
  | zero => cases r with
    | nil => exact .nil
    | cons h t => exact t
  | succ i ih => cases r with
    | nil => exact .nil
    | cons h t => exact .cons h (ih t)
/-- the type, and what is asked of the values -/
theorem mt_ok (m : Mt) {xs : List D} {us : List V} (h : SR K ms S H) (rx : Rep K H ms x u) (rs : Reps K H ms xs us) (e : m.ev S x xs = some (d, S')) (p : Post K ms H d S' Q) : m.den K u us H Q := by
  cases m with
  | append =>
    simp only [Mt.ev] at e
    split at e
    · cases rx with
      | loc hl =>
        cases rs with
        | cons r t =>
          cases t
          split at e
          · rename_i es
            split at e
            · cases e
              obtain ⟨vs, hv, rr⟩ := h.lst hl es
              exact ⟨_, vs, _, rfl, rfl, hv, lim_lt (by rw [← rr.length]; assumption), p _ _ ms (put_gr hl) (h.lstPut hl (rr.append (.cons r .nil))) .non⟩
            · cases e
          · cases e
    · cases e
  | index =>
    simp only [Mt.ev] at e
    split at e
    · cases rx with
      | loc hl =>
        cases rs with
        | cons r t =>
          cases t
          split at e
          · rename_i es
            split at e
            · rename_i hf
              rw [Bool.and_eq_true] at hf
              obtain ⟨j, e1, e2⟩ := Option.map_eq_some_iff.mp e
              cases e2
              obtain ⟨vs, hv, rr⟩ := h.lst hl es
              obtain ⟨⟨z, h1, h2⟩, h3⟩ := firstIdx_get e1
              obtain ⟨w, hw, rw'⟩ := rr.get h1
              have fz : flatD z = true := List.all_eq_true.mp hf.2 z (List.mem_of_getElem? h1)
              refine ⟨_, vs, _, j, w, rfl, rfl, SqL.of hv, flat_V r hf.1, flats_V rr hf.2, hw, ?_, fun k z' hk hz => ?_, p.here h (.int _)⟩
              · rw [eqF_V rw' r fz hf.1]; exact h2
              · obtain ⟨z2, h4, h5⟩ := rr.getV hz
                rw [eqF_V h5 r (List.all_eq_true.mp hf.2 z2 (List.mem_of_getElem? h4)) hf.1]
                exact h3 k z2 hk h4
            · cases e
          · cases e
    · cases e
  | insert =>
    simp only [Mt.ev] at e
    split at e
    · cases rx with
      | loc hl =>
        cases rs with
        | cons r t =>
          cases r
          cases t with
          | cons r t =>
            cases t
            split at e
            · rename_i es
              split at e
              · rename_i hc
                cases e
                obtain ⟨vs, hv, rr⟩ := h.lst hl es
                exact ⟨_, vs, _, _, rfl, rfl, hv, lim_lt (by rw [← rr.length]; exact hc.1), hc.2.1, hc.2.2, p _ _ ms (put_gr hl) (h.lstPut hl (((rr.take _).append (.cons r .nil)).append (rr.drop _))) .non⟩
              · cases e
            · cases e
    · cases e
  | popAt =>
    simp only [Mt.ev] at e
    split at e
    · cases rx with
      | loc hl =>
        cases rs with
        | cons r t =>
          cases r
          cases t
          split at e
          · rename_i i _ _ _ _ ds es
            split at e
            · rename_i hc
              obtain ⟨dd, e1, e2⟩ := Option.map_eq_some_iff.mp e
              cases e2
              obtain ⟨vs, hv, rr⟩ := h.lst hl es
              obtain ⟨w, hw, rw'⟩ := rr.get e1
              have hlt := (List.getElem?_eq_some_iff.mp hw).1
              refine ⟨_, vs, _, _, w, rfl, rfl, hv, by omega, by omega, ?_, hw, p _ _ ms (put_gr hl) (h.lstPut hl (rr.erase _)) (rw'.mono h.muts (put_gr hl))⟩
              unfold seqIndex?
              have q0 : ¬ (_ : Int) < 0 := Int.not_lt.mpr hc.1
              simp only [if_neg q0]
              rw [if_pos]
              rw [Bool.and_eq_true, decide_eq_true_eq, decide_eq_true_eq]
              exact ⟨hc.1, by omega⟩
            · cases e
          · cases e
    · cases e
  | tindex =>
    simp only [Mt.ev] at e
    split at e
    · cases rx with
      | tup hq r =>
        cases rs with
        | cons r2 t =>
          cases r2
          cases t
          obtain ⟨ys, e1, e2⟩ := Option.bind_eq_some_iff.mp e
          obtain ⟨j, e3, e4⟩ := Option.map_eq_some_iff.mp e2
          cases e4
          obtain ⟨h1, h2⟩ := firstStr_get e3
          have hv := strs_V r e1
          subst hv
          exact ⟨_, ys, _, j, rfl, rfl, hq, h1, h2, p.here h (.int _)⟩
    · cases e
  | join =>
    simp only [Mt.ev] at e
    split at e
    · cases rx
      cases rs with
      | cons r t =>
        cases t
        obtain ⟨ds, e1, e2⟩ := Option.bind_eq_some_iff.mp e
        obtain ⟨ys, e3, e4⟩ := Option.bind_eq_some_iff.mp e2
        split at e4
        · rename_i hz
          cases e4
          obtain ⟨a, vs, rfl, rr, hh⟩ := seqD_ok h r e1
          have hv := strs_V rr e3
          subst hv
          refine ⟨_, a, ys, rfl, rfl, ?_, Nat.le_trans hz (by decide), p.here h (.str _)⟩
          rcases hh with ⟨hh, _⟩ | ⟨hh, _⟩
          · exact .inl hh
          · exact .inr hh
        · cases e4
    · cases e
  | get2 =>
    simp only [Mt.ev] at e
    split at e
    · cases rx with
      | loc hl =>
        cases rs with
        | cons r1 t =>
          cases t with
          | cons r2 t =>
            cases t
            split at e
            · rename_i kvs es
              obtain ⟨k, e1, e2⟩ := Option.map_eq_some_iff.mp e
              cases e2
              obtain ⟨ws, hw, rr⟩ := h.dK hl es
              refine ⟨_, _, _, valV ws k, rfl, rfl, by rw [keyOf_V r1 e1]; exact DGet.k hw, ?_⟩
              rcases lookK_V k rr with ⟨z1, z2⟩ | ⟨d2, w, z1, z2, z3⟩
              · rw [z1] at p
                rw [z2]
                exact p.here h r2
              · rw [z1] at p
                rw [z2]
                exact p.here h z3
            · cases e
    · cases e
def isLst (S : Store) : D → Bool
  | .loc n => match S[n]? with
    | some (.lst _) => true
    | _ => false
  | _ => false
/-- the receiver is of the type (ahead of the arguments) -/
def Mt.recv (m : Mt) (S : Store) (x : D) : Bool := match m with
  | .join => match x with
    | .str _ => true
    | _ => false
  | .tindex => false
  | .get2 => match x with
    | .loc n => match S[n]? with
      | some (.dK _) => true
      | _ => false
    | _ => false
  | _ => isLst S x
theorem recv_lst (h : SR K ms S H) (rx : Rep K H ms x u) (e : isLst S x = true) : tyV K "list" u H := by
  cases rx <;> simp only [isLst] at e <;> first | cases e | skip
  rename_i hl
  split at e
  · obtain ⟨vs, hv, _⟩ := h.lst hl (by assumption)
    exact .inl ⟨rfl, vs, SqL.of hv⟩
  · cases e
theorem mt_ty (m : Mt) (h : SR K ms S H) (rx : Rep K H ms x u) (e : m.recv S x = true) : tyV K m.ty u H := by
  cases m with
  | append => exact recv_lst h rx e
  | index => exact recv_lst h rx e
  | insert => exact recv_lst h rx e
  | popAt => exact recv_lst h rx e
  | tindex => cases e
  | join =>
    simp only [Mt.recv] at e
    cases rx <;> simp only at e <;> first | cases e | skip
    rfl
  | get2 =>
    simp only [Mt.recv] at e
    cases rx <;> simp only at e <;> first | cases e | skip
    rename_i hl
    split at e
    · obtain ⟨vs, hv, _⟩ := h.dK hl (by assumption)
      exact .inr (.inr (.inl ⟨rfl, .inl ⟨vs, hv⟩⟩))
    · cases e
end
end IP

namespace IP
open PySem L2 RZ

/-! ### slots -/
abbrev Sl := List (Option D)
structure RSt (K : PySem.W.Frag) (H : Hp) (ms : List Addr) (σd : Sl) (σ : L2.St) : Prop where
  len : σd.length = σ.length
  ob : ∀ (i : Nat) (d : D), σd[i]? = some (some d) → ∃ v, σ[i]? = some (some v) ∧ Rep K H ms d v
def wipeD (σ : Sl) : List Nat → Sl
  | [] => σ
  | v :: vs => (wipeD σ vs).set v none
section
variable {K : PySem.W.Frag} {H H' : Hp} {ms ms' : List Addr} {S : Store} {σd : Sl} {σ : L2.St}
theorem RSt.mono (r : RSt K H ms σd σ) (hm : Muts ms H) (g : Gr ms H ms' H') : RSt K H' ms' σd σ := ⟨r.len, fun i d e => by
  obtain ⟨v, h1, h2⟩ := r.ob i d e
  exact ⟨v, h1, h2.mono hm g⟩⟩
theorem RSt.set (r : RSt K H ms σd σ) (i : Nat) {d : D} {v : V} (h : Rep K H ms d v) : RSt K H ms (σd.set i (some d)) (σ.set i (some v)) := ⟨by simp [r.len], fun j d' e => by
  by_cases hj : i = j
  · subst hj
    by_cases hl : i < σd.length
    · rw [List.getElem?_set_self hl] at e
      cases e
      exact ⟨v, by rw [List.getElem?_set_self (by rw [← r.len]; exact hl)], h⟩
    · rw [List.getElem?_eq_none (by simpa using hl)] at e
      cases e
  · rw [List.getElem?_set_ne hj] at e
    rw [List.getElem?_set_ne hj]
    exact r.ob j d' e⟩
theorem RSt.unset (r : RSt K H ms σd σ) (i : Nat) (o : Option V) : RSt K H ms (σd.set i none) (σ.set i o) := ⟨by simp [r.len], fun j d' e => by
  by_cases hj : i = j
  · subst hj
    by_cases hl : i < σd.length
    · rw [List.getElem?_set_self hl] at e
      cases e
    · rw [List.getElem?_eq_none (by simpa using hl)] at e
      cases e
  · rw [List.getElem?_set_ne hj] at e
    rw [List.getElem?_set_ne hj]
    exact r.ob j d' e⟩
theorem RSt.wipe (r : RSt K H ms σd σ) : ∀ vs : List Nat, RSt K H ms (wipeD σd vs) (L2.wipe σ vs)
  | [] => r
  | v :: vs => (RSt.wipe r vs).unset v none
end
theorem wipe_get (σ : L2.St) : ∀ (vs : List Nat) (j : Nat), (L2.wipe σ vs)[j]? = if j ∈ vs ∧ j < σ.length then some none else σ[j]?
  | [], j => by simp [L2.wipe]
  | v :: vs, j => by
    unfold L2.wipe
    have hl := wipe_length σ vs
    by_cases hv : v = j
    · subst hv
      by_cases h : v < σ.length
      · rw [List.getElem?_set_self (by rw [hl]; exact h), if_pos ⟨List.mem_cons_self, h⟩]
      · rw [List.getElem?_eq_none (by rw [List.length_set, hl]; omega), if_neg (by omega), List.getElem?_eq_none (by omega)]
    · rw [List.getElem?_set_ne hv, wipe_get σ vs j]
      have : (j ∈ v :: vs) ↔ j ∈ vs := by
        rw [List.mem_cons]
        exact ⟨fun z => z.resolve_left (fun q => hv q.symm), .inr⟩
      by_cases hm : j ∈ vs ∧ j < σ.length
      · rw [if_pos hm, if_pos ⟨this.mpr hm.1, hm.2⟩]
      · rw [if_neg hm, if_neg (fun z => hm ⟨this.mp z.1, z.2⟩)]
theorem wipe_set (σ : L2.St) (vs : List Nat) {i : Nat} (h : i ∈ vs) (x : Option V) : L2.wipe (σ.set i x) vs = L2.wipe σ vs := by
  apply List.ext_getElem?
  intro j
  rw [wipe_get, wipe_get, List.length_set]
  by_cases hj : i = j
  · subst hj
    by_cases hl : i < σ.length
    · rw [if_pos ⟨h, hl⟩, if_pos ⟨h, hl⟩]
    · rw [if_neg (by omega), if_neg (by omega), List.getElem?_eq_none (by simp; omega), List.getElem?_eq_none (by omega)]
  · rw [List.getElem?_set_ne hj]

/-! ### targets -/
inductive Tg where
  | name (i : Nat) | tup (is : List Nat)
def Tg.slots : Tg → List Nat
  | .name i => [i]
  | .tup is => is
def setAll (σ : Sl) : List Nat → List D → Option Sl
  | [], [] => some σ
  | i :: is, d :: ds => setAll (σ.set i (some d)) is ds
  | _, _ => none
def Tg.bind (g : Tg) (d : D) (σ : Sl) : Option Sl := match g with
  | .name i => some (σ.set i (some d))
  | .tup is => match d with
    | .tup ds => setAll σ is ds
    | _ => none
def gAll : List Nat → TGs
  | [] => gNil
  | i :: is => gCons (gName i) (gAll is)
def Tg.den (K : PySem.W.Frag) : Tg → TG
  | .name i => gName i
  | .tup is => gTup K is.length (gAll is)
section
variable {K : PySem.W.Frag} {H H' : Hp} {ms ms' : List Addr} {S : Store} {σd σd' : Sl} {σ : L2.St}
theorem setAll_ok {P : L2.St → Prop} (hP : ∀ σ i v, P σ → P (σ.set i (some v))) : ∀ (is : List Nat) (ds : List D) (vs : List V) (σd : Sl) (σ : L2.St), RSt K H ms σd σ → Reps K H ms ds vs → setAll σd is ds = some σd' → P σ →
    ∀ {Q : L2.St → Hp → Prop}, (∀ σ', RSt K H ms σd' σ' → P σ' → Q σ' H) → gAll is vs σ H Q
  | [], [], vs, σd, σ, r, rs, e, hp, Q, q => by
    cases rs
    simp [setAll] at e
    subst e
    exact ⟨rfl, q σ r hp⟩
  | [], d :: ds, vs, σd, σ, r, rs, e, hp, Q, q => by simp [setAll] at e
  | i :: is, [], vs, σd, σ, r, rs, e, hp, Q, q => by simp [setAll] at e
  | i :: is, d :: ds, vs, σd, σ, r, rs, e, hp, Q, q => by
    cases rs with
    | cons h t =>
      simp only [setAll] at e
      exact ⟨_, _, rfl, setAll_ok hP is ds _ _ _ (r.set i h) t e (hP _ _ _ hp) q⟩
theorem setAll_len : ∀ {is : List Nat} {ds : List D} {σd σd' : Sl}, setAll σd is ds = some σd' → is.length = ds.length
  | [], [], _, _, _ => rfl
  | [], _ :: _, _, _, e => by simp [setAll] at e
  | _ :: _, [], _, _, e => by simp [setAll] at e
  | i :: is, d :: ds, _, _, e => by
    simp only [setAll] at e
    rw [List.length_cons, List.length_cons, setAll_len e]
theorem tg_ok (g : Tg) {d : D} {v : V} (r : RSt K H ms σd σ) (rd : Rep K H ms d v) (e : g.bind d σd = some σd') {Q : L2.St → Hp → Prop} (q : ∀ σ', RSt K H ms σd' σ' → Q σ' H) : g.den K v σ H Q := by
  cases g with
  | name i =>
    simp only [Tg.bind] at e
    cases e
    exact q _ (r.set i rd)
  | tup is =>
    simp only [Tg.bind] at e
    cases rd <;> simp only at e <;> first | cases e | skip
    rename_i hx rr
    exact ⟨_, _, rfl, hx, by rw [← rr.length, setAll_len e], setAll_ok (P := fun _ => True) (fun _ _ _ _ => trivial) is _ _ _ _ r rr e trivial fun σ' h _ => q σ' h⟩
theorem setAll_wipe (vs : List Nat) : ∀ (is : List Nat) (ds : List D) (us : List V) (σd : Sl) (σ : L2.St), (∀ i ∈ is, i ∈ vs) → RSt K H ms σd σ → Reps K H ms ds us → setAll σd is ds = some σd' →
    ∀ {σ0 : L2.St} {Q : L2.St → Hp → Prop}, L2.wipe σ vs = σ0 → (∀ σ', RSt K H ms σd' σ' → L2.wipe σ' vs = σ0 → Q σ' H) → gAll is us σ H Q
  | [], [], us, σd, σ, hi, r, rs, e, σ0, Q, hw, q => by
    cases rs
    simp [setAll] at e
    subst e
    exact ⟨rfl, q σ r hw⟩
  | [], d :: ds, us, σd, σ, hi, r, rs, e, σ0, Q, hw, q => by simp [setAll] at e
  | i :: is, [], us, σd, σ, hi, r, rs, e, σ0, Q, hw, q => by simp [setAll] at e
  | i :: is, d :: ds, us, σd, σ, hi, r, rs, e, σ0, Q, hw, q => by
    cases rs with
    | cons h t =>
      simp only [setAll] at e
      exact ⟨_, _, rfl, setAll_wipe vs is ds _ _ _ (fun j hj => hi j (List.mem_cons_of_mem _ hj)) (r.set i h) t e (by rw [wipe_set _ _ (hi i List.mem_cons_self)]; exact hw) q⟩
/-- in a comprehension: only the target's slots are stored -/
theorem tg_wipe (g : Tg) {d : D} {v : V} (r : RSt K H ms (wipeD σd g.slots) (L2.wipe σ g.slots)) (rd : Rep K H ms d v) (e : g.bind d (wipeD σd g.slots) = some σd') {Q : L2.St → Hp → Prop}
    (q : ∀ σ', RSt K H ms σd' σ' → L2.wipe σ' g.slots = L2.wipe σ g.slots → Q σ' H) : g.den K v (L2.wipe σ g.slots) H Q := by
  have h0 : L2.wipe (L2.wipe σ g.slots) g.slots = L2.wipe σ g.slots := by
    apply List.ext_getElem?
    intro j
    rw [wipe_get, wipe_get, wipe_length]
    split <;> rfl
  cases g with
  | name i =>
    simp only [Tg.bind] at e
    cases e
    exact q _ (r.set i rd) (by rw [wipe_set _ _ (by simp [Tg.slots])]; exact h0)
  | tup is =>
    simp only [Tg.bind] at e
    cases rd <;> simp only at e <;> first | cases e | skip
    rename_i hx rr
    exact ⟨_, _, rfl, hx, by rw [← rr.length, setAll_len e], setAll_wipe is is _ _ _ _ (fun _ h => h) r rr e h0 q⟩
end

/-! ### what is walked -/
inductive Src where
  | rng (lo : Int) (n : Nat) | items (xs : List D) | str (z : Str) | lst (k : Nat) | enumL (k : Nat) | enumI (xs : List D) | zipL (k m : Nat) | zipI (xs ys : List D)
def lstAt (S : Store) (k i : Nat) : Option (Option D) := match S[k]? with
  | some (.lst ds) => some ds[i]?
  | _ => none
def pairAt (x y : Option D) : Option D := x.bind fun a => y.map fun b => .tup [a, b]
def Src.at (S : Store) (s : Src) (i : Nat) : Option (Option D) := match s with
  | .rng lo n => if i < n then some (some (.int (lo + i))) else some none
  | .items xs => some xs[i]?
  | .str z => some (z.cps[i]?.map fun c => .str ⟨#[c]⟩)
  | .lst k => lstAt S k i
  | .enumL k => (lstAt S k i).map fun o => o.map fun d => .tup [.int (i : Nat), d]
  | .enumI xs => some (xs[i]?.map fun d => .tup [.int (i : Nat), d])
  | .zipL k m => (lstAt S k i).bind fun x => (lstAt S m i).map fun y => pairAt x y
  | .zipI xs ys => some (pairAt xs[i]? ys[i]?)
/-- the tuple at a, each item in a new pair with its number -/
def IteT (K : PySem.W.Frag) (a : Addr) : It :=
  ⟨fun i H => ∃ (xs : List V) (x : V), SqT K H a xs ∧ xs[i]? = some x, fun i H v H' => ∃ T x, v = .ref T ∧ H T = none ∧ H' = upd H T (.tup [.int (i : Nat), x]) ∧ ∀ xs, SqT K H a xs → xs[i]? = some x, fun i H => ∃ xs : List V, SqT K H a xs ∧ xs.length ≤ i⟩
inductive SrcRel (K : PySem.W.Frag) (ms : List Addr) (H : Hp) : Src → It → Prop where
  | rng (lo : Int) (n : Nat) : SrcRel K ms H (.rng lo n) (Itr lo n)
  | tup {a : Addr} {vs : List V} {xs : List D} (h : SqT K H a vs) (r : Reps K H ms xs vs) : SrcRel K ms H (.items xs) (Itt K a)
  | rol {a : Addr} {vs : List V} {xs : List D} (h : RoL K H ms a vs) (r : Reps K H ms xs vs) : SrcRel K ms H (.items xs) (Itl K a)
  | str (z : Str) : SrcRel K ms H (.str z) (Its z)
  | lst {k : Nat} {a : Addr} (h : ms[k]? = some a) : SrcRel K ms H (.lst k) (Itl K a)
  | enumL {k : Nat} {a : Addr} (h : ms[k]? = some a) : SrcRel K ms H (.enumL k) (Ite K a)
  | enumR {a : Addr} {vs : List V} {xs : List D} (h : RoL K H ms a vs) (r : Reps K H ms xs vs) : SrcRel K ms H (.enumI xs) (Ite K a)
  | enumT {a : Addr} {vs : List V} {xs : List D} (h : SqT K H a vs) (r : Reps K H ms xs vs) : SrcRel K ms H (.enumI xs) (IteT K a)
  | zipL {k m : Nat} {a b : Addr} (h : ms[k]? = some a) (h' : ms[m]? = some b) : SrcRel K ms H (.zipL k m) (Itz K a b)
  | zipT {a b : Addr} {vs ws : List V} {xs ys : List D} (h : SqT K H a vs) (r : Reps K H ms xs vs) (h' : SqT K H b ws) (r' : Reps K H ms ys ws) : SrcRel K ms H (.zipI xs ys) (ItzT K a b)
section
variable {K : PySem.W.Frag} {H H' : Hp} {ms ms' : List Addr} {S : Store} {src : Src} {J : It}
theorem SrcRel.mono (h : SrcRel K ms H src J) (hm : Muts ms H) (g : Gr ms H ms' H') : SrcRel K ms' H' src J := by
  cases h with
  | rng lo n => exact .rng lo n
  | tup h r => exact .tup (tup_mono hm g h) (r.mono hm g)
  | rol h r => exact .rol (rol_mono hm g h) (r.mono hm g)
  | str z => exact .str z
  | lst h => exact .lst (g.mem h)
  | enumL h => exact .enumL (g.mem h)
  | enumR h r => exact .enumR (rol_mono hm g h) (r.mono hm g)
  | enumT h r => exact .enumT (tup_mono hm g h) (r.mono hm g)
  | zipL h h' => exact .zipL (g.mem h) (g.mem h')
  | zipT h r h' r' => exact .zipT (tup_mono hm g h) (r.mono hm g) (tup_mono hm g h') (r'.mono hm g)
theorem lstAt_some {k i : Nat} {o : Option D} (e : lstAt S k i = some o) : ∃ ds, S[k]? = some (.lst ds) ∧ o = ds[i]? := by
  unfold lstAt at e
  split at e
  · cases e; exact ⟨_, by assumption, rfl⟩
  · cases e
theorem pair_rep (h : SR K ms S H) {x y : D} {a b : V} {T : Addr} (rx : Rep K H ms x a) (ry : Rep K H ms y b) (hT : H T = none) : Gr ms H ms (upd H T (.tup [a, b])) ∧ SR K ms S (upd H T (.tup [a, b])) ∧ Rep K (upd H T (.tup [a, b])) ms (.tup [x, y]) (.ref T) :=
  ⟨Gr.new hT, h.new hT, .tup (SqT.of upd_same) ((Reps.cons rx (.cons ry .nil)).mono h.muts (Gr.new hT))⟩
theorem pairAt_some {x y : Option D} {d : D} (e : pairAt x y = some d) : ∃ a b, x = some a ∧ y = some b ∧ d = .tup [a, b] := by
  unfold pairAt at e
  cases x with
  | none => cases e
  | some a =>
    cases y with
    | none => cases e
    | some b => cases e; exact ⟨a, b, rfl, rfl, rfl⟩
theorem src_turn (h : SR K ms S H) (r : SrcRel K ms H src J) {i : Nat} {d : D} (e : src.at S i = some (some d)) :
    J.go i H ∧ ∀ x H', J.yld i H x H' → Gr ms H ms H' ∧ SR K ms S H' ∧ Rep K H' ms d x := by
  cases r with
  | rng lo n =>
    simp only [Src.at] at e
    split at e
    · cases e
      refine ⟨by assumption, fun x H' y => ?_⟩
      obtain ⟨rfl, rfl⟩ := y
      exact ⟨Gr.refl _ _, h, .int _⟩
    · cases e
  | tup hx r =>
    simp only [Src.at, Option.some.injEq] at e
    obtain ⟨v, h1, h2⟩ := r.get e
    refine ⟨⟨_, v, hx, h1⟩, fun x H' y => ?_⟩
    obtain ⟨rfl, y⟩ := y
    have e2 := y _ hx
    rw [h1] at e2
    cases e2
    exact ⟨Gr.refl _ _, h, h2⟩
  | rol hx r =>
    simp only [Src.at, Option.some.injEq] at e
    obtain ⟨v, h1, h2⟩ := r.get e
    refine ⟨⟨_, v, hx.seq, h1⟩, fun x H' y => ?_⟩
    obtain ⟨rfl, y⟩ := y
    have e2 := y _ hx.seq
    rw [h1] at e2
    cases e2
    exact ⟨Gr.refl _ _, h, h2⟩
  | str z =>
    simp only [Src.at, Option.some.injEq] at e
    obtain ⟨c, e1, e2⟩ := Option.map_eq_some_iff.mp e
    subst e2
    refine ⟨(Array.getElem?_eq_some_iff.mp e1).1, fun x H' y => ?_⟩
    obtain ⟨rfl, c', h1, rfl⟩ := y
    rw [e1] at h1
    cases h1
    exact ⟨Gr.refl _ _, h, .str _⟩
  | lst hl =>
    obtain ⟨ds, es, e1⟩ := lstAt_some e
    obtain ⟨vs, hv, r⟩ := h.lst hl es
    obtain ⟨v, h1, h2⟩ := r.get e1.symm
    refine ⟨⟨_, v, SqL.of hv, h1⟩, fun x H' y => ?_⟩
    obtain ⟨rfl, y⟩ := y
    have e2 := y _ (SqL.of hv)
    rw [h1] at e2
    cases e2
    exact ⟨Gr.refl _ _, h, h2⟩
  | enumL hl =>
    simp only [Src.at] at e
    obtain ⟨o, e0, e1⟩ := Option.map_eq_some_iff.mp e
    obtain ⟨d', e2, e3⟩ := Option.map_eq_some_iff.mp e1
    subst e3
    obtain ⟨ds, es, e4⟩ := lstAt_some e0
    rw [e2] at e4
    obtain ⟨vs, hv, r⟩ := h.lst hl es
    obtain ⟨v, h1, h2⟩ := r.get e4.symm
    refine ⟨⟨_, v, SqL.of hv, h1⟩, fun x H' y => ?_⟩
    obtain ⟨T, w, rfl, hT, rfl, y⟩ := y
    have e5 := y _ (SqL.of hv)
    rw [h1] at e5
    cases e5
    exact pair_rep h (.int _) h2 hT
  | enumR hx r =>
    simp only [Src.at, Option.some.injEq] at e
    obtain ⟨d', e2, e3⟩ := Option.map_eq_some_iff.mp e
    subst e3
    obtain ⟨v, h1, h2⟩ := r.get e2
    refine ⟨⟨_, v, hx.seq, h1⟩, fun x H' y => ?_⟩
    obtain ⟨T, w, rfl, hT, rfl, y⟩ := y
    have e5 := y _ hx.seq
    rw [h1] at e5
    cases e5
    exact pair_rep h (.int _) h2 hT
  | enumT hx r =>
    simp only [Src.at, Option.some.injEq] at e
    obtain ⟨d', e2, e3⟩ := Option.map_eq_some_iff.mp e
    subst e3
    obtain ⟨v, h1, h2⟩ := r.get e2
    refine ⟨⟨_, v, hx, h1⟩, fun x H' y => ?_⟩
    obtain ⟨T, w, rfl, hT, rfl, y⟩ := y
    have e5 := y _ hx
    rw [h1] at e5
    cases e5
    exact pair_rep h (.int _) h2 hT
  | zipL hl hl' =>
    simp only [Src.at] at e
    obtain ⟨x1, e0, e1⟩ := Option.bind_eq_some_iff.mp e
    obtain ⟨y1, e2, e3⟩ := Option.map_eq_some_iff.mp e1
    obtain ⟨a, b, rfl, rfl, rfl⟩ := pairAt_some e3
    obtain ⟨ds, es, e4⟩ := lstAt_some e0
    obtain ⟨ds', es', e4'⟩ := lstAt_some e2
    obtain ⟨vs, hv, r⟩ := h.lst hl es
    obtain ⟨vs', hv', r'⟩ := h.lst hl' es'
    obtain ⟨v, h1, h2⟩ := r.get e4.symm
    obtain ⟨v', h1', h2'⟩ := r'.get e4'.symm
    refine ⟨⟨_, _, v, v', SqL.of hv, SqL.of hv', h1, h1'⟩, fun x H' y => ?_⟩
    obtain ⟨T, w, w', rfl, hT, rfl, y, y'⟩ := y
    have e5 := y _ (SqL.of hv)
    have e5' := y' _ (SqL.of hv')
    rw [h1] at e5
    rw [h1'] at e5'
    cases e5
    cases e5'
    exact pair_rep h h2 h2' hT
  | zipT hx r hx' r' =>
    simp only [Src.at, Option.some.injEq] at e
    obtain ⟨a, b, e2, e2', rfl⟩ := pairAt_some e
    obtain ⟨v, h1, h2⟩ := r.get e2
    obtain ⟨v', h1', h2'⟩ := r'.get e2'
    refine ⟨⟨_, _, v, v', hx, hx', h1, h1'⟩, fun x H' y => ?_⟩
    obtain ⟨T, w, w', rfl, hT, rfl, y, y'⟩ := y
    have e5 := y _ hx
    have e5' := y' _ hx'
    rw [h1] at e5
    rw [h1'] at e5'
    cases e5
    cases e5'
    exact pair_rep h h2 h2' hT
theorem Reps.short {ds : List D} {vs : List V} (r : Reps K H ms ds vs) {i : Nat} (e : ds[i]? = none) : vs.length ≤ i := by
  rw [← r.length]
  exact List.getElem?_eq_none_iff.mp e
theorem pairAt_none {x y : Option D} (e : pairAt x y = none) : x = none ∨ y = none := by
  unfold pairAt at e
  cases x with
  | none => exact .inl rfl
  | some a =>
    cases y with
    | none => exact .inr rfl
    | some b => cases e
theorem src_stop (h : SR K ms S H) (r : SrcRel K ms H src J) {i : Nat} (e : src.at S i = some none) : J.stop i H := by
  cases r with
  | rng lo n =>
    simp only [Src.at] at e
    split at e
    · cases e
    · exact Nat.le_of_not_lt (by assumption)
  | tup hx r =>
    simp only [Src.at, Option.some.injEq] at e
    exact ⟨_, hx, r.short e⟩
  | rol hx r =>
    simp only [Src.at, Option.some.injEq] at e
    exact ⟨_, hx.seq, r.short e⟩
  | str z =>
    simp only [Src.at, Option.some.injEq, Option.map_eq_none_iff] at e
    exact Array.getElem?_eq_none_iff.mp e
  | lst hl =>
    obtain ⟨ds, es, e1⟩ := lstAt_some e
    obtain ⟨vs, hv, r⟩ := h.lst hl es
    exact ⟨_, SqL.of hv, r.short e1.symm⟩
  | enumL hl =>
    simp only [Src.at] at e
    obtain ⟨o, e0, e1⟩ := Option.map_eq_some_iff.mp e
    rw [Option.map_eq_none_iff] at e1
    subst e1
    obtain ⟨ds, es, e4⟩ := lstAt_some e0
    obtain ⟨vs, hv, r⟩ := h.lst hl es
    exact ⟨_, SqL.of hv, r.short e4.symm⟩
  | enumR hx r =>
    simp only [Src.at, Option.some.injEq, Option.map_eq_none_iff] at e
    exact ⟨_, hx.seq, r.short e⟩
  | enumT hx r =>
    simp only [Src.at, Option.some.injEq, Option.map_eq_none_iff] at e
    exact ⟨_, hx, r.short e⟩
  | zipL hl hl' =>
    simp only [Src.at] at e
    obtain ⟨x1, e0, e1⟩ := Option.bind_eq_some_iff.mp e
    obtain ⟨y1, e2, e3⟩ := Option.map_eq_some_iff.mp e1
    obtain ⟨ds, es, e4⟩ := lstAt_some e0
    obtain ⟨ds', es', e4'⟩ := lstAt_some e2
    obtain ⟨vs, hv, r⟩ := h.lst hl es
    obtain ⟨vs', hv', r'⟩ := h.lst hl' es'
    refine ⟨_, _, SqL.of hv, SqL.of hv', ?_⟩
    rcases pairAt_none e3 with z | z
    · subst z; exact .inl (r.short e4.symm)
    · subst z; exact .inr (r'.short e4'.symm)
  | zipT hx r hx' r' =>
    simp only [Src.at, Option.some.injEq] at e
    refine ⟨_, _, hx, hx', ?_⟩
    rcases pairAt_none e with z | z
    · exact .inl (r.short z)
    · exact .inr (r'.short z)
end
end IP

namespace IP
open PySem L2 RZ

/-! ### kinds -/
inductive Ty where
  | bool | int | str | tuple | list | dict
  deriving DecidableEq
def Ty.name : Ty → String
  | .bool => "bool" | .int => "int" | .str => "str" | .tuple => "tuple" | .list => "list" | .dict => "dict"
inductive Tn where
  | non | ty (t : Ty)
def Tn.name : Tn → String
  | .non => "NoneType"
  | .ty t => t.name
def subT : Tn → Ty → Bool
  | .non, _ => false
  | .ty .bool, .int => true
  | .ty a, b => decide (a = b)
theorem kit_T (a : Tn) (b : Ty) : kitB a.name b.name = some (subT a b) := by
  cases a with
  | non => cases b <;> decide +kernel
  | ty t => cases t <;> cases b <;> decide +kernel
def tyD (S : Store) : D → Option Tn
  | .non => some .non
  | .bl _ => some (.ty .bool)
  | .int _ => some (.ty .int)
  | .str _ => some (.ty .str)
  | .tup _ => some (.ty .tuple)
  | .rol _ => some (.ty .list)
  | .loc n => match S[n]? with
    | some (.lst _) => some (.ty .list)
    | some (.dK _) => some (.ty .dict)
    | some (.dT _) => some (.ty .dict)
    | none => none
  | .cls _ => none
  | .exc _ _ _ => none
theorem tyD_ok {K : PySem.W.Frag} {H : Hp} {ms : List Addr} {S : Store} {x : D} {u : V} {t : Tn} (h : SR K ms S H) (rx : Rep K H ms x u) (e : tyD S x = some t) : TyX K H u (.type t.name) := by
  cases rx with
  | non => cases e; exact .base .non
  | bl b => cases e; exact .base (.bl b)
  | int b => cases e; exact .base (.int b)
  | str b => cases e; exact .base (.str b)
  | tup hq _ =>
    cases e
    rcases hq with (hq | ⟨o, hq⟩) | ⟨o, its, n, h1, h2, h3, _⟩
    · exact .base (.tup hq)
    · exact .fTuple hq
    · exact .kTuple h1 h2
  | rol hq _ =>
    cases e
    rcases hq with ⟨o, hq⟩ | ⟨o, its, n, h1, h2, h3, _⟩
    · exact .base (.frz hq)
    · exact .kList h1 h2
  | loc hl =>
    simp only [tyD] at e
    split at e
    · cases e
      obtain ⟨u, hu, vs, rfl, _⟩ := h.ob _ _ _ hl (by assumption)
      exact .base (.lst hu)
    · cases e
      obtain ⟨u, hu, vs, rfl, _⟩ := h.ob _ _ _ hl (by assumption)
      exact .base (.dK hu)
    · cases e
      obtain ⟨u, hu, vs, rfl, _⟩ := h.ob _ _ _ hl (by assumption)
      exact .base (.dT hu)
    · cases e
  | cls => cases e
  | exc _ _ _ => cases e
  | exc0 _ => cases e

/-! ### expressions -/
inductive E where
  | non | bl (b : Bool) | int (i : Int) | str (s : Str)
  | var (i : Nat) | g (i : Nat)
  | op (o : Op) (a b : E) | chain (o o' : Op) (a b c : E) | neg (a : E)
  | andV (a b : E) | orV (a b : E) | notV (a : E) | ite (t a b : E)
  | ix (a b : E) | sl (a lo hi : E)
  | isi (ts : List Ty) (a : E)
  | cb (b : Bi) (as : E) | bm (m : Mt) (o as : E) | kidx (i : Nat) (a : E) | call (f : Nat) (as : E)
  | tup (as : E) | lst (as : E) | dnew
  | lc (src : E) (g : Tg) (c e : E)
  | mkx (c : Nat) (as : E) | isx (j : Nat) (a : E) | fld (a : E) (f : Str)
  | iseq (a : E) | irng1 (a : E) | irng2 (a b : E) | ienum (a : E) | izip (a b : E)
  | nil | cons (a b : E)
def E.isNil : E → Bool
  | .nil => true
  | _ => false
/-- what the program brings: its defs, its constants -/
structure Bas where
  gd : Nat → D
  ks : Nat → List Str
  mkx : Nat → List D → Option (Addr × List Str × List D)
  isx : Addr → Nat → Option Bool
  fo : Addr → Str → Bool
structure Ev extends Bas where
  cf : Nat → Store → List D → Option (D × Store)
/-- the same as addresses: constants, tuples of texts, classes; how an exception is made -/
structure Ds where
  gv : Nat → V
  kv : Nat → V
  cv : Nat → V
  mkR : Nat → List V → Hp → VK → Prop
def asB (r : D × Store) : Option (Bool × Store) := match r.1 with
  | .bl b => some (b, r.2)
  | _ => none
def lcN (src : Src) (g : Tg) (σ : Sl) (fc : Sl → Store → Option (Bool × Store)) (fe : Sl → Store → Option (D × Store)) : Nat → Nat → List D → Store → Option (List D × Store)
  | 0, _, _, _ => none
  | n + 1, i, acc, S => match src.at S i with
    | none => none
    | some none => some (acc, S)
    | some (some d) => (g.bind d (wipeD σ g.slots)).bind fun σ1 => (fc σ1 S).bind fun q => if q.1 = true then (fe σ1 q.2).bind fun y => lcN src g σ fc fe n (i + 1) (acc ++ [y.1]) y.2 else lcN src g σ fc fe n (i + 1) acc q.2
def srcSeq (r : D × Store) : Option (Src × Store) := match r.1 with
  | .tup xs => some (.items xs, r.2)
  | .rol xs => some (.items xs, r.2)
  | .str z => some (.str z, r.2)
  | .loc n => match r.2[n]? with
    | some (.lst _) => some (.lst n, r.2)
    | _ => none
  | _ => none
def srcEnum (r : D × Store) : Option (Src × Store) := match r.1 with
  | .tup xs => some (.enumI xs, r.2)
  | .rol xs => some (.enumI xs, r.2)
  | .loc n => match r.2[n]? with
    | some (.lst _) => some (.enumL n, r.2)
    | _ => none
  | _ => none
def srcZip (x : D) (r : D × Store) : Option (Src × Store) := match x, r.1 with
  | .tup xs, .tup ys => some (.zipI xs ys, r.2)
  | .loc n, .loc m => match r.2[n]?, r.2[m]? with
    | some (.lst _), some (.lst _) => some (.zipL n m, r.2)
    | _, _ => none
  | _, _ => none
def srcRng (lo : Int) (r : D × Store) : Option (Src × Store) := match r.1 with
  | .int j => if -1000000000 ≤ lo ∧ lo ≤ 1000000000 ∧ -1000000000 ≤ j ∧ j ≤ 1000000000 then some (.rng lo (j - lo).toNat, r.2) else none
  | _ => none
def asI (r : D × Store) : Option (Int × Store) := match r.1 with
  | .int i => some (i, r.2)
  | _ => none
section
variable (C : Ev)
mutual
def evE : E → Sl → Store → Option (D × Store)
  | .non, _, S => some (.non, S)
  | .bl b, _, S => some (.bl b, S)
  | .int i, _, S => some (.int i, S)
  | .str s, _, S => some (.str s, S)
  | .var i, σ, S => match σ[i]? with
    | some (some d) => some (d, S)
    | _ => none
  | .g i, _, S => some (C.gd i, S)
  | .op o a b, σ, S => (evE a σ S).bind fun x => (evE b σ x.2).bind fun y => o.ev y.2 x.1 y.1
  | .chain o o' a b c, σ, S => (evE a σ S).bind fun x => (evE b σ x.2).bind fun y => (o.ev y.2 x.1 y.1).bind fun z => (asB z).bind fun q => if q.1 = true then (evE c σ q.2).bind fun w => o'.ev w.2 y.1 w.1 else some (.bl false, q.2)
  | .neg a, σ, S => (evE a σ S).bind fun x => (asI x).map fun q => (.int (-q.1), q.2)
  | .andV a b, σ, S => (evE a σ S).bind fun x => (asB x).bind fun q => if q.1 = true then evE b σ q.2 else some (.bl false, q.2)
  | .orV a b, σ, S => (evE a σ S).bind fun x => (asB x).bind fun q => if q.1 = true then some (.bl true, q.2) else evE b σ q.2
  | .notV a, σ, S => (evE a σ S).bind fun x => (asB x).map fun q => (.bl (!q.1), q.2)
  | .ite t a b, σ, S => (evE t σ S).bind fun x => (asB x).bind fun q => if q.1 = true then evE a σ q.2 else evE b σ q.2
  | .ix a b, σ, S => (evE a σ S).bind fun x => (evE b σ x.2).bind fun y => ixD y.2 x.1 y.1
  | .sl a lo hi, σ, S => (evE a σ S).bind fun x => (evO lo σ x.2).bind fun l => (evO hi σ l.2).bind fun u => slD u.2 l.1 u.1 x.1
  | .isi ts a, σ, S => (evE a σ S).bind fun x => if ts.length ≤ 20 then (tyD x.2 x.1).map fun t => (.bl (ts.any (subT t)), x.2) else none
  | .cb b as, σ, S => (evA as σ S).bind fun x => b.ev x.2 x.1
  | .bm m o as, σ, S => (evE o σ S).bind fun x => if m.recv x.2 x.1 = true then (evA as σ x.2).bind fun y => m.ev y.2 x.1 y.1 else none
  | .kidx i a, σ, S => (evE a σ S).bind fun x => match x.1 with
    | .str z => (firstStr z (C.ks i)).map fun j => (.int (j : Nat), x.2)
    | _ => none
  | .call f as, σ, S => (evA as σ S).bind fun x => C.cf f x.2 x.1
  | .tup as, σ, S => (evA as σ S).bind fun x => if x.1.length ≤ LIM then some (.tup x.1, x.2) else none
  | .lst as, σ, S => (evA as σ S).bind fun x => if x.1.length ≤ LIM then alloc x.2 (.lst x.1) else none
  | .dnew, _, S => alloc S (.dK [])
  | .mkx c as, σ, S => (evA as σ S).bind fun x => (C.mkx c x.1).map fun r => (.exc r.1 r.2.1 r.2.2, x.2)
  | .isx j a, σ, S => (evE a σ S).bind fun x => match x.1 with
    | .exc A _ _ => (C.isx A j).map fun b => (.bl b, x.2)
    | _ => none
  | .fld a f, σ, S => (evE a σ S).bind fun x => match x.1 with
    | .exc A ns xs => if C.fo A f = true then (firstStr f ns).bind fun j => (xs[j]?).map fun d => (d, x.2) else none
    | _ => none
  | .lc src g c e, σ, S => (evI src σ S).bind fun r => (lcN r.1 g σ (fun σ1 S1 => if c.isNil = true then some (true, S1) else (evE c σ1 S1).bind asB) (fun σ1 S1 => evE e σ1 S1) LIM 0 [] r.2).bind fun q => alloc q.2 (.lst q.1)
  | _, _, _ => none
def evA : E → Sl → Store → Option (List D × Store)
  | .nil, _, S => some ([], S)
  | .cons a b, σ, S => (evE a σ S).bind fun x => (evA b σ x.2).map fun y => (x.1 :: y.1, y.2)
  | _, _, _ => none
def evO : E → Sl → Store → Option (Option Int × Store)
  | .nil, _, S => some (none, S)
  | .cons a _, σ, S => (evE a σ S).bind fun x => (asI x).map fun q => (some q.1, q.2)
  | _, _, _ => none
def evI : E → Sl → Store → Option (Src × Store)
  | .iseq a, σ, S => (evE a σ S).bind srcSeq
  | .irng1 a, σ, S => (evE a σ S).bind (srcRng 0)
  | .irng2 a b, σ, S => (evE a σ S).bind fun x => (asI x).bind fun q => (evE b σ q.2).bind (srcRng q.1)
  | .ienum a, σ, S => (evE a σ S).bind srcEnum
  | .izip a b, σ, S => (evE a σ S).bind fun x => (evE b σ x.2).bind (srcZip x.1)
  | _, _, _ => none
end
end

/-! ### the readings -/
/-- an exception that is held, of the class at C -/
def ExObj (H : Hp) (a C : Addr) : Prop := H a = some (ExO (.ref C) a) ∨ ∃ d fs, H a = some (exo a C (some d)) ∧ H d = some (exd d fs)
/-- what the class at D must say, so that isinstance asks its instances rightly -/
structure XCls (K : PySem.W.Frag) (D : Addr) : Prop where
  hg : PySem.W.findIn K (.ref D) "__getattribute__" = some (some (.builtin "BaseException.__getattribute__"))
  hk : PySem.W.findIn K (.ref D) "__getattr__" = some none
  hs : PySem.W.subIn K (.ref D) (.type "BaseException") = some true
  hd : PySem.W.hasDictIn K D = true
  ha : PySem.W.findIn K (.ref D) "__class__" = some (some (.builtin "object.__class__"))
  hn : PySem.W.specialIn K (.builtin "object.__class__") "__get__" = some (some (.builtin "getset_descriptor.__get__"))
  ht : PySem.W.takesIn K (.builtin "object.__class__") = some true
  hm : PySem.W.mroIn K D (.type "object") = some true
def rIsX (K : PySem.W.Frag) : RL := fun xs H Q => ∃ a C c u b, xs = [V.ref a, c] ∧ ExObj H a C ∧ XCls K C ∧ ClsV c u ∧ PySem.W.kitOne K (.ref C) u = some b ∧ Q (.bl b) H
def tXfld (K : PySem.W.Frag) (te : TE) (f : Str) : TE := fun σ H Q => te σ H fun x H1 => ∃ a C d fs v, x = V.ref a ∧ H1 a = some (exo a C (some d)) ∧ H1 d = some (exd d fs) ∧ XCls K C ∧ PySem.W.findIn K (.ref C) f = some none ∧ fs.lookup f = some v ∧ Q v H1
def tMkX (Z : Ds) (c : Nat) (ta : TA) : TE := fun σ H Q => ta σ H fun vs H1 => Z.mkR c vs H1 Q
def iEnumT (K : PySem.W.Frag) (ta : TA) : TI := fun σ H R => ta σ H fun vs H1 => ∃ a xs, vs = [.ref a] ∧ SqT K H1 a xs ∧ R (IteT K a) H1
def tyA : List Ty → TA
  | [] => tNil
  | t :: r => tCons (tC (.ty t.name)) (tyA r)
def isiT (K : PySem.W.Frag) (ts : List Ty) (te : TE) : TE := match ts with
  | [t] => tCB (rIsi K) (tCons te (tCons (tC (.ty t.name)) tNil))
  | _ => tCB (rIsiT K) (tCons te (tCons (tTup (tyA ts)) tNil))
def spOf (K : PySem.W.Frag) (C : Ev) (f : Nat) : Sp := fun vs H Q _ => ∃ ms S ds d S', SR K ms S H ∧ Reps K H ms ds vs ∧ C.cf f S ds = some (d, S') ∧ Post K ms H d S' Q
section
variable (K : PySem.W.Frag) (C : Ev) (Z : Ds)
mutual
def den : E → TE
  | .non => tC .non
  | .bl b => tC (.bl b)
  | .int i => tC (.int i)
  | .str s => tC (.str s)
  | .var i => tVar i
  | .g i => tC (Z.gv i)
  | .op o a b => tOp (o.den K) (den a) (den b)
  | .chain o o' a b c => tChain (o.den K) (o'.den K) (den a) (den b) (den c)
  | .neg a => tUn (rU fun i => .int (-i)) (den a)
  | .andV a b => tAndV (den a) (den b)
  | .orV a b => tOrV (den a) (den b)
  | .notV a => tNotV (den a)
  | .ite t a b => tIf (denT t) (den a) (den b)
  | .ix a b => tOp (ixDen K) (den a) (den b)
  | .sl a lo hi => tSl (slDen K) (den a) (denO lo) (denO hi)
  | .isi ts a => isiT K ts (den a)
  | .cb b as => tCB (b.den K) (denA as)
  | .bm m o as => tBM K m.ty (m.den K) (den o) (denA as)
  | .kidx i a => tBM K "tuple" (rTidx K) (tC (Z.kv i)) (tCons (den a) tNil)
  | .call f as => tCall (spOf K C f) [] E0 (denA as)
  | .tup as => tTup (denA as)
  | .lst as => tLst (denA as)
  | .dnew => tDNewK
  | .mkx c as => tMkX Z c (denA as)
  | .isx j a => tCB (rIsX K) (tCons (den a) (tCons (tC (Z.cv j)) tNil))
  | .fld a f => tXfld K (den a) f
  | .lc src g c e => tLc (denI src) (g.den K) (if c.isNil = true then tYes else denT c) (den e) g.slots
  | _ => fun _ _ _ => False
def denA : E → TA
  | .nil => tNil
  | .cons a b => tCons (den a) (denA b)
  | _ => fun _ _ _ => False
def denO : E → TO
  | .nil => tNoPart
  | .cons a _ => tPart (den a)
  | _ => fun _ _ _ => False
def denI : E → TI
  | .iseq a => fun σ H R => iList K (den a) σ H R ∨ iTup K (den a) σ H R ∨ iStr (den a) σ H R
  | .irng1 a => iRng1 (tCons (den a) tNil)
  | .irng2 a b => iRng2 (tCons (den a) (tCons (den b) tNil))
  | .ienum a => fun σ H R => iEnum K (tCons (den a) tNil) σ H R ∨ iEnumT K (tCons (den a) tNil) σ H R
  | .izip a b => iZipA K (tCons (den a) (tCons (den b) tNil))
  | _ => fun _ _ _ => False
def denT : E → TT
  | .andV a b => tAnd (denT a) (denT b)
  | .orV a b => tOr (denT a) (denT b)
  | .notV a => tNot (denT a)
  | .non => tB (tC .non)
  | .bl b => tB (tC (.bl b))
  | .int i => tB (tC (.int i))
  | .str s => tB (tC (.str s))
  | .var i => tB (tVar i)
  | .g i => tB (tC (Z.gv i))
  | .op o a b => tB (tOp (o.den K) (den a) (den b))
  | .chain o o' a b c => tB (tChain (o.den K) (o'.den K) (den a) (den b) (den c))
  | .ite t a b => tB (tIf (denT t) (den a) (den b))
  | .ix a b => tB (tOp (ixDen K) (den a) (den b))
  | .isi ts a => tB (isiT K ts (den a))
  | .cb b as => tB (tCB (b.den K) (denA as))
  | .call f as => tB (tCall (spOf K C f) [] E0 (denA as))
  | .neg a => tB (tUn (rU fun i => .int (-i)) (den a))
  | .sl a lo hi => tB (tSl (slDen K) (den a) (denO lo) (denO hi))
  | .bm m o as => tB (tBM K m.ty (m.den K) (den o) (denA as))
  | .kidx i a => tB (tBM K "tuple" (rTidx K) (tC (Z.kv i)) (tCons (den a) tNil))
  | .tup as => tB (tTup (denA as))
  | .lst as => tB (tLst (denA as))
  | .dnew => tB tDNewK
  | .mkx c as => tB (tMkX Z c (denA as))
  | .isx j a => tB (tCB (rIsX K) (tCons (den a) (tCons (tC (Z.cv j)) tNil)))
  | .fld a f => tB (tXfld K (den a) f)
  | .lc src g c e => tB (tLc (denI src) (g.den K) (if c.isNil = true then tYes else denT c) (den e) g.slots)
  | _ => fun _ _ _ => False
end
end
end IP

namespace IP
open PySem L2 RZ

structure Good (K : PySem.W.Frag) (C : Ev) (Z : Ds) : Prop where
  x : ∀ A j b, C.isx A j = some b → XCls K A ∧ ∃ u, ClsV (Z.cv j) u ∧ PySem.W.kitOne K (.ref A) u = some b
  f : ∀ A f, C.fo A f = true → XCls K A ∧ PySem.W.findIn K (.ref A) f = some none
  m : ∀ c ds A ns xs (ms : List Addr) (S : Store) (H : Hp) (vs : List V) (Q : VK), C.mkx c ds = some (A, ns, xs) → SR K ms S H → Reps K H ms ds vs → Post K ms H (.exc A ns xs) S Q → Z.mkR c vs H Q
  g : ∀ (i : Nat) (H : Hp) (ms : List Addr), Rep K H ms (C.gd i) (Z.gv i)
  k : ∀ i, C.ks i ≠ [] → ∃ a, Z.kv i = .ref a ∧ (∃ o, K.lookup a = some o ∧ o.cls = .type "tuple" ∧ o.dict = none) ∧ ∀ H, SqT K H a ((C.ks i).map V.str)
section
variable {K : PySem.W.Frag} {C : Ev} {Z : Ds}
theorem Post.after {ms ms1 : List Addr} {H H1 : Hp} {d : D} {S' : Store} {Q : VK} (p : Post K ms H d S' Q) (g : Gr ms H ms1 H1) : Post K ms1 H1 d S' Q := fun v H' ms' g' s r => p v H' ms' (g.trans g') s r
theorem asB_some {r : D × Store} {q : Bool × Store} (e : asB r = some q) : r = (.bl q.1, q.2) := by
  obtain ⟨d, S⟩ := r
  unfold asB at e
  dsimp only at e
  split at e
  · cases e
    subst_vars
    rfl
  · cases e
theorem asI_some {r : D × Store} {q : Int × Store} (e : asI r = some q) : r = (.int q.1, q.2) := by
  obtain ⟨d, S⟩ := r
  unfold asI at e
  dsimp only at e
  split at e
  · cases e
    subst_vars
    rfl
  · cases e
theorem rep_bl {H : Hp} {ms : List Addr} {b : Bool} {v : V} (r : Rep K H ms (.bl b) v) : v = .bl b := by cases r; rfl
theorem rep_int {H : Hp} {ms : List Addr} {b : Int} {v : V} (r : Rep K H ms (.int b) v) : v = .int b := by cases r; rfl
theorem rep_str {H : Hp} {ms : List Addr} {b : Str} {v : V} (r : Rep K H ms (.str b) v) : v = .str b := by cases r; rfl

/-! a list beside the store is changed -/
theorem tup_beside {H : Hp} {A : Addr} {av : List V} {o : HO} (eA : H A = some (.lst av)) {a : Addr} {xs : List V} (z : SqT K H a xs) : SqT K (upd H A o) a xs := by
  rcases z with (z | ⟨u, z⟩) | z
  · exact .inl (.inl (by rw [upd_ne (fun q => by rw [q, eA] at z; cases z)]; exact z))
  · exact .inl (.inr ⟨u, by rw [upd_ne (fun q => by rw [q, eA] at z; cases z)]; exact z⟩)
  · exact .inr z
theorem rol_beside {H : Hp} {ms : List Addr} {A : Addr} {av : List V} {o : HO} (eA : H A = some (.lst av)) {a : Addr} {xs : List V} (z : RoL K H ms a xs) : RoL K (upd H A o) ms a xs := by
  rcases z with ⟨u, z⟩ | z
  · exact .inl ⟨u, by rw [upd_ne (fun q => by rw [q, eA] at z; cases z)]; exact z⟩
  · exact .inr z
theorem ext_beside {H : Hp} {A : Addr} {av : List V} {o : HO} (eA : H A = some (.lst av)) {a : Addr} {φ : Heap → Prop} (z : H a = some (.ext φ)) : upd H A o a = some (.ext φ) := by
  rw [upd_ne (fun q => by rw [q, eA] at z; cases z)]
  exact z
mutual
theorem rep_beside {H : Hp} {ms : List Addr} {A : Addr} {av : List V} {o : HO} (eA : H A = some (.lst av)) : ∀ {d : D} {v : V}, Rep K H ms d v → Rep K (upd H A o) ms d v
  | _, _, .non => .non
  | _, _, .bl b => .bl b
  | _, _, .int i => .int i
  | _, _, .str s => .str s
  | _, _, .tup h r => .tup (tup_beside eA h) (reps_beside eA r)
  | _, _, .loc h => .loc h
  | _, _, .rol h r => .rol (rol_beside eA h) (reps_beside eA r)
  | _, _, .cls v => .cls v
  | _, _, .exc h hd r => .exc (ext_beside eA h) (ext_beside eA hd) (reps_beside eA r)
  | _, _, .exc0 h => .exc0 (ext_beside eA h)
theorem reps_beside {H : Hp} {ms : List Addr} {A : Addr} {av : List V} {o : HO} (eA : H A = some (.lst av)) : ∀ {ds : List D} {vs : List V}, Reps K H ms ds vs → Reps K (upd H A o) ms ds vs
  | _, _, .nil => .nil
  | _, _, .cons h t => .cons (rep_beside eA h) (reps_beside eA t)
end
theorem ro_beside {H : Hp} {ms : List Addr} {A : Addr} {av : List V} {o : HO} (eA : H A = some (.lst av)) {ob : O} {u : HO} (r : RO K H ms ob u) : RO K (upd H A o) ms ob u := by
  cases ob with
  | lst ds => obtain ⟨vs, rfl, r⟩ := r; exact ⟨vs, rfl, reps_beside eA r⟩
  | dK ds => obtain ⟨vs, rfl, r⟩ := r; exact ⟨vs, rfl, Paired.mapP r fun _ _ z => ⟨z.1, rep_beside eA z.2⟩⟩
  | dT ds => obtain ⟨vs, rfl, r⟩ := r; exact ⟨vs, rfl, Paired.mapP r fun _ _ z => ⟨z.1, rep_beside eA z.2⟩⟩
theorem sr_beside {H : Hp} {ms : List Addr} {S : Store} {A : Addr} {av : List V} {o : HO} (eA : H A = some (.lst av)) (nA : A ∉ ms) (h : SR K ms S H) : SR K ms S (upd H A o) :=
  ⟨h.len, h.nd, fun n a ob e1 e2 => by
    obtain ⟨w, hw, r⟩ := h.ob n a ob e1 e2
    exact ⟨w, by rw [upd_ne (fun z => nA (by rw [← z]; exact List.mem_of_getElem? e1))]; exact hw, ro_beside eA r⟩⟩
theorem src_beside {H : Hp} {ms : List Addr} {src : Src} {J : It} {A : Addr} {av : List V} {o : HO} (eA : H A = some (.lst av)) (h : SrcRel K ms H src J) : SrcRel K ms (upd H A o) src J := by
  cases h with
  | rng lo n => exact .rng lo n
  | tup h r => exact .tup (tup_beside eA h) (reps_beside eA r)
  | rol h r => exact .rol (rol_beside eA h) (reps_beside eA r)
  | str z => exact .str z
  | lst h => exact .lst h
  | enumL h => exact .enumL h
  | enumR h r => exact .enumR (rol_beside eA h) (reps_beside eA r)
  | enumT h r => exact .enumT (tup_beside eA h) (reps_beside eA r)
  | zipL h h' => exact .zipL h h'
  | zipT h r h' r' => exact .zipT (tup_beside eA h) (reps_beside eA r) (tup_beside eA h') (reps_beside eA r')
theorem rst_beside {H : Hp} {ms : List Addr} {σd : Sl} {σ : L2.St} {A : Addr} {av : List V} {o : HO} (eA : H A = some (.lst av)) (h : RSt K H ms σd σ) : RSt K (upd H A o) ms σd σ :=
  ⟨h.len, fun i d e => by
    obtain ⟨v, h1, h2⟩ := h.ob i d e
    exact ⟨v, h1, rep_beside eA h2⟩⟩

/-- the turns of a comprehension -/
theorem lc_turns {src : Src} {g : Tg} {σd : Sl} {σ : L2.St} {fc : Sl → Store → Option (Bool × Store)} {fe : Sl → Store → Option (D × Store)} {J : It} {tt : TT} {te : TE} {ms1 : List Addr} {S1 : Store} {H1 : Hp} {q : List D × Store} {Q : VK}
    (hc : ∀ {σd1 σ1 S H ms b S'} {Q : Bool → Hp → Prop}, SR K ms S H → RSt K H ms σd1 σ1 → fc σd1 S = some (b, S') → (∀ H' ms', Gr ms H ms' H' → SR K ms' S' H' → Q b H') → tt σ1 H Q)
    (he : ∀ {σd1 σ1 S H ms d S'} {Q : VK}, SR K ms S H → RSt K H ms σd1 σ1 → fe σd1 S = some (d, S') → Post K ms H d S' Q → te σ1 H Q)
    (h : SR K ms1 S1 H1) (r : RSt K H1 ms1 σd σ) (hs : SrcRel K ms1 H1 src J) (e : lcN src g σd fc fe LIM 0 [] S1 = some q) (p : Post K ms1 H1 (.loc q.2.length) (q.2 ++ [.lst q.1]) Q) (A : Addr) (hA : H1 A = none) :
    ∃ W : Nat → Nat → Hp → Prop, (∃ m, W 0 m (upd H1 A (.lst []))) ∧ ∀ i m H, W i m H →
      (J.stop i H ∧ Q (.ref A) H) ∨ (J.go i H ∧ ∃ Nx : Hp → Prop, (∀ H', Nx H' → ∃ m', m' < m ∧ W (i + 1) m' H') ∧ ∀ x H', J.yld i H x H' → g.den K x (L2.wipe σ g.slots) H' fun σ2 H2 => L2.wipe σ2 g.slots = L2.wipe σ g.slots ∧ tt σ2 H2 fun b H3 =>
        if b = true then te σ2 H3 fun y H4 => ∃ acc, H4 A = some (.lst acc) ∧ acc.length < sizeLine ∧ Nx (upd H4 A (.lst (acc ++ [y]))) else Nx H3) := by
  refine ⟨fun i m H => ∃ ms2 S2 acc av, Gr ms1 H1 ms2 H ∧ SR K ms2 S2 H ∧ RSt K H ms2 σd σ ∧ SrcRel K ms2 H src J ∧ A ∉ ms2 ∧ H A = some (.lst av) ∧ Reps K H ms2 acc av ∧ acc.length + m ≤ LIM ∧ lcN src g σd fc fe m i acc S2 = some q,
    ⟨LIM, ms1, S1, [], [], Gr.new hA, h.new hA, r.mono h.muts (Gr.new hA), hs.mono h.muts (Gr.new hA), h.fresh hA, upd_same, .nil, by simp, e⟩, ?_⟩
  rintro i m H ⟨ms2, S2, acc, av, gr, sr, rs, sl, nA, eA, ra, hl, el⟩
  cases m with
  | zero => simp [lcN] at el
  | succ m =>
    unfold lcN at el
    split at el
    · cases el
    · rename_i hs0
      cases el
      refine .inl ⟨src_stop sr sl hs0, p (.ref A) H (ms2 ++ [A]) ⟨?_, gr.keep⟩ (sr.adopt eA nA ⟨av, rfl, ra⟩) (.loc (by rw [← sr.len]; simp))⟩
      obtain ⟨t, et, ht⟩ := gr.pre
      refine ⟨t ++ [A], by rw [et, List.append_assoc], fun a ha => ?_⟩
      rcases List.mem_append.mp ha with z | z
      · exact ht a z
      · rw [List.mem_singleton] at z
        subst z
        exact ⟨h.fresh hA, hA⟩
    · rename_i d hs0
      obtain ⟨go, yl⟩ := src_turn sr sl hs0
      obtain ⟨σ1, e1, e2⟩ := Option.bind_eq_some_iff.mp el
      obtain ⟨b, e3, e4⟩ := Option.bind_eq_some_iff.mp e2
      obtain ⟨b, S3⟩ := b
      refine .inr ⟨go, fun H' => ∃ ms3 S3 acc3 av3, Gr ms1 H1 ms3 H' ∧ SR K ms3 S3 H' ∧ RSt K H' ms3 σd σ ∧ SrcRel K ms3 H' src J ∧ A ∉ ms3 ∧ H' A = some (.lst av3) ∧ Reps K H' ms3 acc3 av3 ∧ acc3.length + m ≤ LIM ∧ lcN src g σd fc fe m (i + 1) acc3 S3 = some q,
        fun H' w => ⟨m, Nat.lt_succ_self m, w⟩, fun x H' y => ?_⟩
      obtain ⟨g1, s1, r1⟩ := yl x H' y
      have rs1 := rs.mono sr.muts g1
      refine tg_wipe g (rs1.wipe g.slots) r1 e1 fun σ' r' ew => ⟨ew, ?_⟩
      refine hc s1 r' e3 fun H3 ms3 g3 s3 => ?_
      have g13 := g1.trans g3
      have nA3 : A ∉ ms3 := g13.out nA eA
      have eA3 : H3 A = some (.lst av) := g13.keep A _ nA eA
      cases b with
      | false =>
        rw [if_neg Bool.false_ne_true]
        simp only [Bool.false_eq_true, if_false] at e4
        exact ⟨ms3, S3, acc, av, gr.trans g13, s3, rs.mono sr.muts g13, sl.mono sr.muts g13, nA3, eA3, ra.mono sr.muts g13, by omega, e4⟩
      | true =>
        rw [if_pos rfl]
        simp only [if_true] at e4
        obtain ⟨y4, e5, e6⟩ := Option.bind_eq_some_iff.mp e4
        obtain ⟨y4, S4⟩ := y4
        refine he s3 (r'.mono s1.muts g3) e5 fun v H4 ms4 g4 s4 r4 => ?_
        have g14 := g13.trans g4
        have nA4 : A ∉ ms4 := g14.out nA eA
        have eA4 : H4 A = some (.lst av) := g14.keep A _ nA eA
        have hav : av.length < LIM := by rw [← ra.length]; omega
        refine ⟨av, eA4, lim_lt hav, ?_⟩
        refine ⟨ms4, S4, acc ++ [y4], av ++ [v], ⟨(gr.trans g14).pre, fun a o ha z => ?_⟩, sr_beside eA4 nA4 s4, rst_beside eA4 (rs.mono sr.muts g14), src_beside eA4 (sl.mono sr.muts g14), nA4, upd_same, reps_beside eA4 ((ra.mono sr.muts g14).append (.cons r4 .nil)), by simp; omega, e6⟩
        rw [upd_ne (ne_of_none z hA)]
        exact (gr.trans g14).keep a o ha z
end
end IP

namespace IP
open PySem L2 RZ
section
variable {K : PySem.W.Frag} {C : Ev} {Z : Ds}
def PostA (K : PySem.W.Frag) (ms : List Addr) (H : Hp) (ds : List D) (S' : Store) (Q : List V → Hp → Prop) : Prop := ∀ vs H' ms', Gr ms H ms' H' → SR K ms' S' H' → Reps K H' ms' ds vs → Q vs H'
def PostT (K : PySem.W.Frag) (ms : List Addr) (H : Hp) (b : Bool) (S' : Store) (Q : Bool → Hp → Prop) : Prop := ∀ H' ms', Gr ms H ms' H' → SR K ms' S' H' → Q b H'
def PostO (K : PySem.W.Frag) (ms : List Addr) (H : Hp) (o : Option Int) (S' : Store) (Q : Option Int → Hp → Prop) : Prop := ∀ H' ms', Gr ms H ms' H' → SR K ms' S' H' → Q o H'
def PostI (K : PySem.W.Frag) (ms : List Addr) (H : Hp) (s : Src) (S' : Store) (R : It → Hp → Prop) : Prop := ∀ J H' ms', Gr ms H ms' H' → SR K ms' S' H' → SrcRel K ms' H' s J → R J H'
/-- a test that is a value -/
theorem tB_of {te : TE} {ms : List Addr} {H : Hp} {b : Bool} {S' : Store} {σ : L2.St} {Q : Bool → Hp → Prop} (p : PostT K ms H b S' Q) (h : ∀ {Q : VK}, Post K ms H (.bl b) S' Q → te σ H Q) : tB te σ H Q :=
  h fun v H' ms' g s r => ⟨b, rep_bl r, p H' ms' g s⟩
theorem kit_any (t : Tn) : ∀ ts : List Ty, PySem.W.kitAny K (.type t.name) (ts.map fun t => Value.type t.name) = some (ts.any (subT t))
  | [] => kitAny_nil
  | a :: ts => by
    have h1 := kit_ty (K := K) (kit_T t a)
    rw [List.map_cons, List.any_cons]
    refine kitAny_cons h1 (fun hb => ?_) (fun hb => by rw [hb, Bool.true_or])
    rw [hb, Bool.false_or]
    exact kit_any t ts
theorem tyA_run {ts : List Ty} {σ : L2.St} {H : Hp} {Q : List V → Hp → Prop} (h : Q (ts.map fun t => V.ty t.name) H) : tyA ts σ H Q := by
  induction ts generalizing Q with
  | nil => exact h
  | cons a ts ih => exact ih (Q := fun xs H2 => Q (.ty a.name :: xs) H2) h
theorem clsV_of : ∀ ts : List Ty, Paired ClsV (ts.map fun t => V.ty t.name) (ts.map fun t => Value.type t.name)
  | [] => .nil
  | t :: ts => .cons (.ty _) (clsV_of ts)
theorem isi_den {ts : List Ty} {t : Tn} {te : TE} {σ : L2.St} {x : D × Store} {ms : List Addr} {H : Hp} {Q : VK} (ih : ∀ {Q : VK}, Post K ms H x.1 x.2 Q → te σ H Q) (hl : ts.length ≤ 20) (e : tyD x.2 x.1 = some t)
    (p : Post K ms H (.bl (ts.any (subT t))) x.2 Q) : isiT K ts te σ H Q := by
  have many : tCB (rIsiT K) (tCons te (tCons (tTup (tyA ts)) tNil)) σ H Q := ih fun v H1 ms1 g1 s1 r1 => by
    refine tyA_run (ts := ts) ⟨?_, fun q hq => ?_⟩
    · rw [List.length_map]
      exact lim_size (Nat.le_trans hl (by decide))
    · have s2 := s1.new (u := HO.tup (ts.map fun t => V.ty t.name)) hq
      have r2 := r1.mono s1.muts (Gr.new (o := HO.tup (ts.map fun t => V.ty t.name)) hq)
      refine ⟨v, q, _, .type t.name, _, _, rfl, upd_same, clsV_of ts, tyD_ok s2 r2 e, kit_any t ts, ?_⟩
      exact p _ _ ms1 (g1.trans (Gr.new hq)) s2 (.bl _)
  unfold isiT
  split
  · rename_i t0
    refine ih fun v H1 ms1 g1 s1 r1 => ?_
    refine ⟨v, .ty t0.name, .type t.name, .type t0.name, subT t t0, rfl, .ty _, tyD_ok s1 r1 e, kit_ty (kit_T t t0), ?_⟩
    have q := p _ _ ms1 g1 s1 (.bl _)
    simpa using q
  · exact many

theorem zip_lookup {f : Str} : ∀ {ns : List Str} {vs : List V} {j : Nat} {v : V}, ns[j]? = some f → (∀ m, m < j → ns[m]? ≠ some f) → vs[j]? = some v → (ns.zip vs).lookup f = some v
  | [], _, _, _, e, _, _ => by simp at e
  | _ :: _, [], _, _, _, _, e => by simp at e
  | n :: ns, w :: vs, 0, v, e, _, e2 => by
    simp at e e2
    subst e e2
    simp [List.lookup]
  | n :: ns, w :: vs, j + 1, v, e, h, e2 => by
    have hn : (f == n) = false := by
      have := h 0 (by omega)
      simp at this
      exact beq_eq_false_iff_ne.mpr (fun z => this z.symm)
    rw [List.zip_cons_cons, List.lookup, hn]
    exact zip_lookup (by simpa using e) (fun m hm z => h (m + 1) (by omega) (by simpa using z)) (by simpa using e2)
mutual
theorem evE_ok (G : Good K C Z) : ∀ (e : E) {σd : Sl} {σ : L2.St} {S : Store} {H : Hp} {ms : List Addr} {d : D} {S' : Store} {Q : VK}, SR K ms S H → RSt K H ms σd σ → evE C e σd S = some (d, S') → Post K ms H d S' Q → den K C Z e σ H Q
  | .non, σd, σ, S, H, ms, d, S', Q, h, r, e, p => by
    simp only [evE] at e; cases e
    exact p.here h .non
  | .bl b, σd, σ, S, H, ms, d, S', Q, h, r, e, p => by
    simp only [evE] at e; cases e
    exact p.here h (.bl b)
  | .int b, σd, σ, S, H, ms, d, S', Q, h, r, e, p => by
    simp only [evE] at e; cases e
    exact p.here h (.int b)
  | .str b, σd, σ, S, H, ms, d, S', Q, h, r, e, p => by
    simp only [evE] at e; cases e
    exact p.here h (.str b)
  | .var i, σd, σ, S, H, ms, d, S', Q, h, r, e, p => by
    simp only [evE] at e
    split at e
    · cases e
      obtain ⟨v, h1, h2⟩ := r.ob i d (by assumption)
      exact ⟨v, h1, p.here h h2⟩
    · cases e
  | .g i, σd, σ, S, H, ms, d, S', Q, h, r, e, p => by
    simp only [evE] at e; cases e
    exact p.here h (G.g i H ms)
  | .op o a b, σd, σ, S, H, ms, d, S', Q, h, r, e, p => by
    simp only [evE] at e
    replace e := Option.bind_eq_some_iff.mp e
    obtain ⟨x, e1, e⟩ := e
    replace e := Option.bind_eq_some_iff.mp e
    obtain ⟨y, e2, e⟩ := e
    exact evE_ok G a h r e1 fun v1 H1 ms1 g1 s1 r1 => evE_ok G b s1 (r.mono h.muts g1) e2 fun v2 H2 ms2 g2 s2 r2 =>
      op_ok o s2 (r1.mono s1.muts g2) r2 e (p.after (g1.trans g2))
  | .chain o o' a b c, σd, σ, S, H, ms, d, S', Q, h, r, e, p => by
    simp only [evE] at e
    replace e := Option.bind_eq_some_iff.mp e
    obtain ⟨x, e1, e⟩ := e
    replace e := Option.bind_eq_some_iff.mp e
    obtain ⟨y, e2, e⟩ := e
    replace e := Option.bind_eq_some_iff.mp e
    obtain ⟨z, e3, e⟩ := e
    replace e := Option.bind_eq_some_iff.mp e
    obtain ⟨q, e4, e⟩ := e
    have ez := asB_some e4
    subst ez
    refine evE_ok G a h r e1 fun v1 H1 ms1 g1 s1 r1 => evE_ok G b s1 (r.mono h.muts g1) e2 fun v2 H2 ms2 g2 s2 r2 => ?_
    refine op_ok o s2 (r1.mono s1.muts g2) r2 e3 fun v3 H3 ms3 g3 s3 r3 => ⟨q.1, rep_bl r3, ?_⟩
    have g123 := (g1.trans g2).trans g3
    split at e
    · rename_i hq
      obtain ⟨w, e5, e6⟩ := Option.bind_eq_some_iff.mp e
      rw [if_pos hq]
      exact evE_ok G c s3 (r.mono h.muts g123) e5 fun v4 H4 ms4 g4 s4 r4 => op_ok o' s4 (r2.mono s2.muts (g3.trans g4)) r4 e6 (p.after (g123.trans g4))
    · rename_i hq
      cases e
      rw [if_neg hq]
      exact p _ _ ms3 g123 s3 (.bl false)
  | .neg a, σd, σ, S, H, ms, d, S', Q, h, r, e, p => by
    simp only [evE] at e
    replace e := Option.bind_eq_some_iff.mp e
    obtain ⟨x, e1, e⟩ := e
    replace e := Option.map_eq_some_iff.mp e
    obtain ⟨q, e2, e⟩ := e
    have ez := asI_some e2
    subst ez
    cases e
    exact evE_ok G a h r e1 fun v1 H1 ms1 g1 s1 r1 => ⟨q.1, rep_int r1, p _ _ ms1 g1 s1 (.int _)⟩
  | .andV a b, σd, σ, S, H, ms, d, S', Q, h, r, e, p => by
    simp only [evE] at e
    replace e := Option.bind_eq_some_iff.mp e
    obtain ⟨x, e1, e⟩ := e
    replace e := Option.bind_eq_some_iff.mp e
    obtain ⟨q, e2, e⟩ := e
    have ez := asB_some e2
    subst ez
    refine evE_ok G a h r e1 fun v1 H1 ms1 g1 s1 r1 => ⟨q.1, rep_bl r1, ?_⟩
    split at e
    · rename_i hq
      rw [if_pos hq]
      exact evE_ok G b s1 (r.mono h.muts g1) e (p.after g1)
    · rename_i hq
      cases e
      rw [if_neg hq]
      exact p _ _ ms1 g1 s1 (.bl false)
  | .orV a b, σd, σ, S, H, ms, d, S', Q, h, r, e, p => by
    simp only [evE] at e
    replace e := Option.bind_eq_some_iff.mp e
    obtain ⟨x, e1, e⟩ := e
    replace e := Option.bind_eq_some_iff.mp e
    obtain ⟨q, e2, e⟩ := e
    have ez := asB_some e2
    subst ez
    refine evE_ok G a h r e1 fun v1 H1 ms1 g1 s1 r1 => ⟨q.1, rep_bl r1, ?_⟩
    split at e
    · rename_i hq
      cases e
      rw [if_pos hq]
      exact p _ _ ms1 g1 s1 (.bl true)
    · rename_i hq
      rw [if_neg hq]
      exact evE_ok G b s1 (r.mono h.muts g1) e (p.after g1)
  | .notV a, σd, σ, S, H, ms, d, S', Q, h, r, e, p => by
    simp only [evE] at e
    replace e := Option.bind_eq_some_iff.mp e
    obtain ⟨x, e1, e⟩ := e
    replace e := Option.map_eq_some_iff.mp e
    obtain ⟨q, e2, e⟩ := e
    have ez := asB_some e2
    subst ez
    cases e
    exact evE_ok G a h r e1 fun v1 H1 ms1 g1 s1 r1 => ⟨q.1, rep_bl r1, p _ _ ms1 g1 s1 (.bl _)⟩
  | .ite t a b, σd, σ, S, H, ms, d, S', Q, h, r, e, p => by
    simp only [evE] at e
    replace e := Option.bind_eq_some_iff.mp e
    obtain ⟨x, e1, e⟩ := e
    replace e := Option.bind_eq_some_iff.mp e
    obtain ⟨q, e2, e⟩ := e
    have ez := asB_some e2
    subst ez
    refine evT_ok G t h r e1 fun H1 ms1 g1 s1 => ?_
    split at e
    · rename_i hq
      rw [if_pos hq]
      exact evE_ok G a s1 (r.mono h.muts g1) e (p.after g1)
    · rename_i hq
      rw [if_neg hq]
      exact evE_ok G b s1 (r.mono h.muts g1) e (p.after g1)
  | .ix a b, σd, σ, S, H, ms, d, S', Q, h, r, e, p => by
    simp only [evE] at e
    replace e := Option.bind_eq_some_iff.mp e
    obtain ⟨x, e1, e⟩ := e
    replace e := Option.bind_eq_some_iff.mp e
    obtain ⟨y, e2, e⟩ := e
    exact evE_ok G a h r e1 fun v1 H1 ms1 g1 s1 r1 => evE_ok G b s1 (r.mono h.muts g1) e2 fun v2 H2 ms2 g2 s2 r2 =>
      ixD_ok s2 (r1.mono s1.muts g2) r2 e (p.after (g1.trans g2))
  | .sl a lo hi, σd, σ, S, H, ms, d, S', Q, h, r, e, p => by
    simp only [evE] at e
    replace e := Option.bind_eq_some_iff.mp e
    obtain ⟨x, e1, e⟩ := e
    replace e := Option.bind_eq_some_iff.mp e
    obtain ⟨l, e2, e⟩ := e
    replace e := Option.bind_eq_some_iff.mp e
    obtain ⟨u, e3, e⟩ := e
    exact evE_ok G a h r e1 fun v1 H1 ms1 g1 s1 r1 => evO_ok G lo s1 (r.mono h.muts g1) e2 fun H2 ms2 g2 s2 => evO_ok G hi s2 (r.mono h.muts (g1.trans g2)) e3 fun H3 ms3 g3 s3 =>
      slD_ok s3 (r1.mono s1.muts (g2.trans g3)) e (p.after ((g1.trans g2).trans g3))
  | .isi ts a, σd, σ, S, H, ms, d, S', Q, h, r, e, p => by
    simp only [evE] at e
    replace e := Option.bind_eq_some_iff.mp e
    obtain ⟨x, e1, e⟩ := e
    split at e
    · rename_i hl
      replace e := Option.map_eq_some_iff.mp e
      obtain ⟨t, e2, e⟩ := e
      cases e
      have q := isi_den (K := K) (te := den K C Z a) (σ := σ) (x := x) (ms := ms) (H := H) (Q := Q) (fun {Q} p' => evE_ok G a h r e1 p') hl e2 p
      simpa only [den] using q
    · cases e
  | .cb b as, σd, σ, S, H, ms, d, S', Q, h, r, e, p => by
    simp only [evE] at e
    replace e := Option.bind_eq_some_iff.mp e
    obtain ⟨x, e1, e⟩ := e
    exact evA_ok G as h r e1 fun vs H1 ms1 g1 s1 r1 => bi_ok b s1 r1 e (p.after g1)
  | .bm m o as, σd, σ, S, H, ms, d, S', Q, h, r, e, p => by
    simp only [evE] at e
    replace e := Option.bind_eq_some_iff.mp e
    obtain ⟨x, e1, e⟩ := e
    split at e
    · rename_i hr
      replace e := Option.bind_eq_some_iff.mp e
      obtain ⟨y, e2, e⟩ := e
      exact evE_ok G o h r e1 fun v1 H1 ms1 g1 s1 r1 => ⟨mt_ty m s1 r1 hr, evA_ok G as s1 (r.mono h.muts g1) e2 fun vs H2 ms2 g2 s2 r2 => mt_ok m s2 (r1.mono s1.muts g2) r2 e (p.after (g1.trans g2))⟩
    · cases e
  | .kidx i a, σd, σ, S, H, ms, d, S', Q, h, r, e, p => by
    simp only [evE] at e
    replace e := Option.bind_eq_some_iff.mp e
    obtain ⟨x, e1, e⟩ := e
    split at e
    · rename_i z ez
      replace e := Option.map_eq_some_iff.mp e
      obtain ⟨j, e2, e⟩ := e
      cases e
      obtain ⟨h1, h2⟩ := firstStr_get e2
      obtain ⟨a0, ea, ho, hq⟩ := G.k i (fun q => by rw [q] at e2; simp [firstStr] at e2)
      refine ⟨?_, evE_ok G a h r e1 fun v1 H1 ms1 g1 s1 r1 => ?_⟩
      · rw [ea]
        exact .inr (.inl ⟨rfl, ho⟩)
      · rw [ez] at r1
        rw [rep_str r1]
        exact ⟨a0, C.ks i, z, j, ea, rfl, hq H1, h1, h2, p _ _ ms1 g1 s1 (.int _)⟩
    · cases e
  | .call f as, σd, σ, S, H, ms, d, S', Q, h, r, e, p => by
    simp only [evE] at e
    replace e := Option.bind_eq_some_iff.mp e
    obtain ⟨x, e1, e⟩ := e
    exact evA_ok G as h r e1 fun vs H1 ms1 g1 s1 r1 => ⟨ms1, x.2, x.1, d, S', s1, by simpa using r1, e, p.after g1⟩
  | .tup as, σd, σ, S, H, ms, d, S', Q, h, r, e, p => by
    simp only [evE] at e
    replace e := Option.bind_eq_some_iff.mp e
    obtain ⟨x, e1, e⟩ := e
    split at e
    · rename_i hl
      cases e
      exact evA_ok G as h r e1 fun vs H1 ms1 g1 s1 r1 => ⟨lim_size (by rw [← r1.length]; exact hl), fun q hq => (p.after g1).tup s1 r1 hq⟩
    · cases e
  | .lst as, σd, σ, S, H, ms, d, S', Q, h, r, e, p => by
    simp only [evE] at e
    replace e := Option.bind_eq_some_iff.mp e
    obtain ⟨x, e1, e⟩ := e
    split at e
    · rename_i hl
      unfold alloc at e
      cases e
      exact evA_ok G as h r e1 fun vs H1 ms1 g1 s1 r1 => ⟨lim_size (by rw [← r1.length]; exact hl), fun q hq => (p.after g1).obj s1 ⟨_, rfl, r1⟩ hq⟩
    · cases e
  | .dnew, σd, σ, S, H, ms, d, S', Q, h, r, e, p => by
    simp only [evE, alloc] at e
    cases e
    exact fun q hq => p.obj h ⟨_, rfl, .nil⟩ hq
  | .mkx c as, σd, σ, S, H, ms, d, S', Q, h, r, e, p => by
    simp only [evE] at e
    replace e := Option.bind_eq_some_iff.mp e
    obtain ⟨x, e1, e⟩ := e
    obtain ⟨q, e2, e⟩ := Option.map_eq_some_iff.mp e
    cases e
    obtain ⟨A, ns, xs⟩ := q
    exact evA_ok G as h r e1 fun vs H1 ms1 g1 s1 r1 => G.m c x.1 A ns xs ms1 x.2 H1 vs Q e2 s1 r1 (p.after g1)
  | .isx j a, σd, σ, S, H, ms, d, S', Q, h, r, e, p => by
    simp only [evE] at e
    replace e := Option.bind_eq_some_iff.mp e
    obtain ⟨x, e1, e⟩ := e
    split at e
    · rename_i A ns xs ex
      obtain ⟨b, e2, e⟩ := Option.map_eq_some_iff.mp e
      cases e
      refine evE_ok G a h r e1 fun v1 H1 ms1 g1 s1 r1 => ?_
      rw [ex] at r1
      obtain ⟨xc, u, hu, hk⟩ := G.x A j b e2
      have q := p _ _ ms1 g1 s1 (.bl b)
      cases r1 with
      | exc h1 h2 _ => exact ⟨_, A, Z.cv j, u, b, rfl, .inr ⟨_, _, h1, h2⟩, xc, hu, hk, q⟩
      | exc0 h1 => exact ⟨_, A, Z.cv j, u, b, rfl, .inl h1, xc, hu, hk, q⟩
    · cases e
  | .fld a f, σd, σ, S, H, ms, d, S', Q, h, r, e, p => by
    simp only [evE] at e
    replace e := Option.bind_eq_some_iff.mp e
    obtain ⟨x, e1, e⟩ := e
    split at e
    · rename_i A ns xs ex
      split at e
      · rename_i hf
        replace e := Option.bind_eq_some_iff.mp e
        obtain ⟨j, e2, e⟩ := e
        obtain ⟨d', e3, e⟩ := Option.map_eq_some_iff.mp e
        cases e
        refine evE_ok G a h r e1 fun v1 H1 ms1 g1 s1 r1 => ?_
        rw [ex] at r1
        obtain ⟨xc, hn⟩ := G.f A f hf
        obtain ⟨q1, q2⟩ := firstStr_get e2
        cases r1 with
        | exc h1 h2 rr =>
          obtain ⟨v, h3, h4⟩ := rr.get e3
          exact ⟨_, A, _, _, v, rfl, h1, h2, xc, hn, zip_lookup q1 q2 h3, p _ _ ms1 g1 s1 h4⟩
        | exc0 h1 => simp at e3
      · cases e
    · cases e
  | .lc src g c el, σd, σ, S, H, ms, d, S', Q, h, r, e, p => by
    simp only [evE] at e
    replace e := Option.bind_eq_some_iff.mp e
    obtain ⟨x, e1, e⟩ := e
    replace e := Option.bind_eq_some_iff.mp e
    obtain ⟨q, e2, e⟩ := e
    unfold alloc at e
    cases e
    refine evI_ok G src h r e1 fun J H1 ms1 g1 s1 sl => fun A hA => ?_
    refine lc_turns (fc := _) (fe := _) (fun {σd1 σ1 S H ms b S' Q} h r e p => ?_) (fun {σd1 σ1 S H ms d S' Q} h r e p => evE_ok G el h r e p) s1 (r.mono h.muts g1) sl e2 (p.after g1) A hA
    by_cases hn : c.isNil = true
    · rw [if_pos hn]
      simp only [hn, if_true] at e
      cases e
      exact p _ ms (Gr.refl _ _) h
    · rw [if_neg hn]
      rw [if_neg hn] at e
      replace e := Option.bind_eq_some_iff.mp e
      obtain ⟨a1, e1, e2⟩ := e
      have ez := asB_some e2
      subst ez
      exact evT_ok G c h r e1 p
  | .iseq a, σd, σ, S, H, ms, d, S', Q, h, r, e, p => by simp only [evE] at e; cases e
  | .irng1 a, σd, σ, S, H, ms, d, S', Q, h, r, e, p => by simp only [evE] at e; cases e
  | .irng2 a b, σd, σ, S, H, ms, d, S', Q, h, r, e, p => by simp only [evE] at e; cases e
  | .ienum a, σd, σ, S, H, ms, d, S', Q, h, r, e, p => by simp only [evE] at e; cases e
  | .izip a b, σd, σ, S, H, ms, d, S', Q, h, r, e, p => by simp only [evE] at e; cases e
  | .nil, σd, σ, S, H, ms, d, S', Q, h, r, e, p => by simp only [evE] at e; cases e
  | .cons a b, σd, σ, S, H, ms, d, S', Q, h, r, e, p => by simp only [evE] at e; cases e
theorem evA_ok (G : Good K C Z) : ∀ (e : E) {σd : Sl} {σ : L2.St} {S : Store} {H : Hp} {ms : List Addr} {ds : List D} {S' : Store} {Q : List V → Hp → Prop}, SR K ms S H → RSt K H ms σd σ → evA C e σd S = some (ds, S') → PostA K ms H ds S' Q → denA K C Z e σ H Q
  | .nil, σd, σ, S, H, ms, d, S', Q, h, r, e, p => by
    simp only [evA] at e
    cases e
    exact p _ _ ms (Gr.refl _ _) h .nil
  | .cons a b, σd, σ, S, H, ms, d, S', Q, h, r, e, p => by
    simp only [evA] at e
    replace e := Option.bind_eq_some_iff.mp e
    obtain ⟨x, e1, e⟩ := e
    replace e := Option.map_eq_some_iff.mp e
    obtain ⟨y, e2, e⟩ := e
    cases e
    exact evE_ok G a h r e1 fun v1 H1 ms1 g1 s1 r1 => evA_ok G b s1 (r.mono h.muts g1) e2 fun vs H2 ms2 g2 s2 r2 => p _ _ ms2 (g1.trans g2) s2 (.cons (r1.mono s1.muts g2) r2)
  | .non, _, _, _, _, _, _, _, _, h, r, e, p => by simp only [evA] at e; cases e
  | .bl _, _, _, _, _, _, _, _, _, h, r, e, p => by simp only [evA] at e; cases e
  | .int _, _, _, _, _, _, _, _, _, h, r, e, p => by simp only [evA] at e; cases e
  | .str _, _, _, _, _, _, _, _, _, h, r, e, p => by simp only [evA] at e; cases e
  | .var _, _, _, _, _, _, _, _, _, h, r, e, p => by simp only [evA] at e; cases e
  | .g _, _, _, _, _, _, _, _, _, h, r, e, p => by simp only [evA] at e; cases e
  | .op _ _ _, _, _, _, _, _, _, _, _, h, r, e, p => by simp only [evA] at e; cases e
  | .chain _ _ _ _ _, _, _, _, _, _, _, _, _, h, r, e, p => by simp only [evA] at e; cases e
  | .neg _, _, _, _, _, _, _, _, _, h, r, e, p => by simp only [evA] at e; cases e
  | .andV _ _, _, _, _, _, _, _, _, _, h, r, e, p => by simp only [evA] at e; cases e
  | .orV _ _, _, _, _, _, _, _, _, _, h, r, e, p => by simp only [evA] at e; cases e
  | .notV _, _, _, _, _, _, _, _, _, h, r, e, p => by simp only [evA] at e; cases e
  | .ite _ _ _, _, _, _, _, _, _, _, _, h, r, e, p => by simp only [evA] at e; cases e
  | .ix _ _, _, _, _, _, _, _, _, _, h, r, e, p => by simp only [evA] at e; cases e
  | .sl _ _ _, _, _, _, _, _, _, _, _, h, r, e, p => by simp only [evA] at e; cases e
  | .isi _ _, _, _, _, _, _, _, _, _, h, r, e, p => by simp only [evA] at e; cases e
  | .cb _ _, _, _, _, _, _, _, _, _, h, r, e, p => by simp only [evA] at e; cases e
  | .bm _ _ _, _, _, _, _, _, _, _, _, h, r, e, p => by simp only [evA] at e; cases e
  | .kidx _ _, _, _, _, _, _, _, _, _, h, r, e, p => by simp only [evA] at e; cases e
  | .call _ _, _, _, _, _, _, _, _, _, h, r, e, p => by simp only [evA] at e; cases e
  | .tup _, _, _, _, _, _, _, _, _, h, r, e, p => by simp only [evA] at e; cases e
  | .lst _, _, _, _, _, _, _, _, _, h, r, e, p => by simp only [evA] at e; cases e
  | .dnew, _, _, _, _, _, _, _, _, h, r, e, p => by simp only [evA] at e; cases e
  | .lc _ _ _ _, _, _, _, _, _, _, _, _, h, r, e, p => by simp only [evA] at e; cases e
  | .iseq _, _, _, _, _, _, _, _, _, h, r, e, p => by simp only [evA] at e; cases e
  | .irng1 _, _, _, _, _, _, _, _, _, h, r, e, p => by simp only [evA] at e; cases e
  | .irng2 _ _, _, _, _, _, _, _, _, _, h, r, e, p => by simp only [evA] at e; cases e
  | .ienum _, _, _, _, _, _, _, _, _, h, r, e, p => by simp only [evA] at e; cases e
  | .izip _ _, _, _, _, _, _, _, _, _, h, r, e, p => by simp only [evA] at e; cases e
  | .mkx _ _, _, _, _, _, _, _, _, _, h, r, e, p => by simp only [evA] at e; cases e
  | .isx _ _, _, _, _, _, _, _, _, _, h, r, e, p => by simp only [evA] at e; cases e
  | .fld _ _, _, _, _, _, _, _, _, _, h, r, e, p => by simp only [evA] at e; cases e
theorem evO_ok (G : Good K C Z) : ∀ (e : E) {σd : Sl} {σ : L2.St} {S : Store} {H : Hp} {ms : List Addr} {o : Option Int} {S' : Store} {Q : Option Int → Hp → Prop}, SR K ms S H → RSt K H ms σd σ → evO C e σd S = some (o, S') → PostO K ms H o S' Q → denO K C Z e σ H Q
  | .nil, σd, σ, S, H, ms, d, S', Q, h, r, e, p => by
    simp only [evO] at e
    cases e
    exact p _ ms (Gr.refl _ _) h
  | .cons a b, σd, σ, S, H, ms, d, S', Q, h, r, e, p => by
    simp only [evO] at e
    replace e := Option.bind_eq_some_iff.mp e
    obtain ⟨x, e1, e⟩ := e
    replace e := Option.map_eq_some_iff.mp e
    obtain ⟨y, e2, e⟩ := e
    cases e
    have ez := asI_some e2
    subst ez
    exact evE_ok G a h r e1 fun v1 H1 ms1 g1 s1 r1 => ⟨y.1, rep_int r1, p _ ms1 g1 s1⟩
  | .non, _, _, _, _, _, _, _, _, h, r, e, p => by simp only [evO] at e; cases e
  | .bl _, _, _, _, _, _, _, _, _, h, r, e, p => by simp only [evO] at e; cases e
  | .int _, _, _, _, _, _, _, _, _, h, r, e, p => by simp only [evO] at e; cases e
  | .str _, _, _, _, _, _, _, _, _, h, r, e, p => by simp only [evO] at e; cases e
  | .var _, _, _, _, _, _, _, _, _, h, r, e, p => by simp only [evO] at e; cases e
  | .g _, _, _, _, _, _, _, _, _, h, r, e, p => by simp only [evO] at e; cases e
  | .op _ _ _, _, _, _, _, _, _, _, _, h, r, e, p => by simp only [evO] at e; cases e
  | .chain _ _ _ _ _, _, _, _, _, _, _, _, _, h, r, e, p => by simp only [evO] at e; cases e
  | .neg _, _, _, _, _, _, _, _, _, h, r, e, p => by simp only [evO] at e; cases e
  | .andV _ _, _, _, _, _, _, _, _, _, h, r, e, p => by simp only [evO] at e; cases e
  | .orV _ _, _, _, _, _, _, _, _, _, h, r, e, p => by simp only [evO] at e; cases e
  | .notV _, _, _, _, _, _, _, _, _, h, r, e, p => by simp only [evO] at e; cases e
  | .ite _ _ _, _, _, _, _, _, _, _, _, h, r, e, p => by simp only [evO] at e; cases e
  | .ix _ _, _, _, _, _, _, _, _, _, h, r, e, p => by simp only [evO] at e; cases e
  | .sl _ _ _, _, _, _, _, _, _, _, _, h, r, e, p => by simp only [evO] at e; cases e
  | .isi _ _, _, _, _, _, _, _, _, _, h, r, e, p => by simp only [evO] at e; cases e
  | .cb _ _, _, _, _, _, _, _, _, _, h, r, e, p => by simp only [evO] at e; cases e
  | .bm _ _ _, _, _, _, _, _, _, _, _, h, r, e, p => by simp only [evO] at e; cases e
  | .kidx _ _, _, _, _, _, _, _, _, _, h, r, e, p => by simp only [evO] at e; cases e
  | .call _ _, _, _, _, _, _, _, _, _, h, r, e, p => by simp only [evO] at e; cases e
  | .tup _, _, _, _, _, _, _, _, _, h, r, e, p => by simp only [evO] at e; cases e
  | .lst _, _, _, _, _, _, _, _, _, h, r, e, p => by simp only [evO] at e; cases e
  | .dnew, _, _, _, _, _, _, _, _, h, r, e, p => by simp only [evO] at e; cases e
  | .lc _ _ _ _, _, _, _, _, _, _, _, _, h, r, e, p => by simp only [evO] at e; cases e
  | .iseq _, _, _, _, _, _, _, _, _, h, r, e, p => by simp only [evO] at e; cases e
  | .irng1 _, _, _, _, _, _, _, _, _, h, r, e, p => by simp only [evO] at e; cases e
  | .irng2 _ _, _, _, _, _, _, _, _, _, h, r, e, p => by simp only [evO] at e; cases e
  | .ienum _, _, _, _, _, _, _, _, _, h, r, e, p => by simp only [evO] at e; cases e
  | .izip _ _, _, _, _, _, _, _, _, _, h, r, e, p => by simp only [evO] at e; cases e
  | .mkx _ _, _, _, _, _, _, _, _, _, h, r, e, p => by simp only [evO] at e; cases e
  | .isx _ _, _, _, _, _, _, _, _, _, h, r, e, p => by simp only [evO] at e; cases e
  | .fld _ _, _, _, _, _, _, _, _, _, h, r, e, p => by simp only [evO] at e; cases e
theorem evI_ok (G : Good K C Z) : ∀ (e : E) {σd : Sl} {σ : L2.St} {S : Store} {H : Hp} {ms : List Addr} {s : Src} {S' : Store} {R : It → Hp → Prop}, SR K ms S H → RSt K H ms σd σ → evI C e σd S = some (s, S') → PostI K ms H s S' R → denI K C Z e σ H R
  | .iseq a, σd, σ, S, H, ms, d, S', Q, h, r, e, p => by
    simp only [evI] at e
    replace e := Option.bind_eq_some_iff.mp e
    obtain ⟨x, e1, e⟩ := e
    unfold srcSeq at e
    split at e
    · rename_i xs ex
      cases e
      refine .inr (.inl (evE_ok G a h r e1 fun v1 H1 ms1 g1 s1 r1 => ?_))
      rw [ex] at r1
      cases r1 with
      | tup hq rr => exact ⟨_, rfl, ⟨_, hq⟩, p _ _ ms1 g1 s1 (.tup hq rr)⟩
    · rename_i xs ex
      cases e
      refine .inl (evE_ok G a h r e1 fun v1 H1 ms1 g1 s1 r1 => ?_)
      rw [ex] at r1
      cases r1 with
      | rol hq rr => exact ⟨_, rfl, ⟨_, hq.seq⟩, p _ _ ms1 g1 s1 (.rol hq rr)⟩
    · rename_i z ex
      cases e
      refine .inr (.inr (evE_ok G a h r e1 fun v1 H1 ms1 g1 s1 r1 => ?_))
      rw [ex] at r1
      exact ⟨z, rep_str r1, p _ _ ms1 g1 s1 (.str z)⟩
    · rename_i n ex
      split at e
      · rename_i ds es
        cases e
        refine .inl (evE_ok G a h r e1 fun v1 H1 ms1 g1 s1 r1 => ?_)
        rw [ex] at r1
        cases r1 with
        | loc hl =>
          obtain ⟨vs, hv, _⟩ := s1.lst hl es
          exact ⟨_, rfl, ⟨vs, SqL.of hv⟩, p _ _ ms1 g1 s1 (.lst hl)⟩
      · cases e
    · cases e
  | .irng1 a, σd, σ, S, H, ms, d, S', Q, h, r, e, p => by
    simp only [evI] at e
    replace e := Option.bind_eq_some_iff.mp e
    obtain ⟨x, e1, e⟩ := e
    unfold srcRng at e
    split at e
    · rename_i j ex
      split at e
      · rename_i hb
        cases e
        refine evE_ok G a h r e1 fun v1 H1 ms1 g1 s1 r1 => ?_
        rw [ex] at r1
        refine ⟨j, by rw [rep_int r1], by omega, by omega, ?_⟩
        have q := p _ _ ms1 g1 s1 (.rng 0 (j - 0).toNat)
        simpa using q
      · cases e
    · cases e
  | .irng2 a b, σd, σ, S, H, ms, d, S', Q, h, r, e, p => by
    simp only [evI] at e
    replace e := Option.bind_eq_some_iff.mp e
    obtain ⟨x, e1, e⟩ := e
    replace e := Option.bind_eq_some_iff.mp e
    obtain ⟨q, e2, e⟩ := e
    have ez := asI_some e2
    subst ez
    replace e := Option.bind_eq_some_iff.mp e
    obtain ⟨y, e3, e⟩ := e
    unfold srcRng at e
    split at e
    · rename_i j ex
      split at e
      · rename_i hb
        cases e
        refine evE_ok G a h r e1 fun v1 H1 ms1 g1 s1 r1 => evE_ok G b s1 (r.mono h.muts g1) e3 fun v2 H2 ms2 g2 s2 r2 => ?_
        rw [ex] at r2
        exact ⟨q.1, j, by rw [rep_int r1, rep_int r2], by omega, p _ _ ms2 (g1.trans g2) s2 (.rng _ _)⟩
      · cases e
    · cases e
  | .ienum a, σd, σ, S, H, ms, d, S', Q, h, r, e, p => by
    simp only [evI] at e
    replace e := Option.bind_eq_some_iff.mp e
    obtain ⟨x, e1, e⟩ := e
    unfold srcEnum at e
    split at e
    · rename_i xs ex
      cases e
      refine .inr (evE_ok G a h r e1 fun v1 H1 ms1 g1 s1 r1 => ?_)
      rw [ex] at r1
      cases r1 with
      | tup hq rr => exact ⟨_, _, rfl, hq, p _ _ ms1 g1 s1 (.enumT hq rr)⟩
    · rename_i xs ex
      cases e
      refine .inl (evE_ok G a h r e1 fun v1 H1 ms1 g1 s1 r1 => ?_)
      rw [ex] at r1
      cases r1 with
      | rol hq rr => exact ⟨_, _, rfl, hq.seq, p _ _ ms1 g1 s1 (.enumR hq rr)⟩
    · rename_i n ex
      split at e
      · rename_i ds es
        cases e
        refine .inl (evE_ok G a h r e1 fun v1 H1 ms1 g1 s1 r1 => ?_)
        rw [ex] at r1
        cases r1 with
        | loc hl =>
          obtain ⟨vs, hv, _⟩ := s1.lst hl es
          exact ⟨_, vs, rfl, SqL.of hv, p _ _ ms1 g1 s1 (.enumL hl)⟩
      · cases e
    · cases e
  | .izip a b, σd, σ, S, H, ms, d, S', Q, h, r, e, p => by
    simp only [evI] at e
    replace e := Option.bind_eq_some_iff.mp e
    obtain ⟨x, e1, e⟩ := e
    replace e := Option.bind_eq_some_iff.mp e
    obtain ⟨y, e2, e⟩ := e
    obtain ⟨x1, x2⟩ := x
    obtain ⟨y1, y2⟩ := y
    refine evE_ok G a h r e1 fun v1 H1 ms1 g1 s1 r1 => evE_ok G b s1 (r.mono h.muts g1) e2 fun v2 H2 ms2 g2 s2 r2 => ?_
    have r1' := r1.mono s1.muts g2
    unfold srcZip at e
    dsimp only at e r1' r2
    split at e
    · cases e
      cases r1' with
      | tup hq rr =>
        cases r2 with
        | tup hq2 rr2 => exact ⟨_, _, _, _, rfl, .inr ⟨hq, hq2, p _ _ ms2 (g1.trans g2) s2 (.zipT hq rr hq2 rr2)⟩⟩
    · split at e
      · rename_i ds ds2 es es2
        cases e
        cases r1' with
        | loc hl =>
          cases r2 with
          | loc hl2 =>
            obtain ⟨vs, hv, _⟩ := s2.lst hl es
            obtain ⟨vs2, hv2, _⟩ := s2.lst hl2 es2
            exact ⟨_, _, _, _, rfl, .inl ⟨SqL.of hv, SqL.of hv2, p _ _ ms2 (g1.trans g2) s2 (.zipL hl hl2)⟩⟩
      · cases e
    · cases e
  | .non, _, _, _, _, _, _, _, _, h, r, e, p => by simp only [evI] at e; cases e
  | .bl _, _, _, _, _, _, _, _, _, h, r, e, p => by simp only [evI] at e; cases e
  | .int _, _, _, _, _, _, _, _, _, h, r, e, p => by simp only [evI] at e; cases e
  | .str _, _, _, _, _, _, _, _, _, h, r, e, p => by simp only [evI] at e; cases e
  | .var _, _, _, _, _, _, _, _, _, h, r, e, p => by simp only [evI] at e; cases e
  | .g _, _, _, _, _, _, _, _, _, h, r, e, p => by simp only [evI] at e; cases e
  | .op _ _ _, _, _, _, _, _, _, _, _, h, r, e, p => by simp only [evI] at e; cases e
  | .chain _ _ _ _ _, _, _, _, _, _, _, _, _, h, r, e, p => by simp only [evI] at e; cases e
  | .neg _, _, _, _, _, _, _, _, _, h, r, e, p => by simp only [evI] at e; cases e
  | .andV _ _, _, _, _, _, _, _, _, _, h, r, e, p => by simp only [evI] at e; cases e
  | .orV _ _, _, _, _, _, _, _, _, _, h, r, e, p => by simp only [evI] at e; cases e
  | .notV _, _, _, _, _, _, _, _, _, h, r, e, p => by simp only [evI] at e; cases e
  | .ite _ _ _, _, _, _, _, _, _, _, _, h, r, e, p => by simp only [evI] at e; cases e
  | .ix _ _, _, _, _, _, _, _, _, _, h, r, e, p => by simp only [evI] at e; cases e
  | .sl _ _ _, _, _, _, _, _, _, _, _, h, r, e, p => by simp only [evI] at e; cases e
  | .isi _ _, _, _, _, _, _, _, _, _, h, r, e, p => by simp only [evI] at e; cases e
  | .cb _ _, _, _, _, _, _, _, _, _, h, r, e, p => by simp only [evI] at e; cases e
  | .bm _ _ _, _, _, _, _, _, _, _, _, h, r, e, p => by simp only [evI] at e; cases e
  | .kidx _ _, _, _, _, _, _, _, _, _, h, r, e, p => by simp only [evI] at e; cases e
  | .call _ _, _, _, _, _, _, _, _, _, h, r, e, p => by simp only [evI] at e; cases e
  | .tup _, _, _, _, _, _, _, _, _, h, r, e, p => by simp only [evI] at e; cases e
  | .lst _, _, _, _, _, _, _, _, _, h, r, e, p => by simp only [evI] at e; cases e
  | .dnew, _, _, _, _, _, _, _, _, h, r, e, p => by simp only [evI] at e; cases e
  | .lc _ _ _ _, _, _, _, _, _, _, _, _, h, r, e, p => by simp only [evI] at e; cases e
  | .nil, _, _, _, _, _, _, _, _, h, r, e, p => by simp only [evI] at e; cases e
  | .cons _ _, _, _, _, _, _, _, _, _, h, r, e, p => by simp only [evI] at e; cases e
  | .mkx _ _, _, _, _, _, _, _, _, _, h, r, e, p => by simp only [evI] at e; cases e
  | .isx _ _, _, _, _, _, _, _, _, _, h, r, e, p => by simp only [evI] at e; cases e
  | .fld _ _, _, _, _, _, _, _, _, _, h, r, e, p => by simp only [evI] at e; cases e
theorem evT_ok (G : Good K C Z) : ∀ (e : E) {σd : Sl} {σ : L2.St} {S : Store} {H : Hp} {ms : List Addr} {b : Bool} {S' : Store} {Q : Bool → Hp → Prop}, SR K ms S H → RSt K H ms σd σ → evE C e σd S = some (.bl b, S') → PostT K ms H b S' Q → denT K C Z e σ H Q
  | .andV a c, σd, σ, S, H, ms, b, S', Q, h, r, e, p => by
    simp only [evE] at e
    replace e := Option.bind_eq_some_iff.mp e
    obtain ⟨x, e1, e⟩ := e
    replace e := Option.bind_eq_some_iff.mp e
    obtain ⟨q, e2, e⟩ := e
    have ez := asB_some e2
    subst ez
    refine evT_ok G a h r e1 fun H1 ms1 g1 s1 => ?_
    split at e
    · rename_i hq
      rw [if_pos hq]
      exact evT_ok G c s1 (r.mono h.muts g1) e fun H2 ms2 g2 s2 => p _ ms2 (g1.trans g2) s2
    · rename_i hq
      cases e
      rw [if_neg hq]
      exact p _ ms1 g1 s1
  | .orV a c, σd, σ, S, H, ms, b, S', Q, h, r, e, p => by
    simp only [evE] at e
    replace e := Option.bind_eq_some_iff.mp e
    obtain ⟨x, e1, e⟩ := e
    replace e := Option.bind_eq_some_iff.mp e
    obtain ⟨q, e2, e⟩ := e
    have ez := asB_some e2
    subst ez
    refine evT_ok G a h r e1 fun H1 ms1 g1 s1 => ?_
    split at e
    · rename_i hq
      cases e
      rw [if_pos hq]
      exact p _ ms1 g1 s1
    · rename_i hq
      rw [if_neg hq]
      exact evT_ok G c s1 (r.mono h.muts g1) e fun H2 ms2 g2 s2 => p _ ms2 (g1.trans g2) s2
  | .notV a, σd, σ, S, H, ms, b, S', Q, h, r, e, p => by
    simp only [evE] at e
    replace e := Option.bind_eq_some_iff.mp e
    obtain ⟨x, e1, e⟩ := e
    replace e := Option.map_eq_some_iff.mp e
    obtain ⟨q, e2, e⟩ := e
    have ez := asB_some e2
    subst ez
    cases e
    exact evT_ok G a h r e1 p
  | .bl x, σd, σ, S, H, ms, b, S', Q, h, r, e, p => by
    simp only [evE] at e
    cases e
    exact ⟨_, rfl, p _ ms (Gr.refl _ _) h⟩
  | .non, σd, σ, S, H, ms, b, S', Q, h, r, e, p => by simp only [evE] at e; cases e
  | .int _, σd, σ, S, H, ms, b, S', Q, h, r, e, p => by simp only [evE] at e; cases e
  | .str _, σd, σ, S, H, ms, b, S', Q, h, r, e, p => by simp only [evE] at e; cases e
  | .var i, σd, σ, S, H, ms, b, S', Q, h, r, e, p => by
    simp only [evE] at e
    split at e
    · cases e
      obtain ⟨v, h1, h2⟩ := r.ob i _ (by assumption)
      exact ⟨v, h1, b, rep_bl h2, p _ ms (Gr.refl _ _) h⟩
    · cases e
  | .g i, σd, σ, S, H, ms, b, S', Q, h, r, e, p => by
    simp only [evE, Option.some.injEq, Prod.mk.injEq] at e
    obtain ⟨e1, e2⟩ := e
    subst e2
    have q := G.g i H ms
    rw [e1] at q
    exact ⟨b, rep_bl q, p _ ms (Gr.refl _ _) h⟩
  | .op o a c, σd, σ, S, H, ms, b, S', Q, h, r, e, p => by
    simp only [evE] at e
    replace e := Option.bind_eq_some_iff.mp e
    obtain ⟨x, e1, e⟩ := e
    replace e := Option.bind_eq_some_iff.mp e
    obtain ⟨y, e2, e⟩ := e
    exact tB_of p fun {Q} p => evE_ok G a h r e1 fun v1 H1 ms1 g1 s1 r1 => evE_ok G c s1 (r.mono h.muts g1) e2 fun v2 H2 ms2 g2 s2 r2 =>
      op_ok o s2 (r1.mono s1.muts g2) r2 e (p.after (g1.trans g2))
  | .chain o o' a b' c, σd, σ, S, H, ms, b, S', Q, h, r, e, p => by
    simp only [evE] at e
    replace e := Option.bind_eq_some_iff.mp e
    obtain ⟨x, e1, e⟩ := e
    replace e := Option.bind_eq_some_iff.mp e
    obtain ⟨y, e2, e⟩ := e
    replace e := Option.bind_eq_some_iff.mp e
    obtain ⟨z, e3, e⟩ := e
    replace e := Option.bind_eq_some_iff.mp e
    obtain ⟨q, e4, e⟩ := e
    have ez := asB_some e4
    subst ez
    refine tB_of p fun {Q} p => evE_ok G a h r e1 fun v1 H1 ms1 g1 s1 r1 => evE_ok G b' s1 (r.mono h.muts g1) e2 fun v2 H2 ms2 g2 s2 r2 => ?_
    refine op_ok o s2 (r1.mono s1.muts g2) r2 e3 fun v3 H3 ms3 g3 s3 r3 => ⟨q.1, rep_bl r3, ?_⟩
    have g123 := (g1.trans g2).trans g3
    split at e
    · rename_i hq
      obtain ⟨w, e5, e6⟩ := Option.bind_eq_some_iff.mp e
      rw [if_pos hq]
      exact evE_ok G c s3 (r.mono h.muts g123) e5 fun v4 H4 ms4 g4 s4 r4 => op_ok o' s4 (r2.mono s2.muts (g3.trans g4)) r4 e6 (p.after (g123.trans g4))
    · rename_i hq
      cases e
      rw [if_neg hq]
      exact p _ _ ms3 g123 s3 (.bl false)
  | .ite t a c, σd, σ, S, H, ms, b, S', Q, h, r, e, p => by
    simp only [evE] at e
    replace e := Option.bind_eq_some_iff.mp e
    obtain ⟨x, e1, e⟩ := e
    replace e := Option.bind_eq_some_iff.mp e
    obtain ⟨q, e2, e⟩ := e
    have ez := asB_some e2
    subst ez
    refine tB_of p fun {Q} p => evT_ok G t h r e1 fun H1 ms1 g1 s1 => ?_
    split at e
    · rename_i hq
      rw [if_pos hq]
      exact evE_ok G a s1 (r.mono h.muts g1) e (p.after g1)
    · rename_i hq
      rw [if_neg hq]
      exact evE_ok G c s1 (r.mono h.muts g1) e (p.after g1)
  | .ix a c, σd, σ, S, H, ms, b, S', Q, h, r, e, p => by
    simp only [evE] at e
    replace e := Option.bind_eq_some_iff.mp e
    obtain ⟨x, e1, e⟩ := e
    replace e := Option.bind_eq_some_iff.mp e
    obtain ⟨y, e2, e⟩ := e
    exact tB_of p fun {Q} p => evE_ok G a h r e1 fun v1 H1 ms1 g1 s1 r1 => evE_ok G c s1 (r.mono h.muts g1) e2 fun v2 H2 ms2 g2 s2 r2 =>
      ixD_ok s2 (r1.mono s1.muts g2) r2 e (p.after (g1.trans g2))
  | .isi ts a, σd, σ, S, H, ms, b, S', Q, h, r, e, p => by
    simp only [evE] at e
    replace e := Option.bind_eq_some_iff.mp e
    obtain ⟨x, e1, e⟩ := e
    split at e
    · rename_i hl
      replace e := Option.map_eq_some_iff.mp e
      obtain ⟨t, e2, e⟩ := e
      cases e
      have q : tB _ σ H Q := tB_of p fun {Q} p => isi_den (K := K) (te := den K C Z a) (σ := σ) (x := x) (ms := ms) (H := H) (Q := Q) (fun {Q} p' => evE_ok G a h r e1 p') hl e2 p
      simpa only [denT] using q
    · cases e
  | .cb f as, σd, σ, S, H, ms, b, S', Q, h, r, e, p => by
    simp only [evE] at e
    replace e := Option.bind_eq_some_iff.mp e
    obtain ⟨x, e1, e⟩ := e
    exact tB_of p fun {Q} p => evA_ok G as h r e1 fun vs H1 ms1 g1 s1 r1 => bi_ok f s1 r1 e (p.after g1)
  | .call f as, σd, σ, S, H, ms, b, S', Q, h, r, e, p => by
    simp only [evE] at e
    replace e := Option.bind_eq_some_iff.mp e
    obtain ⟨x, e1, e⟩ := e
    exact tB_of p fun {Q} p => evA_ok G as h r e1 fun vs H1 ms1 g1 s1 r1 => ⟨ms1, x.2, x.1, _, S', s1, by simpa using r1, e, p.after g1⟩
  | .neg a, σd, σ, S, H, ms, b, S', Q, h, r, e, p => tB_of (te := den K C Z (.neg a)) p fun {Q} p => by
        simp only [evE] at e
        replace e := Option.bind_eq_some_iff.mp e
        obtain ⟨x, e1, e⟩ := e
        replace e := Option.map_eq_some_iff.mp e
        obtain ⟨q, e2, e⟩ := e
        have ez := asI_some e2
        subst ez
        cases e
  | .sl a lo hi, σd, σ, S, H, ms, b, S', Q, h, r, e, p => tB_of (te := den K C Z (.sl a lo hi)) p fun {Q} p => by
        simp only [evE] at e
        replace e := Option.bind_eq_some_iff.mp e
        obtain ⟨x, e1, e⟩ := e
        replace e := Option.bind_eq_some_iff.mp e
        obtain ⟨l, e2, e⟩ := e
        replace e := Option.bind_eq_some_iff.mp e
        obtain ⟨u, e3, e⟩ := e
        exact evE_ok G a h r e1 fun v1 H1 ms1 g1 s1 r1 => evO_ok G lo s1 (r.mono h.muts g1) e2 fun H2 ms2 g2 s2 => evO_ok G hi s2 (r.mono h.muts (g1.trans g2)) e3 fun H3 ms3 g3 s3 =>
          slD_ok s3 (r1.mono s1.muts (g2.trans g3)) e (p.after ((g1.trans g2).trans g3))
  | .bm m o as, σd, σ, S, H, ms, b, S', Q, h, r, e, p => tB_of (te := den K C Z (.bm m o as)) p fun {Q} p => by
        simp only [evE] at e
        replace e := Option.bind_eq_some_iff.mp e
        obtain ⟨x, e1, e⟩ := e
        split at e
        · rename_i hr
          replace e := Option.bind_eq_some_iff.mp e
          obtain ⟨y, e2, e⟩ := e
          exact evE_ok G o h r e1 fun v1 H1 ms1 g1 s1 r1 => ⟨mt_ty m s1 r1 hr, evA_ok G as s1 (r.mono h.muts g1) e2 fun vs H2 ms2 g2 s2 r2 => mt_ok m s2 (r1.mono s1.muts g2) r2 e (p.after (g1.trans g2))⟩
        · cases e
  | .kidx i a, σd, σ, S, H, ms, b, S', Q, h, r, e, p => tB_of (te := den K C Z (.kidx i a)) p fun {Q} p => by
        simp only [evE] at e
        replace e := Option.bind_eq_some_iff.mp e
        obtain ⟨x, e1, e⟩ := e
        split at e
        · rename_i z ez
          replace e := Option.map_eq_some_iff.mp e
          obtain ⟨j, e2, e⟩ := e
          cases e
        · cases e
  | .tup as, σd, σ, S, H, ms, b, S', Q, h, r, e, p => tB_of (te := den K C Z (.tup as)) p fun {Q} p => by
        simp only [evE] at e
        replace e := Option.bind_eq_some_iff.mp e
        obtain ⟨x, e1, e⟩ := e
        split at e
        · rename_i hl
          cases e
        · cases e
  | .lst as, σd, σ, S, H, ms, b, S', Q, h, r, e, p => tB_of (te := den K C Z (.lst as)) p fun {Q} p => by
        simp only [evE] at e
        replace e := Option.bind_eq_some_iff.mp e
        obtain ⟨x, e1, e⟩ := e
        split at e
        · rename_i hl
          unfold alloc at e
          cases e
        · cases e
  | .dnew , σd, σ, S, H, ms, b, S', Q, h, r, e, p => tB_of (te := den K C Z (.dnew )) p fun {Q} p => by
        simp only [evE, alloc] at e
        cases e
  | .lc src g c el, σd, σ, S, H, ms, b, S', Q, h, r, e, p => tB_of (te := den K C Z (.lc src g c el)) p fun {Q} p => by
        simp only [evE] at e
        replace e := Option.bind_eq_some_iff.mp e
        obtain ⟨x, e1, e⟩ := e
        replace e := Option.bind_eq_some_iff.mp e
        obtain ⟨q, e2, e⟩ := e
        unfold alloc at e
        cases e
  | .iseq _, _, _, _, _, _, _, _, _, h, r, e, p => by simp only [evE] at e; cases e
  | .irng1 _, _, _, _, _, _, _, _, _, h, r, e, p => by simp only [evE] at e; cases e
  | .irng2 _ _, _, _, _, _, _, _, _, _, h, r, e, p => by simp only [evE] at e; cases e
  | .ienum _, _, _, _, _, _, _, _, _, h, r, e, p => by simp only [evE] at e; cases e
  | .izip _ _, _, _, _, _, _, _, _, _, h, r, e, p => by simp only [evE] at e; cases e
  | .nil, _, _, _, _, _, _, _, _, h, r, e, p => by simp only [evE] at e; cases e
  | .cons _ _, _, _, _, _, _, _, _, _, h, r, e, p => by simp only [evE] at e; cases e
  | .mkx c as, σd, σ, S, H, ms, b, S', Q, h, r, e, p => tB_of (te := den K C Z (.mkx c as)) p fun {Q} p => by
        simp only [evE] at e
        replace e := Option.bind_eq_some_iff.mp e
        obtain ⟨x, e1, e⟩ := e
        obtain ⟨q, e2, e⟩ := Option.map_eq_some_iff.mp e
        cases e
  | .isx j a, σd, σ, S, H, ms, b, S', Q, h, r, e, p => tB_of (te := den K C Z (.isx j a)) p fun {Q} p => by
        simp only [evE] at e
        replace e := Option.bind_eq_some_iff.mp e
        obtain ⟨x, e1, e⟩ := e
        split at e
        · rename_i A ns xs ex
          obtain ⟨b, e2, e⟩ := Option.map_eq_some_iff.mp e
          cases e
          refine evE_ok G a h r e1 fun v1 H1 ms1 g1 s1 r1 => ?_
          rw [ex] at r1
          obtain ⟨xc, u, hu, hk⟩ := G.x A j b e2
          have q := p _ _ ms1 g1 s1 (.bl b)
          cases r1 with
          | exc h1 h2 _ => exact ⟨_, A, Z.cv j, u, b, rfl, .inr ⟨_, _, h1, h2⟩, xc, hu, hk, q⟩
          | exc0 h1 => exact ⟨_, A, Z.cv j, u, b, rfl, .inl h1, xc, hu, hk, q⟩
        · cases e
  | .fld a f, σd, σ, S, H, ms, b, S', Q, h, r, e, p => tB_of (te := den K C Z (.fld a f)) p fun {Q} p => by
        simp only [evE] at e
        replace e := Option.bind_eq_some_iff.mp e
        obtain ⟨x, e1, e⟩ := e
        split at e
        · rename_i A ns xs ex
          split at e
          · rename_i hf
            replace e := Option.bind_eq_some_iff.mp e
            obtain ⟨j, e2, e⟩ := e
            obtain ⟨d', e3, e⟩ := Option.map_eq_some_iff.mp e
            cases e
            refine evE_ok G a h r e1 fun v1 H1 ms1 g1 s1 r1 => ?_
            rw [ex] at r1
            obtain ⟨xc, hn⟩ := G.f A f hf
            obtain ⟨q1, q2⟩ := firstStr_get e2
            cases r1 with
            | exc h1 h2 rr =>
              obtain ⟨v, h3, h4⟩ := rr.get e3
              exact ⟨_, A, _, _, v, rfl, h1, h2, xc, hn, zip_lookup q1 q2 h3, p _ _ ms1 g1 s1 h4⟩
            | exc0 h1 => simp at e3
          · cases e
        · cases e
end
end
end IP

namespace IP
open PySem L2 RZ

inductive S where
  | asg (g : Tg) (e : E) | par (i j : Nat) (a b : E) | sub (o i e : E) | expr (e : E) | ret (e : E) | retN
  | ite (t : E) (a b : S) | for_ (src : E) (g : Tg) (body : S) | while_ (t : E) (body : S) | seq (a b : S) | skip | brk | cont
/-- how a statement ends -/
inductive Out where
  | nx (σ : Sl) (S : Store) | ret (d : D) (S : Store) | bk (σ : Sl) (S : Store) | ct (σ : Sl) (S : Store)
def subD' (S : Store) (o i v : D) : Option Store := match o with
  | .loc n => match S[n]? with
    | some (.lst ds) => match i with
      | .int k => (ixN ds.length k).map fun j => S.set n (.lst (ds.set j v))
      | _ => none
    | some (.dK kvs) => if kvs.length < LIM then (keyOf i).map fun k => S.set n (.dK (putD kvs k v)) else none
    | _ => none
  | _ => none
def forN (src : Src) (g : Tg) (body : Sl → Store → Option Out) : Nat → Nat → Sl → Store → Option Out
  | 0, _, _, _ => none
  | n + 1, i, σ, S => match src.at S i with
    | none => none
    | some none => some (.nx σ S)
    | some (some d) => (g.bind d σ).bind fun σ1 => (body σ1 S).bind fun o => match o with
      | .nx σ2 S2 => forN src g body n (i + 1) σ2 S2
      | .ct σ2 S2 => forN src g body n (i + 1) σ2 S2
      | .bk σ2 S2 => some (.nx σ2 S2)
      | .ret d S2 => some (.ret d S2)
def whileN (test : Sl → Store → Option (Bool × Store)) (body : Sl → Store → Option Out) : Nat → Sl → Store → Option Out
  | 0, _, _ => none
  | n + 1, σ, S => (test σ S).bind fun q => if q.1 = true then (body σ q.2).bind fun o => match o with
      | .nx σ2 S2 => whileN test body n σ2 S2
      | .ct σ2 S2 => whileN test body n σ2 S2
      | .bk σ2 S2 => some (.nx σ2 S2)
      | .ret d S2 => some (.ret d S2)
    else some (.nx σ q.2)
section
variable (C : Ev)
def evS : S → Sl → Store → Option Out
  | .asg g e, σ, St => (evE C e σ St).bind fun x => (g.bind x.1 σ).map fun σ' => .nx σ' x.2
  | .par i j a b, σ, St => (evE C a σ St).bind fun x => (evE C b σ x.2).map fun y => .nx ((σ.set i (some x.1)).set j (some y.1)) y.2
  | .sub o i e, σ, St => (evE C e σ St).bind fun x => (evE C o σ x.2).bind fun y => (evE C i σ y.2).bind fun z => (subD' z.2 y.1 z.1 x.1).map fun S' => .nx σ S'
  | .expr e, σ, St => (evE C e σ St).map fun x => .nx σ x.2
  | .ret e, σ, St => (evE C e σ St).map fun x => .ret x.1 x.2
  | .retN, _, St => some (.ret .non St)
  | .ite t a b, σ, St => (evE C t σ St).bind fun x => (asB x).bind fun q => if q.1 = true then evS a σ q.2 else evS b σ q.2
  | .for_ src g body, σ, St => (evI C src σ St).bind fun r => forN r.1 g (fun σ1 S1 => evS body σ1 S1) LIM 0 σ r.2
  | .while_ t body, σ, St => whileN (fun σ1 S1 => (evE C t σ1 S1).bind asB) (fun σ1 S1 => evS body σ1 S1) LIM σ St
  | .seq a b, σ, St => (evS a σ St).bind fun o => match o with
    | .nx σ' S' => evS b σ' S'
    | o => some o
  | .skip, σ, St => some (.nx σ St)
  | .brk, σ, St => some (.bk σ St)
  | .cont, σ, St => some (.ct σ St)
end
abbrev RSet := V → V → V → Hp → (Hp → Prop) → Prop
def rSetD : RSet := fun o i v H Q => ∃ a H', o = .ref a ∧ DPut H a i v H' ∧ Q H'
def setDen : RSet := fun o i v H Q => rSetL o i v H Q ∨ rSetD o i v H Q
theorem o_set {X : Cx} (hu : X.A.units + 1 < cLine) : PSet X setDen := by
  intro pins s σ H o i v ov iv u Q I ro ri rv h
  rcases h with h | ⟨a, H', rfl, g, q⟩
  · exact set_list pins s σ H o i v ov iv u Q I ro ri rv h
  · obtain rfl : ov = Value.ref a := ro
    exact d_setItem hu I g ri rv fun s4 I4 => ⟨H', I4, q⟩
section
variable (K : PySem.W.Frag) (C : Ev) (Z : Ds)
def denS : S → TS
  | .asg g e => tAsg (den K C Z e) (g.den K)
  | .par i j a b => tPar i j (tCons (den K C Z a) (tCons (den K C Z b) tNil))
  | .sub o i e => tAsg (den K C Z e) (gSub (den K C Z o) (den K C Z i) setDen)
  | .expr e => tDrop (den K C Z e)
  | .ret e => tRet (den K C Z e)
  | .retN => tRetN
  | .ite t a b => tIfS (denT K C Z t) (denS a) (denS b)
  | .for_ src g body => tFor (denI K C Z src) (g.den K) (denS body)
  | .while_ t body => tWhile (denT K C Z t) (denS body)
  | .seq a b => tSeq (denS a) (denS b)
  | .skip => tNext
  | .brk => tBreak
  | .cont => tCont
end
/-- what is wanted behind a statement that ends so -/
def PostS (K : PySem.W.Frag) (ms : List Addr) (H : Hp) (o : Out) (D : Ends) : Prop := match o with
  | .nx σd S' => ∀ σ H' ms', Gr ms H ms' H' → SR K ms' S' H' → RSt K H' ms' σd σ → D.nx σ H'
  | .ret d S' => ∀ v H' ms', Gr ms H ms' H' → SR K ms' S' H' → Rep K H' ms' d v → D.rt v H'
  | .bk σd S' => ∀ σ H' ms', Gr ms H ms' H' → SR K ms' S' H' → RSt K H' ms' σd σ → D.bk σ H'
  | .ct σd S' => ∀ σ H' ms', Gr ms H ms' H' → SR K ms' S' H' → RSt K H' ms' σd σ → D.ct σ H'
section
variable {K : PySem.W.Frag} {C : Ev} {Z : Ds}
theorem PostS.after {ms ms1 : List Addr} {H H1 : Hp} {o : Out} {D : Ends} (p : PostS K ms H o D) (g : Gr ms H ms1 H1) : PostS K ms1 H1 o D := by
  cases o with
  | nx σd S' => exact fun σ H' ms' g' s r => p σ H' ms' (g.trans g') s r
  | ret d S' => exact fun v H' ms' g' s r => p v H' ms' (g.trans g') s r
  | bk σd S' => exact fun σ H' ms' g' s r => p σ H' ms' (g.trans g') s r
  | ct σd S' => exact fun σ H' ms' g' s r => p σ H' ms' (g.trans g') s r
theorem sub_ok {ms : List Addr} {St S' : Store} {H : Hp} {o i v : D} {vo vi vv : V} {Q : Hp → Prop} (h : SR K ms St H) (ro : Rep K H ms o vo) (ri : Rep K H ms i vi) (rv : Rep K H ms v vv) (e : subD' St o i v = some S')
    (p : ∀ H', Gr ms H ms H' → SR K ms S' H' → Q H') : setDen vo vi vv H Q := by
  cases ro <;> simp only [subD'] at e <;> first | cases e | skip
  rename_i n a hl
  split at e
  · rename_i ds es
    cases ri <;> simp only at e <;> first | cases e | skip
    rename_i k
    obtain ⟨j, e1, e2⟩ := Option.map_eq_some_iff.mp e
    subst e2
    obtain ⟨vs, hv, r⟩ := h.lst hl es
    exact .inl ⟨a, vs, k, j, rfl, rfl, hv, by rw [← r.length]; exact e1, p _ (put_gr hl) (h.lstPut hl (r.set rv j))⟩
  · rename_i kvs es
    split at e
    · rename_i hz
      obtain ⟨k, e1, e2⟩ := Option.map_eq_some_iff.mp e
      subst e2
      obtain ⟨ws, hw, r⟩ := h.dK hl es
      have hk := keyOf_V ri e1
      subst hk
      exact .inr ⟨a, _, rfl, DPut.k hw (lim_lt (by rw [← Paired.length r]; exact hz)), p _ (put_gr hl) (h.put hl trivial ⟨_, rfl, put_V r k rv⟩)⟩
    · cases e
  · cases e
theorem for_turns {src : Src} {g : Tg} {body : Sl → Store → Option Out} {tb : TS} {J : It} {ms1 : List Addr} {S1 : Store} {H1 : Hp} {σd : Sl} {σ : L2.St} {o : Out} {D : Ends}
    (hb : ∀ {σd1 σ1 S H ms o} {D : Ends}, SR K ms S H → RSt K H ms σd1 σ1 → body σd1 S = some o → PostS K ms H o D → tb D σ1 H)
    (h : SR K ms1 S1 H1) (r : RSt K H1 ms1 σd σ) (hs : SrcRel K ms1 H1 src J) (e : forN src g body LIM 0 σd S1 = some o) (p : PostS K ms1 H1 o D) :
    ∃ W : Nat → Nat → L2.St → Hp → Prop, (∃ m, W 0 m σ H1) ∧ ∀ i m σ H, W i m σ H →
      (J.stop i H ∧ D.nx σ H) ∨ (J.go i H ∧ ∃ N : L2.St → Hp → Prop, (∀ σ' H', N σ' H' → ∃ m', m' < m ∧ W (i + 1) m' σ' H') ∧ ∀ x H', J.yld i H x H' → g.den K x σ H' fun σ2 H2 => tb { D with nx := N, ct := N, bk := D.nx } σ2 H2) := by
  refine ⟨fun i m σ H => ∃ ms2 S2 σd2, Gr ms1 H1 ms2 H ∧ SR K ms2 S2 H ∧ RSt K H ms2 σd2 σ ∧ SrcRel K ms2 H src J ∧ forN src g body m i σd2 S2 = some o,
    ⟨LIM, ms1, S1, σd, Gr.refl _ _, h, r, hs, e⟩, ?_⟩
  rintro i m σ2 H ⟨ms2, S2, σd2, gr, sr, rs, sl, el⟩
  cases m with
  | zero => simp [forN] at el
  | succ m =>
    unfold forN at el
    split at el
    · cases el
    · rename_i hs0
      cases el
      exact .inl ⟨src_stop sr sl hs0, p σ2 H ms2 gr sr rs⟩
    · rename_i d hs0
      obtain ⟨go, yl⟩ := src_turn sr sl hs0
      replace el := Option.bind_eq_some_iff.mp el
      obtain ⟨σ1, e1, el⟩ := el
      replace el := Option.bind_eq_some_iff.mp el
      obtain ⟨o1, e2, el⟩ := el
      refine .inr ⟨go, fun σ' H' => ∃ ms3 S3 σd3, Gr ms1 H1 ms3 H' ∧ SR K ms3 S3 H' ∧ RSt K H' ms3 σd3 σ' ∧ SrcRel K ms3 H' src J ∧ forN src g body m (i + 1) σd3 S3 = some o,
        fun σ' H' w => ⟨m, Nat.lt_succ_self m, w⟩, fun x H' y => ?_⟩
      obtain ⟨g1, s1, r1⟩ := yl x H' y
      refine tg_ok g (rs.mono sr.muts g1) r1 e1 fun σ' r' => ?_
      refine hb s1 r' e2 ?_
      cases o1 with
      | nx σ3 S3 => exact fun σ4 H4 ms4 g4 s4 r4 => ⟨ms4, S3, σ3, gr.trans (g1.trans g4), s4, r4, sl.mono sr.muts (g1.trans g4), el⟩
      | ct σ3 S3 => exact fun σ4 H4 ms4 g4 s4 r4 => ⟨ms4, S3, σ3, gr.trans (g1.trans g4), s4, r4, sl.mono sr.muts (g1.trans g4), el⟩
      | bk σ3 S3 =>
        cases el
        exact fun σ4 H4 ms4 g4 s4 r4 => p σ4 H4 ms4 (gr.trans (g1.trans g4)) s4 r4
      | ret d3 S3 =>
        cases el
        exact fun v H4 ms4 g4 s4 r4 => p v H4 ms4 (gr.trans (g1.trans g4)) s4 r4
theorem while_turns {test : Sl → Store → Option (Bool × Store)} {body : Sl → Store → Option Out} {tc : TT} {tb : TS} {ms1 : List Addr} {S1 : Store} {H1 : Hp} {σd : Sl} {σ : L2.St} {o : Out} {D : Ends}
    (hc : ∀ {σd1 σ1 S H ms b S'} {Q : Bool → Hp → Prop}, SR K ms S H → RSt K H ms σd1 σ1 → test σd1 S = some (b, S') → PostT K ms H b S' Q → tc σ1 H Q)
    (hb : ∀ {σd1 σ1 S H ms o} {D : Ends}, SR K ms S H → RSt K H ms σd1 σ1 → body σd1 S = some o → PostS K ms H o D → tb D σ1 H)
    (h : SR K ms1 S1 H1) (r : RSt K H1 ms1 σd σ) (e : whileN test body LIM σd S1 = some o) (p : PostS K ms1 H1 o D) : tWhile tc tb D σ H1 := by
  refine ⟨fun m σ H => ∃ ms2 S2 σd2, Gr ms1 H1 ms2 H ∧ SR K ms2 S2 H ∧ RSt K H ms2 σd2 σ ∧ whileN test body m σd2 S2 = some o, ⟨LIM, ms1, S1, σd, Gr.refl _ _, h, r, e⟩, ?_⟩
  rintro m σ2 H ⟨ms2, S2, σd2, gr, sr, rs, el⟩
  cases m with
  | zero => simp [whileN] at el
  | succ m =>
    unfold whileN at el
    replace el := Option.bind_eq_some_iff.mp el
    obtain ⟨⟨b, S3⟩, e1, el⟩ := el
    refine hc sr rs e1 fun H3 ms3 g3 s3 => ?_
    cases b with
    | false =>
      rw [if_neg Bool.false_ne_true]
      simp only [Bool.false_eq_true, if_false] at el
      cases el
      exact p σ2 H3 ms3 (gr.trans g3) s3 (rs.mono sr.muts g3)
    | true =>
      rw [if_pos rfl]
      simp only [if_true] at el
      replace el := Option.bind_eq_some_iff.mp el
      obtain ⟨o1, e2, el⟩ := el
      refine ⟨fun σ' H' => ∃ ms4 S4 σd4, Gr ms1 H1 ms4 H' ∧ SR K ms4 S4 H' ∧ RSt K H' ms4 σd4 σ' ∧ whileN test body m σd4 S4 = some o, fun σ' H' w => ⟨m, Nat.lt_succ_self m, w⟩, ?_⟩
      refine hb s3 (rs.mono sr.muts g3) e2 ?_
      cases o1 with
      | nx σ3 S4 => exact fun σ4 H4 ms4 g4 s4 r4 => ⟨ms4, S4, σ3, gr.trans (g3.trans g4), s4, r4, el⟩
      | ct σ3 S4 => exact fun σ4 H4 ms4 g4 s4 r4 => ⟨ms4, S4, σ3, gr.trans (g3.trans g4), s4, r4, el⟩
      | bk σ3 S4 =>
        cases el
        exact fun σ4 H4 ms4 g4 s4 r4 => p σ4 H4 ms4 (gr.trans (g3.trans g4)) s4 r4
      | ret d3 S4 =>
        cases el
        exact fun v H4 ms4 g4 s4 r4 => p v H4 ms4 (gr.trans (g3.trans g4)) s4 r4
theorem evS_ok (G : Good K C Z) : ∀ (st : S) {σd : Sl} {σ : L2.St} {St : Store} {H : Hp} {ms : List Addr} {o : Out} {D : Ends}, SR K ms St H → RSt K H ms σd σ → evS C st σd St = some o → PostS K ms H o D → denS K C Z st D σ H
  | .asg g e, σd, σ, St, H, ms, o, D, h, r, ev, p => by
    simp only [evS] at ev
    replace ev := Option.bind_eq_some_iff.mp ev
    obtain ⟨x, e1, ev⟩ := ev
    obtain ⟨σ', e2, ev⟩ := Option.map_eq_some_iff.mp ev
    cases ev
    exact evE_ok G e h r e1 fun v H1 ms1 g1 s1 r1 => tg_ok g (r.mono h.muts g1) r1 e2 fun σ2 r2 => p σ2 H1 ms1 g1 s1 r2
  | .par i j a b, σd, σ, St, H, ms, o, D, h, r, ev, p => by
    simp only [evS] at ev
    replace ev := Option.bind_eq_some_iff.mp ev
    obtain ⟨x, e1, ev⟩ := ev
    obtain ⟨y, e2, ev⟩ := Option.map_eq_some_iff.mp ev
    cases ev
    exact evE_ok G a h r e1 fun v H1 ms1 g1 s1 r1 => evE_ok G b s1 (r.mono h.muts g1) e2 fun w H2 ms2 g2 s2 r2 =>
      ⟨v, w, rfl, p _ H2 ms2 (g1.trans g2) s2 (((r.mono h.muts (g1.trans g2)).set i (r1.mono s1.muts g2)).set j r2)⟩
  | .sub ob i e, σd, σ, St, H, ms, o, D, h, r, ev, p => by
    simp only [evS] at ev
    replace ev := Option.bind_eq_some_iff.mp ev
    obtain ⟨x, e1, ev⟩ := ev
    replace ev := Option.bind_eq_some_iff.mp ev
    obtain ⟨y, e2, ev⟩ := ev
    replace ev := Option.bind_eq_some_iff.mp ev
    obtain ⟨z, e3, ev⟩ := ev
    obtain ⟨S', e4, ev⟩ := Option.map_eq_some_iff.mp ev
    cases ev
    exact evE_ok G e h r e1 fun v H1 ms1 g1 s1 r1 => evE_ok G ob s1 (r.mono h.muts g1) e2 fun w H2 ms2 g2 s2 r2 => evE_ok G i s2 (r.mono h.muts (g1.trans g2)) e3 fun u H3 ms3 g3 s3 r3 =>
      sub_ok s3 (r2.mono s2.muts g3) r3 (r1.mono s1.muts (g2.trans g3)) e4 fun H4 g4 s4 => p σ H4 ms3 (((g1.trans g2).trans g3).trans g4) s4 (r.mono h.muts (((g1.trans g2).trans g3).trans g4))
  | .expr e, σd, σ, St, H, ms, o, D, h, r, ev, p => by
    simp only [evS] at ev
    obtain ⟨x, e1, ev⟩ := Option.map_eq_some_iff.mp ev
    cases ev
    exact evE_ok G e h r e1 fun v H1 ms1 g1 s1 r1 => p σ H1 ms1 g1 s1 (r.mono h.muts g1)
  | .ret e, σd, σ, St, H, ms, o, D, h, r, ev, p => by
    simp only [evS] at ev
    obtain ⟨x, e1, ev⟩ := Option.map_eq_some_iff.mp ev
    cases ev
    exact evE_ok G e h r e1 fun v H1 ms1 g1 s1 r1 => p v H1 ms1 g1 s1 r1
  | .retN, σd, σ, St, H, ms, o, D, h, r, ev, p => by
    simp only [evS] at ev
    cases ev
    exact p .non H ms (Gr.refl _ _) h .non
  | .ite t a b, σd, σ, St, H, ms, o, D, h, r, ev, p => by
    simp only [evS] at ev
    replace ev := Option.bind_eq_some_iff.mp ev
    obtain ⟨x, e1, ev⟩ := ev
    replace ev := Option.bind_eq_some_iff.mp ev
    obtain ⟨q, e2, ev⟩ := ev
    have ez := asB_some e2
    subst ez
    refine evT_ok G t h r e1 fun H1 ms1 g1 s1 => ?_
    split at ev
    · rename_i hq
      rw [if_pos hq]
      exact evS_ok G a s1 (r.mono h.muts g1) ev (p.after g1)
    · rename_i hq
      rw [if_neg hq]
      exact evS_ok G b s1 (r.mono h.muts g1) ev (p.after g1)
  | .for_ src g body, σd, σ, St, H, ms, o, D, h, r, ev, p => by
    simp only [evS] at ev
    replace ev := Option.bind_eq_some_iff.mp ev
    obtain ⟨x, e1, ev⟩ := ev
    exact evI_ok G src h r e1 fun J H1 ms1 g1 s1 sl => for_turns (body := _) (fun {σd1 σ1 S H ms o D} h r e p => evS_ok G body h r e p) s1 (r.mono h.muts g1) sl ev (p.after g1)
  | .while_ t body, σd, σ, St, H, ms, o, D, h, r, ev, p => by
    simp only [evS] at ev
    refine while_turns (test := _) (body := _) (fun {σd1 σ1 S H ms b S' Q} h r e p => ?_) (fun {σd1 σ1 S H ms o D} h r e p => evS_ok G body h r e p) h r ev p
    replace e := Option.bind_eq_some_iff.mp e
    obtain ⟨a1, e1, e2⟩ := e
    have ez := asB_some e2
    subst ez
    exact evT_ok G t h r e1 p
  | .seq a b, σd, σ, St, H, ms, o, D, h, r, ev, p => by
    simp only [evS] at ev
    replace ev := Option.bind_eq_some_iff.mp ev
    obtain ⟨o1, e1, ev⟩ := ev
    refine evS_ok G a h r e1 ?_
    cases o1 with
    | nx σ1 S1 => exact fun σ2 H2 ms2 g2 s2 r2 => evS_ok G b s2 r2 ev (p.after g2)
    | ret d S1 => cases ev; exact p
    | bk σ1 S1 => cases ev; exact p
    | ct σ1 S1 => cases ev; exact p
  | .skip, σd, σ, St, H, ms, o, D, h, r, ev, p => by
    simp only [evS] at ev
    cases ev
    exact p σ H ms (Gr.refl _ _) h r
  | .brk, σd, σ, St, H, ms, o, D, h, r, ev, p => by
    simp only [evS] at ev
    cases ev
    exact p σ H ms (Gr.refl _ _) h r
  | .cont, σd, σ, St, H, ms, o, D, h, r, ev, p => by
    simp only [evS] at ev
    cases ev
    exact p σ H ms (Gr.refl _ _) h r
end

/-! ### defs -/
/-- a def: how many slots, its body -/
structure Df where
  params : Nat
  slots : Nat
  body : S
/-- calls to a depth of n -/
def callN (defs : Nat → Df) (B : Bas) : Nat → Nat → Store → List D → Option (D × Store)
  | 0, _, _, _ => none
  | n + 1, f, S, ds => if ds.length = (defs f).params then match evS ⟨B, callN defs B n⟩ (defs f).body (ds.map some ++ List.replicate ((defs f).slots - ds.length) none) S with
      | some (.ret d S') => some (d, S')
      | some (.nx _ S') => some (.non, S')
      | _ => none
    else none
theorem start_ok {K : PySem.W.Frag} {H : Hp} {ms : List Addr} {ds : List D} {vs : List V} (r : Reps K H ms ds vs) (N : List Str) : RSt K H ms (ds.map some ++ List.replicate (N.length - ds.length) none) (L2.start N vs) := by
  unfold L2.start
  refine ⟨by simp [r.length], fun i d e => ?_⟩
  by_cases hi : i < ds.length
  · rw [List.getElem?_append_left (by simpa using hi)] at e
    rw [List.getElem?_map] at e
    obtain ⟨d', e1, e2⟩ := Option.map_eq_some_iff.mp e
    cases e2
    obtain ⟨v, h1, h2⟩ := r.get e1
    refine ⟨v, ?_, h2⟩
    rw [List.getElem?_append_left (by rw [List.length_map, ← r.length]; exact hi), List.getElem?_map, h1]
    rfl
  · rw [List.getElem?_append_right (by simpa using hi)] at e
    rw [List.getElem?_replicate] at e
    split at e <;> cases e
/-- a def's body keeps its promise -/
theorem body_ok {K : PySem.W.Frag} {defs : Nat → Df} {B : Bas} {Z : Ds} {n f : Nat} {N : List Str} (G : Good K ⟨B, callN defs B n⟩ Z) (hN : N.length = (defs f).slots) {vs : List V} {H : Hp} {Q : VK} {E : XK}
    (h : spOf K ⟨B, callN defs B (n + 1)⟩ f vs H Q E) : denS K ⟨B, callN defs B n⟩ Z (defs f).body { nx := fun _ H' => Q .non H', rt := Q } (L2.start N vs) H := by
  obtain ⟨ms, S, ds, d, S', sr, rr, e, p⟩ := h
  simp only [callN] at e
  split at e
  · split at e
    · rename_i d1 S1 ev
      cases e
      rw [← hN] at ev
      exact evS_ok G (defs f).body sr (start_ok rr N) ev fun v H' ms' g s r => p v H' ms' g s r
    · rename_i σ1 S1 ev
      cases e
      rw [← hN] at ev
      exact evS_ok G (defs f).body sr (start_ok rr N) ev fun σ H' ms' g s r => p .non H' ms' g s .non
    · cases e
  · cases e
end IP

namespace PySem
open PySem.AutoSeq1 (wpAny_loadPart')
def enT (h : Heap) (l : Addr) : Heap := (h.push { cls := .type "tuple_iterator", data := .fields #[.ref l, .int 0 0] })
def enT2 (h : Heap) (l : Addr) : Heap := (enT h l).push { cls := .type "enumerate", data := .fields #[.none, .bool false, .ref h.objs.size, rawInt 0, .none, .none] }
theorem meets_enumT (l : Addr) (items : Array Value) (n : Nat) (dct : Option Addr) (sl : Array (Option Value)) :
    Meets (Builtin.«enumerate.__new__» ⟨[.type "enumerate", .ref l], []⟩)
      (fun _ R s => s.heap.get? l = some { cls := .type "tuple", dict := dct, data := .seq items n, slots := sl } ∧ R (.ok (.ret (.ref (enT s.heap l).objs.size))) { s with heap := enT2 s.heap l }) :=
  .of_wp fun prog w A R s h => by
    obtain ⟨hp, g, d, tk, os⟩ := s
    obtain ⟨hl, h⟩ := h
    have q_ := sub_enumerate
    have hT : Heap.IsTuple (Shared.heap ⟨hp, g, d, tk, os⟩) l items := ⟨_, hl, rfl, n, rfl⟩
    wp_walk using wpAny_loadPart' hl
    refine wpAny_stack_any fun _ => wpAny_pure ?_
    split
    · rename_i c _ _ _ _ _
      cases (c == Value.type "enumerate") <;> (wp_walk using wpAny_loadPart' hl, wpAny_pyIter_tuple hT; exact ⟨_, rfl, h⟩)
    · wp_walk using wpAny_loadPart' hl, wpAny_pyIter_tuple hT
      exact ⟨_, rfl, h⟩
section
variable {prog : Program} {w : World} {A : Around} {E : Value → Shared → Prop} {s : Shared}
theorem call_enumT {l : Addr} {items : Array Value} {Q : Value → Shared → Prop} (hL : s.heap.IsTuple l items)
    (h : ∀ h', IsEnum h' (s.heap.objs.size + 1) s.heap.objs.size 0 .none → h'.IsTupleIter s.heap.objs.size l 0 → (∀ b o, s.heap.get? b = some o → h'.get? b = some o) → Q (.ref (s.heap.objs.size + 1)) { s with heap := h' }) :
    wpAny (model prog w) A (call (.type "enumerate") [.ref l]) Q E s := by
  obtain ⟨⟨c, dct, dt, sl⟩, hl, hc, n, hd⟩ := hL
  simp only at hc hd
  subst hc hd
  refine callType_new F.called_enumerate (by decide) (F.typeCall_enumerate_1 _) (F.newCall_enumerate_1 _) (fun obj => F.args_object_init_2 obj _) F.entry_enumerate_new (meets_enumT l items n dct sl) ⟨hl, ?_⟩
  have hz : (enT s.heap l).objs.size = s.heap.objs.size + 1 := Heap.size_push ..
  rw [hz]
  have he : IsEnum (enT2 s.heap l) (s.heap.objs.size + 1) s.heap.objs.size 0 .none := by
    have q := Heap.get?_push_size (enT s.heap l) (o := { cls := .type "enumerate", data := .fields #[.none, .bool false, .ref s.heap.objs.size, rawInt 0, .none, .none] }) rfl
    rw [hz] at q
    exact q
  exact ⟨⟨_, he, rfl⟩, h _ he ⟨_, Heap.get?_push_of_some _ (Heap.get?_push_size _ rfl), rfl, rfl⟩ fun b o x => Heap.get?_push_of_some _ (Heap.get?_push_of_some _ x)⟩
theorem next_enumT_end {e it l : Addr} {i : Nat} {items : Array Value} {old : Value} {Q : Option Value → Shared → Prop} (hh : A.handled = none) (he : IsEnum s.heap e it i old)
    (hit : s.heap.IsTupleIter it l i) (hl : s.heap.IsTuple l items) (hx : items[i]? = none) (hQ : ∀ h', Heap.ExtBut it s.heap h' → Q none { s with heap := h' }) : wpAny (model prog w) A (pyNext (.ref e)) Q E s := by
  have hT : s.TypeIs (.ref e) "enumerate" := ⟨_, he, rfl⟩
  unfold pyNext
  refine wpAny_bind (wpAny_attempt (wpAny_callSpecial?_slot (name := Str.ofString "__next__") hT F.slot_enumerate_next (wpAny_call_entry F.slot_enumerate_next hT F.entry_enumerate_next ?_ (F.args_enumerate_next_1 _))))
  show wpAny _ _ (field (.ref e) 2 >>= _) _ _ _
  refine wpAny_bind (wpAny_field he rfl (x := .ref it) rfl (wpAny_bind (RZ.nextOf_tuple_end hh hit hl hx fun h' x he' hx' => ?_)))
  obtain ⟨o, ho, hc⟩ := hx'
  exact wpAny_bind (wpAny_isInstance (T := "StopIteration") (b := true) ⟨o, ho, hc⟩ isSubtype_stop (wpAny_pure (hQ _ he')))
end
end PySem
namespace IP
open PySem PySem.Spec PyProof.Rows L2 RZ
theorem PI.or {X : Cx} {tg it : Expr} {w w' : TI} (h : PI X tg it w) (h' : PI X tg it w') : PI X tg it (fun σ H R => w σ H R ∨ w' σ H R) :=
  ⟨fun pins s σ H R I q => q.elim (fun q => h.run pins s σ H R I q) fun q => h'.run pins s σ H R I q⟩
theorem pi_seq {X : Cx} {tg e : Expr} {te : TE} (h : PE X e te) : PI X tg e (fun σ H R => iList X.K te σ H R ∨ iTup X.K te σ H R ∨ iStr te σ H R) := PI.or (pi_list h) (PI.or (pi_tup h) (pi_str h))
/-- enumerate over a tuple: one turn -/
theorem turn_enT {P : Program} {w : World} {K : PySem.W.Frag} {elts : List Expr} {kk : Nat} {tpos : Pos} (a e it : Addr) (hae : a ≠ e) (hai : a ≠ it) :
    Turn P w K (.Tuple elts kk tpos) (IteT K a) [e, it] e (fun i h => (∃ old, IsEnum h e it ((i : Nat) : Int) old) ∧ h.IsTupleIter it a i ∧ e ≠ it) where
  mem := List.mem_cons_self
  obj := by
    rintro i h ⟨⟨old, he⟩, ⟨o, ho, hc, hd⟩, _⟩ b hb
    rcases List.mem_cons.mp hb with rfl | hb
    · exact ⟨_, he, fun v q => nomatch q⟩
    · rw [List.mem_singleton] at hb
      subst hb
      exact ⟨o, ho, fun v q => by rw [hd] at q; cases q⟩
  keep := by
    rintro i h h' ⟨⟨old, he⟩, hi, hne⟩ k
    exact ⟨⟨old, k e List.mem_cons_self _ he⟩, hi.at fun o q => k it (List.mem_cons_of_mem _ List.mem_cons_self) o q, hne⟩
  item := by
    intro X hP hw hK hc i pins s σ H E I hf st hg
    subst hP hw hK
    obtain ⟨⟨old, he⟩, hit, hne⟩ := st
    obtain ⟨xs, x, hq, hx⟩ := hg
    obtain ⟨its, rv, p, hz⟩ := I.tuple hq
    obtain ⟨u, hu, ru⟩ := rv.get hx
    have pT : s.heap.IsTuple a its.toArray := p
    have hu' : its.toArray[i]? = some u := by simpa using hu
    have hlt : i < its.toArray.size := (Array.getElem?_eq_some_iff.mp hu').1
    have hel : e < s.heap.objs.size := Heap.lt_size he
    have hil : it < s.heap.objs.size := by obtain ⟨_, q, _⟩ := hit; exact Heap.lt_size q
    refine wpAny_pyNext_enum_itemD (Draws.tuple (A := X.A.in1) (I.ok.hd hc) it a hai its.toArray) he ⟨hit, pT⟩ hlt hne (by simp [hne, Ne.symm hae]) fun y h' tk hy ho st' hT hsz hk => ?_
    rw [hu'] at hy
    cases hy
    refine ⟨_, rfl, wpAny_letOwnedTupleGo_enum (s := { s with heap := h', toks := tk + 1 }) ho fun h2 he' sb => ?_⟩
    have hT2 : h2.get? s.heap.objs.size = some { cls := .type "tuple", data := .seq #[.int i tk, u] } := (sb.2 _ (Nat.ne_of_gt hel)).trans hT
    have new : ObjOk X.prog X.w (upd H s.heap.objs.size (.tup [.int (i : Nat), x])) h2 s.heap.objs.size (.tup [.int (i : Nat), x]) :=
      ⟨(by show 2 ≤ sizeLine; decide), [.int i tk, u], .cons ⟨_, rfl⟩ (.cons ru .nil), ⟨_, hT2, rfl, _, rfl⟩⟩
    have kp : ∀ b ob, b ∉ [e, it] → s.heap.get? b = some ob → h2.get? b = some ob := fun b ob hb q =>
      (sb.2 b (fun z => hb (by simp [z]))).trans (hk b ob (fun z => hb (by simp [z])) (fun z => hb (by simp [z])) q)
    have I1 : Inv X pins σ (upd H s.heap.objs.size (.tup [.int (i : Nat), x])) { s with heap := h2, toks := tk + 1 } := I.turnedNew (ch := [e, it]) kp hf (Nat.le_refl _) new
    have e1 : ((i + 1 : Nat) : Int) = (i : Int) + 1 := by omega
    refine ⟨.ref s.heap.objs.size, _, I1, rfl, ⟨_, x, rfl, I.hok.fresh (Nat.le_refl _), rfl, fun ys hy => ?_⟩, ⟨⟨u, by rw [e1]; exact he'⟩, st'.1.at fun o q => (sb.2 it (Ne.symm hne)).trans q, hne⟩, fun b hb => ?_⟩
    · obtain ⟨its2, rv2, p2, _⟩ := I.tuple hy
      obtain ⟨o1, q1, _, n1, d1⟩ := p
      obtain ⟨o2, q2, _, n2, d2⟩ := p2
      rw [q1] at q2
      cases q2
      rw [d1] at d2
      have ei : its = its2 := (by simpa using d2 : its = its2 ∧ n1 = n2).1
      subst ei
      rw [Vals.inj rv2 rv]
      exact hx
    · have hb' : b < s.heap.objs.size := by
        rcases List.mem_cons.mp hb with rfl | hb
        · exact hel
        · rw [List.mem_singleton] at hb
          subst hb
          exact hil
      rw [upd_ne (Nat.ne_of_lt hb')]
      exact (hf b hb).1
  done := by
    intro X hP hw hK hc i pins s σ H E I hf st hg
    subst hP hw hK
    obtain ⟨⟨old, he⟩, hit, hne⟩ := st
    obtain ⟨xs, hq, hx⟩ := hg
    obtain ⟨its, rv, p, hz⟩ := I.tuple hq
    have pT : s.heap.IsTuple a its.toArray := p
    obtain ⟨f0, f1, f2, f3, f4, f5⟩ := hf it (List.mem_cons_of_mem _ List.mem_cons_self)
    have hl := rv.length
    exact next_enumT_end (I.ok.hd hc) he hit pT (by simp; omega) fun h' eb => ⟨rfl, I.turned (t' := s.toks) (fun b o hb q => eb b o hb q) f0 f1 f3 f4 f5⟩
  self := fun A i s Q E st h => let ⟨⟨_, he⟩, _⟩ := st; wpAny_pyIter_enum he h
theorem pi_enT {X : Cx} {e : Expr} {ta : TA} {p pos tpos : Pos} {elts : List Expr} {kk : Nat} (hg : Gl X "enumerate") (hm : X.mg "enumerate" = none) (ha : PA X [e] ta) (hs : starEach [e] X.env = [(false, eval e X.env)] := by rfl) :
    PI X (.Tuple elts kk tpos) (.Call (.Name "enumerate" p) [e] [] pos) (iEnumT X.K ta) := by
  refine ⟨fun pins s σ H R I h => Call_ (ld_blt I hg hm boot_enumerate (PyProof.Rows.callWith_type1 (thn (ha.run pos pins s σ H _ I h) fun us s1 ⟨vs, H1, I1, r1, q1⟩ => ?_) hs rfl))⟩
  obtain ⟨a, xs, ex, hq, q⟩ := q1
  subst ex
  cases r1 with
  | cons r rr =>
    cases rr
    cases r
    obtain ⟨its, rv, p', hz⟩ := I1.tuple hq
    have pT : s1.heap.IsTuple a its.toArray := p'
    have ha : a < s1.heap.objs.size := by obtain ⟨o, ho, _⟩ := pT; exact Heap.lt_size ho
    refine call_enumT pT fun h' he hit hk => wpAny_pyIter_enum he ?_
    have I2 : Inv X pins σ H1 { s1 with heap := h' } := I1.kept (t' := s1.toks) hk
    refine ⟨s1.heap.objs.size + 1, [s1.heap.objs.size + 1, s1.heap.objs.size], _, _, H1, rfl, I2, turn_enT a (s1.heap.objs.size + 1) s1.heap.objs.size (Nat.ne_of_lt (Nat.lt_succ_of_lt ha)) (Nat.ne_of_lt ha), ⟨⟨.none, he⟩, hit, Nat.succ_ne_self _⟩, fun b hb => ?_, q⟩
    have hle : s1.heap.objs.size ≤ b := by
      rcases List.mem_cons.mp hb with rfl | hb
      · exact Nat.le_add_right _ _
      · rw [List.mem_singleton] at hb
        subst hb
        exact Nat.le_refl _
    exact I1.fpOk hle (I1.hok.fresh hle)
theorem pi_enumA {X : Cx} {e : Expr} {ta : TA} {p pos tpos : Pos} {elts : List Expr} {kk : Nat} (hg : Gl X "enumerate") (hm : X.mg "enumerate" = none) (ha : PA X [e] ta) (hs : starEach [e] X.env = [(false, eval e X.env)] := by rfl) :
    PI X (.Tuple elts kk tpos) (.Call (.Name "enumerate" p) [e] [] pos) (fun σ H R => iEnum X.K ta σ H R ∨ iEnumT X.K ta σ H R) := PI.or (pi_enum hg hm ha hs) (pi_enT hg hm ha hs)
end IP

namespace PySem.W
open PySem PySem.Spec PySem.Calls PyProof.Rows
section
variable {prog : Program} {w : World} {A : Around} {E : Value → Shared → Prop} {s : Shared} {K : Frag} {x D : Addr} {ox : Obj} {od : Option Obj}
theorem xk_obj {C : Addr} {name : Str} {a g : Value} (c0 : (clsIn K C).isSome = true) (h1 : findIn K (.ref C) name = some (some a)) (h2 : specialIn K a "__get__" = some (some g)) (h3 : takesIn K a = some true) : findObj K C od name = some (.bind g a) := by
  obtain ⟨cd, hc⟩ := Option.isSome_iff_exists.mp c0
  unfold findObj
  rw [hc, Option.bind_some, h1, Option.bind_some]
  simp [h2, h3]
theorem xk_cls {Q : Option Value → Shared → Prop} (h1 : findIn K (.ref D) "__getattribute__" = some (some (.builtin "BaseException.__getattribute__"))) (h2 : findIn K (.ref D) "__getattr__" = some none) (h3 : subIn K (.ref D) (.type "BaseException") = some true)
    (h4 : hasDictIn K D = true) (h5 : findIn K (.ref D) "__class__" = some (some (.builtin "object.__class__"))) (h6 : specialIn K (.builtin "object.__class__") "__get__" = some (some (.builtin "getset_descriptor.__get__")))
    (h7 : takesIn K (.builtin "object.__class__") = some true) (h8 : mroIn K D (.type "object") = some true) (X : K.In s.heap) (I : InstAt s.heap x ox D od) (h : Q (some (.ref D)) { s with toks := s.toks + 1 }) :
    wpAny (model prog w) A (getAttr? (.ref x) "__class__") Q E s := by
  have f0 : findObj K D od "__class__" = some (.bind (.builtin "getset_descriptor.__get__") (.builtin "object.__class__")) := xk_obj (by obtain ⟨cd, hc, _⟩ := any_some h4; rw [hc]; rfl) h5 h6 h7
  obtain ⟨hp, g, d, t, os⟩ := s
  have l0 := I.type (M := model prog w)
  have l1 := looks_findIn (M := model prog w) X h1
  have l2 := looks_findIn (M := model prog w) X h2
  have l3 := looks_find (M := model prog w) X I f0
  have sb : Looks (model prog w) hp (isInstance (.ref x) (.type "BaseException")) true := l0.andThen (looks_subIn X h3)
  have q1 : (Value.builtin "BaseException.__getattribute__" == Value.builtin "object.__getattribute__") = false := by decide +kernel
  have q2 : (onTheHeap (Value.ref D) && Value.builtin "BaseException.__getattribute__" == Value.builtin "object.__getattribute__") = false := by
    rw [q1]
    rfl
  unfold getAttr?
  unfold getAttrBy? getAttrBy
  refine wpAny_bind (wpAny_mkText (wpAny_bind (wpAny_attempt (wpAny_holding (wpAny_bind (l0.at (wpAny_bind (l1.at ?_))))))))
  show wpAny _ _ (if (onTheHeap (Value.ref D) && Value.builtin "BaseException.__getattribute__" == Value.builtin "object.__getattribute__") = true then _ else _) _ _ _
  rw [q2, if_neg Bool.false_ne_true]
  unfold getAttrByItsOwn
  unfold hookBefore
  refine wpAny_bind ?_
  rw [if_pos (show onTheHeap (Value.ref D) = true from rfl)]
  refine l2.at (wpAny_bind (wpAny_attempt (wpAny_holding ?_)))
  unfold callGetattribute
  rw [show (false && onTheHeap (Value.builtin "BaseException.__getattribute__")) = false from rfl, if_neg Bool.false_ne_true]
  unfold boundAndCalled
  rw [PySem.F.excAttr_ValueError.ga.bind (.ref x)]
  refine wpAny_bind (wpAny_pure ?_)
  show wpAny _ _ (call (.builtin "BaseException.__getattribute__") [.ref x, .str "__class__" t]) _ _ _
  refine wpAny_call (codeAny_call_builtin PySem.F.excAttr_ValueError.ga.plain PySem.F.entry_bexc_ga (@check_slot (model prog w) _ _ ⟨hp, g, d, t + 1, os⟩ "BaseException.__getattribute__" "BaseException" "__getattribute__" (.ref x) [.str "__class__" t] [] _
    (by decide +kernel) (by decide +kernel) sb (PySem.F.args_bexc_ga (.ref x) (.str "__class__" t)) ?_))
  unfold Builtin.«object.__getattribute__»
  refine wpAny_bind (wpAny_of_eq (a := ((Value.ref x : Value), [Value.str "__class__" t])) (by first | rfl | (simp only [slotArgs]; rfl)) (wpAny_bind (wpAny_pure (wpAny_bind (l0.at (wpAny_bind (l3.at ?_)))))))
  show wpAny _ _ (holding [Value.builtin "object.__class__"] (call (.builtin "getset_descriptor.__get__") [.builtin "object.__class__", .ref x, .ref D]) >>= ret) _ _ _
  refine wpAny_bind (wpAny_holding (wpAny_call (class_get (s := ⟨hp, g, d, t + 1, os⟩) (ox := ox) (od := od) X I h8 (wpAny_pure ?_))))
  show wpAny _ _ (handedOut (.ref D)) _ _ _
  rw [handedOut_of (v := .ref D) rfl]
  first
    | exact wpAny_pure (wpAny_pure h)
    | exact wpAny_pure h
    | exact wpAny_pure (wpAny_bind (wpAny_pure (wpAny_pure h)))
theorem xk_kit (h1 : findIn K (.ref D) "__getattribute__" = some (some (.builtin "BaseException.__getattribute__"))) (h2 : findIn K (.ref D) "__getattr__" = some none) (h3 : subIn K (.ref D) (.type "BaseException") = some true) (h4 : hasDictIn K D = true)
    (h5 : findIn K (.ref D) "__class__" = some (some (.builtin "object.__class__"))) (h6 : specialIn K (.builtin "object.__class__") "__get__" = some (some (.builtin "getset_descriptor.__get__"))) (h7 : takesIn K (.builtin "object.__class__") = some true)
    (h8 : mroIn K D (.type "object") = some true) : KitX K (.ref x) (.ref D) (fun h => InstAt h x ox D od) where
  ty := fun _ _ _ I => I.type
  it := fun _ _ X _ => by
    obtain ⟨cdD, hcD, _⟩ := any_some h4
    unfold clsIn at hcD
    split at hcD
    · rename_i ho
      intro _ _ _ _ k q
      unfold isType
      unfold loadHead
      exact wpAny_bind (wpAny_loadPart (k _ _ (X _ _ ho)) (wpAny_pure q))
    · cases hcD
  ne := fun h tp dd its n sl X htp => by
    obtain ⟨cdD, hcD, _⟩ := any_some h4
    refine Bool.eq_false_iff.mpr fun q => ?_
    obtain rfl : D = tp := Value.ref.inj (beq_iff_eq.mp q)
    unfold clsIn at hcD
    split at hcD
    · rename_i ho
      cases (X _ _ ho).symm.trans htp
    · cases hcD
  ca := fun X I k => xk_cls h1 h2 h3 h4 h5 h6 h7 h8 X I k
end
end PySem.W
namespace IP
open PySem PySem.Spec PyProof.Rows L2 RZ
theorem exObj_inst {P : Program} {w : World} {H : Hp} {h : Heap} {a C : Addr} (hok : HOk P w H h) (e : ExObj H a C) : ∃ oe od, PySem.W.InstAt h a oe C od := by
  rcases e with e | ⟨d, fs, e, ed⟩
  · obtain ⟨oe, vs, h1, h2, h3, _⟩ := (show ObjOk P w H h a (ExO (.ref C) a) from hok a _ e).1
    refine ⟨oe, none, h1, h2.1, by unfold PySem.W.notCls; rw [h3] <;> rfl, ?_⟩
    rw [h2.2]
    trivial
  · obtain ⟨t1, h1⟩ := exo_at hok e
    obtain ⟨mA, ⟨od, es, ep, h2, _⟩, _⟩ := exd_at hok ed
    exact ⟨_, some od, h1, rfl, rfl, h2⟩
theorem call_isX {X : Cx} : CallR X (.builtin "isinstance") (rIsX X.K) := by
  intro pins s σ H xs us Q I r h
  obtain ⟨a, C, c, u, b, rfl, ex, T, hc, e, q⟩ := h
  obtain ⟨u1, u2, rfl, r1, r2⟩ := vals2 r
  obtain rfl : u1 = Value.ref a := r1
  have e2 := hc.eq r2
  subst e2
  obtain ⟨oe, od, J⟩ := exObj_inst I.hok ex
  exact PySem.W.kia_one (PySem.W.xk_kit T.hg T.hk T.hs T.hd T.ha T.hn T.ht T.hm) I.kIn J e (fun z => nomatch z) fun tk => ⟨.bl b, H, I.tok tk, rfl, q⟩
theorem pe_xfld {X : Cx} {e : Expr} {te : TE} {pos : Pos} {n : Str} (he : PE X e te) (hb : attributeBase e n X.env (eval e X.env) = eval e X.env := by rfl) : PE X (.Attribute e n pos) (tXfld X.K te n) := by
  refine ⟨fun pins s σ H Q I h => attr_of hb (thn (he.run pins s σ H _ I h) fun u s1 hh => ?_)⟩
  obtain ⟨x, H1, I1, rx, a, C, d, fs, v, ex, ea, ed, T, hno, l, q⟩ := hh
  subst ex
  obtain rfl : u = Value.ref a := rx
  obtain ⟨t1, ha⟩ := exo_at I1.hok ea
  obtain ⟨mA, hns, hr⟩ := exd_at I1.hok ed
  obtain ⟨od, ho, hl⟩ := lookIn_ns hns
  obtain ⟨u, hu, ru⟩ := RelO.some_of (v := v) (o := mA n) (by rw [← l]; exact hr n)
  have J : PySem.W.InstAt s1.heap a _ C (some od) := ⟨ha, rfl, rfl, ho⟩
  exact HandSPX.exc_get I1.kIn J T.hg T.hk T.hs (PySem.W.findObj_own T.hd hno rfl (by rw [hl, hu])) (handed_of ru) ⟨v, H1, I1.tok _, ru, q⟩
/-- C(e, ..) as a value, C's own __init__ keeping sp -/
def rMkI (C : Addr) (sp : Sp) : RL := fun vs H1 Q => vs.length ≤ 1000 ∧ ∀ a, H1 a = none → sp (.ref a :: vs) (upd H1 a (exo a C none)) (fun v H2 => v = .non ∧ Q (.ref a) H2) (fun _ _ _ => False)
theorem pe_mkI {X : Cx} {x : Str} {C fI : Addr} {k : Nat} {fd : FuncData} {ps : List Str} {sp : Sp} {e : Expr} {es : List Expr} {ta : TA} {p pos : Pos} (T : OexC X.K C) (iC : PySem.W.findIn X.K (.ref C) "__init__" = some (some (.ref fI)))
    (tI : PySem.W.typeIn X.K (.ref fI) = some (.type "function")) (F1 : FnOk X.prog X.w X.K X.mg X.base CX0 k fI fd ps sp) (hr : Room (k + 1) X.A) (hb : Binds X.K fd ps []) (hg : Gl X x) (hm : X.mg x = some (.ref C)) (ha : PA X (e :: es) ta)
    (hdb : (x == ("__debug__" : Str)) = false := by decide) (he : starEach (e :: es) X.env = (false, eval e X.env) :: starEach es X.env := by rfl) (hpl : (backTo pos (starEach es X.env)).any (·.1) = false := by rfl) :
    PE X (.Call (.Name x p) (e :: es) [] pos) (fun σ H Q => ta σ H fun vs H1 => rMkI C sp vs H1 Q) := by
  refine ⟨fun pins s σ H Q I h => ?_⟩
  obtain ⟨nm, q, N, bs, bm, sn, sub, ab, col, dd, k0, k1, k2, k3, k5, hC, hbm⟩ := T.cls
  refine wpAny_Call_Name_kw (ld_glob I hg hm ?_ hdb)
  refine PySem.W.callWith_K (h₀ := X.base) I.ok.mod.kin T.kC (thn (ha.run pos pins s σ H _ I h) fun us s1 ⟨vs, H1, I1, r1, hz, q1⟩ => ⟨I1.kIn, ?_⟩) he hpl
  show wpAny _ _ (call (.ref C) us) _ _ _
  obtain ⟨hp, g, dr, tk, os⟩ := s1
  have hsz : hp.objs.size ≤ hp.objs.size + 1 := Nat.le_succ _
  have hn : H1 (hp.objs.size + 1) = none := I1.hok.fresh hsz
  have hq := q1 (hp.objs.size + 1) hn
  have kk : ∀ b o, hp.get? b = some o → ((hp.push (PySem.W.kdv_tup us)).push (PySem.HandSPX.excO C hp.objs.size)).get? b = some o := fun b o e => Heap.get?_push_of_some _ (Heap.get?_push_of_some _ e)
  have hget : ((hp.push (PySem.W.kdv_tup us)).push (PySem.HandSPX.excO C hp.objs.size)).get? (hp.objs.size + 1) = some (PySem.HandSPX.excO C hp.objs.size) := by heap_get
  have I2 : Inv X pins σ (upd H1 (hp.objs.size + 1) (exo (hp.objs.size + 1) C none)) ⟨(hp.push (PySem.W.kdv_tup us)).push (PySem.HandSPX.excO C hp.objs.size), g, dr, tk, os⟩ :=
    I1.laid (t' := tk) (a := hp.objs.size + 1) (o := exo (hp.objs.size + 1) C none) (h' := (hp.push (PySem.W.kdv_tup us)).push (PySem.HandSPX.excO C hp.objs.size)) kk hsz (exo_ok hget)
  have r2 : Vals (V.ref (hp.objs.size + 1) :: vs) (Value.ref (hp.objs.size + 1) :: us) := .cons rfl r1
  have hl : (Value.ref (hp.objs.size + 1) :: us).length = ps.length := by
    rw [← r2.length]
    exact F1.len _ _ _ _ hq
  have hus : us.length ≤ sizeLine := by
    rw [← Paired.length r1, sizeLine_eq]
    omega
  have hb2 := hb ⟨(hp.push (PySem.W.kdv_tup us)).push (PySem.HandSPX.excO C hp.objs.size), g, dr, tk, os⟩ (Value.ref (hp.objs.size + 1) :: us) I2.kIn (by simpa using hl)
  rw [List.append_nil] at hb2
  refine wpAny_call (PySem.HandSPX.call_own F.excBase_ValueError (fun Y => PySem.HandSPX.refsVE_contains Y bm hbm) (I1.kIn _ _ hC) (PySem.W.looks_findIn I1.kIn iC) (fun self => PySem.W.bind_fn I1.kIn self tI) hus
    (codeAny_mono (F1.run _ X.stack _ _ ⟨Value.ref (hp.objs.size + 1) :: us, []⟩ (Value.ref (hp.objs.size + 1) :: us) _ _ (fun _ _ _ => False) (hr.make C us []) (I2.env0.make C us []) hb2 r2 hq) fun r s' hq' => ?_))
  cases r with
  | error er => exact hq'.elim
  | ok fl =>
    cases fl with
    | ret u =>
      obtain ⟨v, H2, I3, rv, ev, q2⟩ := I2.after hq'
      subst ev
      exact ⟨rv, .ref (hp.objs.size + 1), H2, I3, rfl, q2⟩
    | next => exact False.elim hq'
    | brk => exact False.elim hq'
    | cont => exact False.elim hq'
/-- C(e) as a value, C without an own __init__ -/
def rMk0 (C : Addr) : RL := fun vs H1 Q => ∃ v, vs = [v] ∧ ∀ a, H1 a = none → Q (.ref a) (upd H1 a (ExO (.ref C) a))
theorem pe_mk0 {X : Cx} {C : Addr} {bmB : List Value} {B newId initId : String} {x : Str} {e : Expr} {te : TE} {p pos : Pos} (F : ExcBaseFacts B newId initId bmB) (q : PySem.W.excIn X.K C bmB newId = true) (gC : X.mg x = some (.ref C)) (kC : PySem.W.keepIn X.K (.ref C) = true) (hg : Gl X x)
    (he : PE X e te) (hs : starEach [e] X.env = (false, eval e X.env) :: starEach [] X.env := by rfl) (hdb : (x == ("__debug__" : Str)) = false := by decide) :
    PE X (.Call (.Name x p) [e] [] pos) (fun σ H Q => tCons te tNil σ H fun vs H1 => rMk0 C vs H1 Q) := by
  have he' : PE X e (fun σ H Q => te σ H fun v H1 => Q v H1) := he
  have M := pe_exc1 (p := p) (pos := pos) F q gC kC hg (ta := fun σ H Q => ∃ R : VK, te σ H R ∧ ∀ v H1, R v H1 → Q v H1) ⟨fun pins s σ H Q I h => by
    obtain ⟨R, h1, h2⟩ := h
    exact thn (he.run pins s σ H R I h1) fun u s1 ⟨v, H1, I1, r1, q1⟩ => ⟨v, H1, I1, r1, h2 v H1 q1⟩⟩ hs hdb
  refine ⟨fun pins s σ H Q I h => M.run pins s σ H Q I ⟨_, h, fun v H1 z => ?_⟩⟩
  obtain ⟨v', ev, z⟩ := z
  exact z
/-- LotError.__init__(self, ..) where nothing of it is told -/
theorem pe_clsinit {X : Cx} {x : Str} {e : Expr} {es : List Expr} {ta : TA} {CL : Addr} {p1 p2 pos : Pos} {pl : Sem Bool} {mc : Value} (hg : Gl X x) (hm : X.mg x = some (.ref CL))
    (hga : PySem.W.specialIn X.K (.ref CL) "__getattribute__" = some (some (.builtin "type.__getattribute__"))) (hrd : PySem.W.readsIn X.K CL mc = true) (vV : PySem.W.findCls X.K (.ref CL) mc "__init__" = some (.val (.builtin "ValueError.__init__"))) (ha : PA X (e :: es) ta)
    (hdb : (x == ("__debug__" : Str)) = false := by decide)
    (hc : eval (.Call (.Attribute (.Name x p1) "__init__" p2) (e :: es) [] pos) X.env = (do
      let ov ← eval (.Name x p1) X.env
      standAt p2.atName
      let (f, first) ← holding [ov] (getMethod ov "__init__" pl)
      callWith pos f first (backTo pos (starEach (e :: es) X.env)) (backToKw pos (keywordEach [] X.env))) := by rfl)
    (he : starEach (e :: es) X.env = (false, eval e X.env) :: starEach es X.env := by rfl) (hpl : (backTo pos (starEach es X.env)).any (·.1) = false := by rfl) :
    PE X (.Call (.Attribute (.Name x p1) "__init__" p2) (e :: es) [] pos) (tVeI X.K ta) := by
  refine ⟨fun pins s σ H Q I h => ?_⟩
  refine PySem.W.methodCall_KW (ld_glob I hg hm ?_ hdb) hc
  refine PySem.W.method_cls I.kIn hga (PySem.W.cls_value I.kIn hrd vV (by rfl) ?_)
  show wpAny _ _ (callWith pos (Value.builtin "ValueError.__init__") [] (backTo pos (starEach (e :: es) X.env)) []) _ _ _
  refine PyProof.Rows.callWith_method1 (thn (ha.run pos pins _ σ H _ (I.tok _) h) fun us s1 ⟨vs, H1, I1, r1, a, C, ws, ev, hl, T, ea, q⟩ => ?_) he hpl
  subst ev
  cases r1 with
  | @cons _ u0 _ ur ra rw' =>
    obtain rfl : u0 = Value.ref a := ra
    have hlen : ur.length ≤ sizeLine := by
      rw [← Paired.length rw', sizeLine_eq]
      omega
    exact oinit_ok T I1 ea hlen fun s' J => ⟨.non, H1, J, rfl, q⟩
end IP

namespace IP
open PySem PySem.Spec PyProof.Rows L2 RZ
theorem pe_globE {X : Cx} {x : Str} {v : V} {f : Tok → Value} {pos : Pos} (hg : Gl X x) (hm : ∃ t, X.mg x = some (f t)) (r : ∀ t, RelV v (f t) := by intro t; exact ⟨t, rfl⟩) (hd : (x == ("__debug__" : Str)) = false := by decide) : PE X (.Name x pos) (tC v) := by
  obtain ⟨t, h⟩ := hm
  exact pe_glob hg h (r t) hd
/-! ### exceptions with fields: what is handed in, what stands behind __init__ -/
def okI (i : Int) : Bool := decide (i.natAbs.log2 < 1920) && decide (((toString i : String) : Str).length ≤ 1000)
def fII (f g : Str) : List V → Option (List (Str × V))
  | [.int i, .int j] => if okI i && okI j then some [(f, .int j), (g, .int i)] else none
  | _ => none
def fI (f : Str) : List V → Option (List (Str × V))
  | [.int i] => if okI i then some [(f, .int i)] else none
  | _ => none
def fS (f : Str) : List V → Option (List (Str × V))
  | [.str s] => if s.length ≤ 1000 then some [(f, .str s)] else none
  | _ => none
def fA (f : Str) : List V → Option (List (Str × V))
  | [x] => some [(f, x)]
  | _ => none
def dII (f g : Str) : List D → Option (List Str × List D)
  | [.int i, .int j] => if okI i && okI j then some ([f, g], [.int j, .int i]) else none
  | _ => none
def dI (f : Str) : List D → Option (List Str × List D)
  | [.int i] => if okI i then some ([f], [.int i]) else none
  | _ => none
def dS (f : Str) : List D → Option (List Str × List D)
  | [.str s] => if s.length ≤ 1000 then some ([f], [.str s]) else none
  | _ => none
def dA (f : Str) : List D → Option (List Str × List D)
  | [x] => some ([f], [x])
  | _ => none
def dN : List D → Option (List Str × List D)
  | [_] => some ([], [])
  | _ => none
def spInit (C : Addr) (f : List V → Option (List (Str × V))) : Sp := fun vs H Q _ => ∃ a ws fs, vs = .ref a :: ws ∧ f ws = some fs ∧ H a = some (exo a C none) ∧
  ∀ d H', H d = none → d ≠ a → H' a = some (exo a C (some d)) → H' d = some (exd d fs) → (∀ b o, H b = some o → b ≠ a → H' b = some o) → Q .non H'
theorem spInit_len {C : Addr} {f : List V → Option (List (Str × V))} {vs : List V} {H : Hp} {Q : VK} {E : XK} {n : Nat} (h : spInit C f vs H Q E) (hl : ∀ ws fs, f ws = some fs → ws.length + 1 = n) : vs.length = n := by
  obtain ⟨a, ws, fs, rfl, hf, _⟩ := h
  exact hl ws fs hf
theorem ex_fII {f g : Str} {ws : List V} {fs : List (Str × V)} (e : fII f g ws = some fs) : ∃ i j, ws = [.int i, .int j] ∧ okI i = true ∧ okI j = true ∧ fs = [(f, .int j), (g, .int i)] := by
  unfold fII at e
  split at e
  · split at e
    · rename_i h
      rw [Bool.and_eq_true] at h
      cases e
      exact ⟨_, _, rfl, h.1, h.2, rfl⟩
    · cases e
  · cases e
theorem ex_fI {f : Str} {ws : List V} {fs : List (Str × V)} (e : fI f ws = some fs) : ∃ i, ws = [.int i] ∧ okI i = true ∧ fs = [(f, .int i)] := by
  unfold fI at e
  split at e
  · split at e
    · cases e
      exact ⟨_, rfl, by assumption, rfl⟩
    · cases e
  · cases e
theorem ex_fS {f : Str} {ws : List V} {fs : List (Str × V)} (e : fS f ws = some fs) : ∃ i, ws = [.str i] ∧ i.length ≤ 1000 ∧ fs = [(f, .str i)] := by
  unfold fS at e
  split at e
  · split at e
    · cases e
      exact ⟨_, rfl, by assumption, rfl⟩
    · cases e
  · cases e
theorem ex_fA {f : Str} {ws : List V} {fs : List (Str × V)} (e : fA f ws = some fs) : ∃ i, ws = [i] ∧ fs = [(f, i)] := by
  unfold fA at e
  split at e
  · cases e
    exact ⟨_, rfl, rfl⟩
  · cases e
theorem len_fII {f g : Str} {ws : List V} {fs : List (Str × V)} (e : fII f g ws = some fs) : ws.length + 1 = 3 := by
  obtain ⟨_, _, rfl, _⟩ := ex_fII e
  rfl
theorem len_fI {f : Str} {ws : List V} {fs : List (Str × V)} (e : fI f ws = some fs) : ws.length + 1 = 2 := by
  obtain ⟨_, rfl, _⟩ := ex_fI e
  rfl
theorem len_fS {f : Str} {ws : List V} {fs : List (Str × V)} (e : fS f ws = some fs) : ws.length + 1 = 2 := by
  obtain ⟨_, rfl, _⟩ := ex_fS e
  rfl
theorem len_fA {f : Str} {ws : List V} {fs : List (Str × V)} (e : fA f ws = some fs) : ws.length + 1 = 2 := by
  obtain ⟨_, rfl, _⟩ := ex_fA e
  rfl
/-- the parts of a message: what it says doesn't matter -/
def TxtR (t : TE) (σ : L2.St) (H : Hp) : Prop := ∃ y : Str, y.length ≤ 1000 ∧ ∀ Q : VK, Q (.str y) H → t σ H Q
theorem str_len_app (a b : Str) : (a ++ b).length = a.length + b.length := by
  show (a.cps ++ b.cps).size = a.cps.size + b.cps.size
  exact Array.size_append
theorem js_any {σ : L2.St} {H : Hp} {Q : Str → Hp → Prop} (q : ∀ out, Q out H) : ∀ (ts : List TE) (acc : Str), (∀ t ∈ ts, TxtR t σ H) → acc.length + 1000 * ts.length ≤ sizeLine → tJs ts acc σ H Q
  | [], acc, _, _ => q acc
  | t :: ts, acc, h, hl => by
    obtain ⟨y, hy, k⟩ := h t List.mem_cons_self
    rw [List.length_cons] at hl
    have e := str_len_app acc y
    refine k _ ⟨y, rfl, by omega, js_any q ts (acc ++ y) (fun u hu => h u (List.mem_cons_of_mem _ hu)) (by omega)⟩
theorem js_room {ts : List TE} (hl : ts.length ≤ 10) : Str.empty.length + 1000 * ts.length ≤ sizeLine := by
  have h : (10000 : Nat) ≤ sizeLine := by decide
  have e : Str.empty.length = 0 := rfl
  omega
theorem txt_c {y : Str} {σ : L2.St} {H : Hp} (h : y.length ≤ 1000) : TxtR (tC (.str y)) σ H := ⟨y, h, fun _ q => q⟩
theorem txt_i {i : Int} {k : Nat} {σ : L2.St} {H : Hp} (h : σ[k]? = some (some (.int i))) (hi : okI i = true) : TxtR (tFmt (tVar k)) σ H := by
  unfold okI at hi
  rw [Bool.and_eq_true, decide_eq_true_eq, decide_eq_true_eq] at hi
  exact ⟨_, hi.2, fun _ q => ⟨_, h, .inr ⟨i, rfl, hi.1, q⟩⟩⟩
theorem txt_s {i : Str} {k : Nat} {σ : L2.St} {H : Hp} (h : σ[k]? = some (some (.str i))) (hi : i.length ≤ 1000) : TxtR (tFmt (tVar k)) σ H :=
  ⟨i, hi, fun _ q => ⟨_, h, .inl ⟨i, rfl, Nat.le_trans hi (by decide), q⟩⟩⟩
/-- self.f = x, the first field -/
theorem rd_ost1 {K : PySem.W.Frag} {C a : Addr} {f : Str} {i : Nat} {y : V} {σ : L2.St} {H : Hp} {D : Ends} (T : OexC K C) (hn : PySem.W.findIn K (.ref C) f = some none) (h0 : σ[0]? = some (some (.ref a))) (hi : σ[i]? = some (some y)) (hH : H a = some (exo a C none))
    (k : ∀ d, H d = none → d ≠ a → D.nx σ (upd (upd H d (exd d [(f, y)])) a (exo a C (some d)))) : tOst K f (tVar 0) (tVar i) D σ H :=
  ⟨y, hi, .ref a, h0, a, C, rfl, T, hn, .inl ⟨hH, k⟩⟩
theorem rd_ost2 {K : PySem.W.Frag} {C a d : Addr} {f : Str} {i : Nat} {y : V} {fs : List (Str × V)} {σ : L2.St} {H : Hp} {D : Ends} (T : OexC K C) (hn : PySem.W.findIn K (.ref C) f = some none) (h0 : σ[0]? = some (some (.ref a))) (hi : σ[i]? = some (some y))
    (hH : H a = some (exo a C (some d))) (hd : H d = some (exd d fs)) (hl : fs.length ≤ 900) (k : D.nx σ (upd H d (exd d ((f, y) :: fs)))) : tOst K f (tVar 0) (tVar i) D σ H :=
  ⟨y, hi, .ref a, h0, a, C, rfl, T, hn, .inr ⟨d, fs, hH, hd, hl, k⟩⟩
theorem rd_ve {K : PySem.W.Frag} {C a : Addr} {te : TE} {σ : L2.St} {H : Hp} {D : Ends} (T : OexC K C) (h0 : σ[0]? = some (some (.ref a))) (hH : H a = some (exo a C none)) (ht : ∀ {Q : VK}, (∀ x, Q x H) → te σ H Q) (k : D.nx σ H) :
    tDrop (tVeI K (tCons (tVar 0) (tCons te tNil))) D σ H := ⟨.ref a, h0, ht fun x => ⟨a, C, [x], rfl, by show 1 ≤ 1000; decide, T, hH, k⟩⟩
def tJoined (ts : List TE) : TE := fun σ H Q => tJs ts Str.empty σ H fun out H1 => Q (.str out) H1
theorem rd_fII {K : PySem.W.Frag} {C a : Addr} {f g c1 c2 c3 : Str} {ws : List V} {fs : List (Str × V)} {H : Hp} {Q : VK} {N : List Str} (T : OexC K C) (ng : PySem.W.findIn K (.ref C) g = some none) (nf : PySem.W.findIn K (.ref C) f = some none)
    (hf : fII f g ws = some fs) (hH : H a = some (exo a C none)) (k : ∀ d H', H d = none → d ≠ a → H' a = some (exo a C (some d)) → H' d = some (exd d fs) → (∀ b o, H b = some o → b ≠ a → H' b = some o) → Q .non H')
    (l1 : c1.length ≤ 1000 := by decide +kernel) (l2 : c2.length ≤ 1000 := by decide +kernel) (l3 : c3.length ≤ 1000 := by decide +kernel) (hN : N.length = 3 := by rfl) :
    tSeq (tDrop (tVeI K (tCons (tVar 0) (tCons (tJoined [tC (.str c1), tFmt (tVar 1), tC (.str c2), tFmt (tVar 2), tC (.str c3)]) tNil)))) (tSeq (tOst K g (tVar 0) (tVar 1)) (tOst K f (tVar 0) (tVar 2))) { nx := fun _ H' => Q .non H', rt := Q } (L2.start N (.ref a :: ws)) H := by
  obtain ⟨i, j, rfl, hi, hj, rfl⟩ := ex_fII hf
  have e0 : (L2.start N [V.ref a, .int i, .int j])[0]? = some (some (.ref a)) := by unfold L2.start; rw [hN]; rfl
  have e1 : (L2.start N [V.ref a, .int i, .int j])[1]? = some (some (.int i)) := by unfold L2.start; rw [hN]; rfl
  have e2 : (L2.start N [V.ref a, .int i, .int j])[2]? = some (some (.int j)) := by unfold L2.start; rw [hN]; rfl
  refine rd_ve T e0 hH (fun {Q} q => js_any (fun out => q _) _ _ ?_ (by show 0 + 1000 * 5 ≤ sizeLine; decide)) ?_
  · intro t ht
    simp only [List.mem_cons, List.not_mem_nil, or_false] at ht
    rcases ht with rfl | rfl | rfl | rfl | rfl
    · exact txt_c l1
    · exact txt_i e1 hi
    · exact txt_c l2
    · exact txt_i e2 hj
    · exact txt_c l3
  · refine rd_ost1 T ng e0 e1 hH fun d hd ne => ?_
    refine rd_ost2 (d := d) (fs := [(g, .int i)]) T nf e0 e2 upd_same (by rw [upd_ne ne, upd_same]) (by show 1 ≤ 900; decide) ?_
    refine k d _ hd ne ?_ upd_same fun b o hb hne => ?_
    · rw [upd_ne (Ne.symm ne), upd_same]
    · have hbd : b ≠ d := ne_of_none hb hd
      rw [upd_ne hbd, upd_ne hne, upd_ne hbd]
      exact hb
theorem rd_one {K : PySem.W.Frag} {C a : Addr} {f : Str} {y : V} {H : Hp} {Q : VK} {N : List Str} {te : TE} (T : OexC K C) (nf : PySem.W.findIn K (.ref C) f = some none) (hH : H a = some (exo a C none))
    (k : ∀ d H', H d = none → d ≠ a → H' a = some (exo a C (some d)) → H' d = some (exd d [(f, y)]) → (∀ b o, H b = some o → b ≠ a → H' b = some o) → Q .non H') (hN : N.length = 2) (ht : ∀ {Q : VK}, (∀ x, Q x H) → te (L2.start N [.ref a, y]) H Q) :
    tSeq (tDrop (tVeI K (tCons (tVar 0) (tCons te tNil)))) (tOst K f (tVar 0) (tVar 1)) { nx := fun _ H' => Q .non H', rt := Q } (L2.start N [.ref a, y]) H := by
  have e0 : (L2.start N [V.ref a, y])[0]? = some (some (.ref a)) := by unfold L2.start; rw [hN]; rfl
  have e1 : (L2.start N [V.ref a, y])[1]? = some (some y) := by unfold L2.start; rw [hN]; rfl
  refine rd_ve T e0 hH ht (rd_ost1 T nf e0 e1 hH fun d hd ne => k d _ hd ne upd_same (by rw [upd_ne ne, upd_same]) fun b o hb hne => ?_)
  rw [upd_ne hne, upd_ne (ne_of_none hb hd)]
  exact hb
theorem rd_fI {K : PySem.W.Frag} {C a : Addr} {f : Str} {ts : List TE} {ws : List V} {fs : List (Str × V)} {H : Hp} {Q : VK} {N : List Str} (T : OexC K C) (nf : PySem.W.findIn K (.ref C) f = some none)
    (hf : fI f ws = some fs) (hH : H a = some (exo a C none)) (k : ∀ d H', H d = none → d ≠ a → H' a = some (exo a C (some d)) → H' d = some (exd d fs) → (∀ b o, H b = some o → b ≠ a → H' b = some o) → Q .non H')
    (hts : ∀ t ∈ ts, t = tFmt (tVar 1) ∨ ∃ c : Str, t = tC (.str c) ∧ c.length ≤ 1000 := by intro t ht; simp only [List.mem_cons, List.not_mem_nil, or_false] at ht; rcases ht with rfl | rfl | rfl | rfl <;> first | exact .inl rfl | exact .inr ⟨_, rfl, by decide +kernel⟩) (hl : ts.length ≤ 10 := by decide) (hN : N.length = 2 := by rfl) :
    tSeq (tDrop (tVeI K (tCons (tVar 0) (tCons (tJoined ts) tNil)))) (tOst K f (tVar 0) (tVar 1)) { nx := fun _ H' => Q .non H', rt := Q } (L2.start N (.ref a :: ws)) H := by
  obtain ⟨i, rfl, hi, rfl⟩ := ex_fI hf
  refine rd_one T nf hH k hN fun {Q} q => js_any (fun out => q _) _ _ (fun t ht => ?_) (js_room hl)
  rcases hts t ht with rfl | ⟨c, rfl, hc⟩
  · exact txt_i (by unfold L2.start; rw [hN]; rfl) hi
  · exact txt_c hc
theorem rd_fS {K : PySem.W.Frag} {C a : Addr} {f : Str} {ts : List TE} {ws : List V} {fs : List (Str × V)} {H : Hp} {Q : VK} {N : List Str} (T : OexC K C) (nf : PySem.W.findIn K (.ref C) f = some none)
    (hf : fS f ws = some fs) (hH : H a = some (exo a C none)) (k : ∀ d H', H d = none → d ≠ a → H' a = some (exo a C (some d)) → H' d = some (exd d fs) → (∀ b o, H b = some o → b ≠ a → H' b = some o) → Q .non H')
    (hts : ∀ t ∈ ts, t = tFmt (tVar 1) ∨ ∃ c : Str, t = tC (.str c) ∧ c.length ≤ 1000 := by intro t ht; simp only [List.mem_cons, List.not_mem_nil, or_false] at ht; rcases ht with rfl | rfl | rfl | rfl <;> first | exact .inl rfl | exact .inr ⟨_, rfl, by decide +kernel⟩) (hl : ts.length ≤ 10 := by decide) (hN : N.length = 2 := by rfl) :
    tSeq (tDrop (tVeI K (tCons (tVar 0) (tCons (tJoined ts) tNil)))) (tOst K f (tVar 0) (tVar 1)) { nx := fun _ H' => Q .non H', rt := Q } (L2.start N (.ref a :: ws)) H := by
  obtain ⟨i, rfl, hi, rfl⟩ := ex_fS hf
  refine rd_one T nf hH k hN fun {Q} q => js_any (fun out => q _) _ _ (fun t ht => ?_) (js_room hl)
  rcases hts t ht with rfl | ⟨c, rfl, hc⟩
  · exact txt_s (by unfold L2.start; rw [hN]; rfl) hi
  · exact txt_c hc
theorem rd_fA {K : PySem.W.Frag} {C a : Addr} {f c : Str} {ws : List V} {fs : List (Str × V)} {H : Hp} {Q : VK} {N : List Str} (T : OexC K C) (nf : PySem.W.findIn K (.ref C) f = some none)
    (hf : fA f ws = some fs) (hH : H a = some (exo a C none)) (k : ∀ d H', H d = none → d ≠ a → H' a = some (exo a C (some d)) → H' d = some (exd d fs) → (∀ b o, H b = some o → b ≠ a → H' b = some o) → Q .non H') (hN : N.length = 2 := by rfl) :
    tSeq (tDrop (tVeI K (tCons (tVar 0) (tCons (tC (.str c)) tNil)))) (tOst K f (tVar 0) (tVar 1)) { nx := fun _ H' => Q .non H', rt := Q } (L2.start N (.ref a :: ws)) H := by
  obtain ⟨i, rfl, rfl⟩ := ex_fA hf
  exact rd_one T nf hH k hN fun {Q} q => q _
/-! ### made as values -/
section
variable {K : PySem.W.Frag} {H : Hp} {ms : List Addr} {S : Store}
theorem SR.keep (h : SR K ms S H) {H' : Hp} (k : ∀ b o, H b = some o → H' b = some o) : SR K ms S H' := by
  have g : Gr ms H ms H' := ⟨⟨[], by simp, by simp⟩, fun a o _ e => k a o e⟩
  exact ⟨h.len, h.nd, fun n a o e1 e2 => by
    obtain ⟨w, hw, r⟩ := h.ob n a o e1 e2
    exact ⟨w, k _ _ hw, r.mono h.muts g⟩⟩
theorem mkI_ok {C : Addr} {f : List V → Option (List (Str × V))} {vs ws : List V} {ns : List Str} {xs : List D} {Q : VK} (h : SR K ms S H) (hf : f vs = some (ns.zip ws)) (hl : vs.length ≤ 1000) (r : Reps K H ms xs ws) (p : Post K ms H (.exc C ns xs) S Q) : rMkI C (spInit C f) vs H Q :=
  ⟨hl, fun a ha => ⟨a, vs, ns.zip ws, rfl, hf, upd_same, fun d H' hd ne h1 h2 k => by
    have k' : ∀ b o, H b = some o → H' b = some o := fun b o e => k b o (by rw [upd_ne (ne_of_none e ha)]; exact e) (ne_of_none e ha)
    have g : Gr ms H ms H' := ⟨⟨[], by simp, by simp⟩, fun b o _ e => k' b o e⟩
    exact ⟨rfl, p (.ref a) H' ms g (h.keep k') (.exc h1 h2 (r.mono h.muts g))⟩⟩⟩
theorem mk_fII {C A : Addr} {f g : Str} {ds : List D} {ns : List Str} {xs : List D} {vs : List V} {Q : VK} (e : ((dII f g ds).map fun r => (C, r)) = some (A, ns, xs)) (h : SR K ms S H) (r : Reps K H ms ds vs) (p : Post K ms H (.exc A ns xs) S Q) : rMkI C (spInit C (fII f g)) vs H Q := by
  obtain ⟨q, e1, e2⟩ := Option.map_eq_some_iff.mp e
  cases e2
  unfold dII at e1
  split at e1
  · split at e1
    · rename_i i j hk
      cases e1
      cases r with
      | cons r1 r =>
        cases r with
        | cons r2 r =>
          cases r
          cases r1
          cases r2
          exact mkI_ok (ws := [.int j, .int i]) h (by unfold fII; dsimp only; rw [if_pos hk]; rfl) (by show 2 ≤ 1000; decide) (.cons (.int _) (.cons (.int _) .nil)) p
    · cases e1
  · cases e1
theorem mk_fI {C A : Addr} {f : Str} {ds : List D} {ns : List Str} {xs : List D} {vs : List V} {Q : VK} (e : ((dI f ds).map fun r => (C, r)) = some (A, ns, xs)) (h : SR K ms S H) (r : Reps K H ms ds vs) (p : Post K ms H (.exc A ns xs) S Q) : rMkI C (spInit C (fI f)) vs H Q := by
  obtain ⟨q, e1, e2⟩ := Option.map_eq_some_iff.mp e
  cases e2
  unfold dI at e1
  split at e1
  · split at e1
    · rename_i i hk
      cases e1
      cases r with
      | cons r1 r =>
        cases r
        cases r1
        exact mkI_ok (ws := [.int i]) h (by unfold fI; dsimp only; rw [if_pos hk]; rfl) (by show 1 ≤ 1000; decide) (.cons (.int _) .nil) p
    · cases e1
  · cases e1
theorem mk_fS {C A : Addr} {f : Str} {ds : List D} {ns : List Str} {xs : List D} {vs : List V} {Q : VK} (e : ((dS f ds).map fun r => (C, r)) = some (A, ns, xs)) (h : SR K ms S H) (r : Reps K H ms ds vs) (p : Post K ms H (.exc A ns xs) S Q) : rMkI C (spInit C (fS f)) vs H Q := by
  obtain ⟨q, e1, e2⟩ := Option.map_eq_some_iff.mp e
  cases e2
  unfold dS at e1
  split at e1
  · split at e1
    · rename_i i hk
      cases e1
      cases r with
      | cons r1 r =>
        cases r
        cases r1
        exact mkI_ok (ws := [.str i]) h (by unfold fS; dsimp only; rw [if_pos hk]; rfl) (by show 1 ≤ 1000; decide) (.cons (.str _) .nil) p
    · cases e1
  · cases e1
theorem mk_fA {C A : Addr} {f : Str} {ds : List D} {ns : List Str} {xs : List D} {vs : List V} {Q : VK} (e : ((dA f ds).map fun r => (C, r)) = some (A, ns, xs)) (h : SR K ms S H) (r : Reps K H ms ds vs) (p : Post K ms H (.exc A ns xs) S Q) : rMkI C (spInit C (fA f)) vs H Q := by
  obtain ⟨q, e1, e2⟩ := Option.map_eq_some_iff.mp e
  cases e2
  unfold dA at e1
  split at e1
  · cases e1
    cases r with
    | cons r1 r =>
      cases r
      exact mkI_ok (ws := [_]) h rfl (by show 1 ≤ 1000; decide) (.cons r1 .nil) p
  · cases e1
theorem mk_N {C A : Addr} {ds : List D} {ns : List Str} {xs : List D} {vs : List V} {Q : VK} (e : ((dN ds).map fun r => (C, r)) = some (A, ns, xs)) (h : SR K ms S H) (r : Reps K H ms ds vs) (p : Post K ms H (.exc A ns xs) S Q) : rMk0 C vs H Q := by
  obtain ⟨q, e1, e2⟩ := Option.map_eq_some_iff.mp e
  cases e2
  unfold dN at e1
  split at e1
  · cases e1
    cases r with
    | cons r1 r =>
      cases r
      exact ⟨_, rfl, fun a ha => p _ _ ms (Gr.new ha) (h.new ha) (.exc0 upd_same)⟩
  · cases e1
end
end IP

/-! The pen of the laws over data: its text, what it answers. -/
namespace IP
open PySem L2 RZ

section
variable {defs : Nat → Df} {B : Bas}
theorem call_ret {f n : Nat} {St S' : Store} {ds : List D} {p s : Nat} {b : S} {d : D} (hd : defs f = ⟨p, s, b⟩) (hl : ds.length = p)
    (h : evS ⟨B, callN defs B n⟩ b (ds.map some ++ List.replicate (s - ds.length) none) St = some (.ret d S')) : callN defs B (n + 1) f St ds = some (d, S') := by
  unfold callN
  rw [hd]
  show (if ds.length = p then _ else none) = _
  rw [if_pos hl]
  show (match evS ⟨B, callN defs B n⟩ b (ds.map some ++ List.replicate (s - ds.length) none) St with
      | some (.ret d S') => some (d, S')
      | some (.nx _ S') => some (.non, S')
      | _ => none) = _
  rw [h]
end
section
variable {C : Ev} {σ σ1 : Sl} {St S1 S2 : Store} {r : Option Out} {d x y : D}
theorem s_seq {a b : S} (h : evS C a σ St = some (.nx σ1 S1)) (h2 : evS C b σ1 S1 = r) : evS C (.seq a b) σ St = r := by
  simp only [evS, h, Option.bind_some]
  exact h2
theorem s_ret1 {a b : S} (h : evS C a σ St = some (.ret d S1)) : evS C (.seq a b) σ St = some (.ret d S1) := by
  simp only [evS, h, Option.bind_some]
theorem s_asg {i : Nat} {e : E} (h : evE C e σ St = some (d, S1)) : evS C (.asg (.name i) e) σ St = some (.nx (σ.set i (some d)) S1) := by
  simp only [evS, h, Option.bind_some, Tg.bind, Option.map_some]
theorem s_ret {e : E} (h : evE C e σ St = some (d, S1)) : evS C (.ret e) σ St = some (.ret d S1) := by
  simp only [evS, h, Option.map_some]
theorem s_sub {e o i : E} {S3 : Store} {n j : Nat} {k : Int} {ds : List D} (h : evE C e σ St = some (d, S1)) (h2 : evE C o σ S1 = some (.loc n, S2)) (h3 : evE C i σ S2 = some (.int k, S3)) (h4 : S3[n]? = some (.lst ds)) (h5 : ixN ds.length k = some j) :
    evS C (.sub o i e) σ St = some (.nx σ (S3.set n (.lst (ds.set j d)))) := by
  simp only [evS, h, h2, h3, Option.bind_some, subD', h4, h5, Option.map_some]
theorem s_if {t : E} {a b : S} {z : Bool} (h : evE C t σ St = some (.bl z, S1)) (h2 : (if z = true then evS C a σ S1 else evS C b σ S1) = r) : evS C (.ite t a b) σ St = r := by
  simp only [evS, h, Option.bind_some, asB]
  exact h2
theorem e_op {o : Op} {a b : E} {q : Option (D × Store)} (h : evE C a σ St = some (x, S1)) (h2 : evE C b σ S1 = some (y, S2)) (h3 : o.ev S2 x y = q) : evE C (.op o a b) σ St = q := by
  simp only [evE, h, h2, Option.bind_some]
  exact h3
theorem e_ix {a b : E} {q : Option (D × Store)} (h : evE C a σ St = some (x, S1)) (h2 : evE C b σ S1 = some (y, S2)) (h3 : ixD S2 x y = q) : evE C (.ix a b) σ St = q := by
  simp only [evE, h, h2, Option.bind_some]
  exact h3
end
theorem fmod_nonneg' (a : Int) {b : Int} (h : 0 < b) : 0 ≤ a.fmod b := Int.fmod_nonneg_of_pos a h
theorem fmod_lt' (a : Int) {b : Int} (h : 0 < b) : a.fmod b < b := Int.fmod_lt_of_pos a h
theorem powI {St : Store} {i j : Int} (h : 0 ≤ j ∧ j ≤ 1000) (h0 : 0 ≤ i) (h1 : i < 2 ^ 64) : powD St (.int i) (.int j) = some (.int (i ^ j.toNat), St) := by
  show (if 0 ≤ j ∧ j ≤ 1000000 ∧ i.natAbs < 2 ^ 64 then _ else _) = _
  rw [if_pos ⟨h.1, by omega, by omega⟩]
theorem mulD_r {St : Store} {i j : Int} (h0 : -(2 ^ 64) < j) (h1 : j < 2 ^ 64) : mulD St (.int i) (.int j) = some (.int (i * j), St) := by
  show (if (smallI i || smallI j) = true then _ else _) = _
  rw [if_pos (by simp [smallI]; right; omega)]
theorem mulD_l {St : Store} {i j : Int} (h0 : -(2 ^ 64) < i) (h1 : i < 2 ^ 64) : mulD St (.int i) (.int j) = some (.int (i * j), St) := by
  show (if (smallI i || smallI j) = true then _ else _) = _
  rw [if_pos (by simp [smallI]; left; omega)]
theorem modI {St : Store} {i j : Int} (h : 0 < j) : modD St (.int i) (.int j) = some (.int (i.fmod j), St) := by
  show (if j ≠ 0 then _ else _) = _
  rw [if_pos (by omega)]
theorem atI_int {α : Type} {xs : List α} {i : Int} (h0 : 0 ≤ i) (h1 : i < xs.length) : ∃ x, x ∈ xs ∧ L2.atI xs i = some x ∧ xs[i.toNat]? = some x := by
  have h2 : i.toNat < xs.length := by omega
  refine ⟨xs[i.toNat], List.getElem_mem h2, ?_, by simp⟩
  unfold L2.atI ixN
  rw [if_pos h0, if_pos h1]
  simp

section
variable {C : Ev} {σ σ1 : Sl} {St S1 S2 : Store} {a b : E} {x y : Int} {d : D}
theorem e_var {i : Nat} (h : σ[i]? = some (some d)) : evE C (.var i) σ St = some (d, St) := by
  simp only [evE, h]
theorem e_int {i : Int} : evE C (.int i) σ St = some (.int i, St) := by
  simp only [evE]
theorem e_len {n : Nat} {ds : List D} (h : evE C a σ St = some (.loc n, S1)) (h2 : S1[n]? = some (.lst ds)) : evE C (.cb .len (.cons a .nil)) σ St = some (.int ds.length, S1) := by
  simp only [evE, evA, h, Option.bind_some, Option.map_some, Bi.ev, h2]
theorem e_add (h : evE C a σ St = some (.int x, S1)) (h2 : evE C b σ S1 = some (.int y, S2)) : evE C (.op .add a b) σ St = some (.int (x + y), S2) := e_op h h2 rfl
theorem e_sub (h : evE C a σ St = some (.int x, S1)) (h2 : evE C b σ S1 = some (.int y, S2)) : evE C (.op .sub a b) σ St = some (.int (x - y), S2) := e_op h h2 rfl
theorem e_mul (h : evE C a σ St = some (.int x, S1)) (h2 : evE C b σ S1 = some (.int y, S2)) (h0 : smallI x = true ∨ smallI y = true) : evE C (.op .mul a b) σ St = some (.int (x * y), S2) := e_op h h2 (by
  show (if (smallI x || smallI y) = true then _ else _) = _
  rw [if_pos (by simpa using h0)])
theorem e_pow (h : evE C a σ St = some (.int x, S1)) (h2 : evE C b σ S1 = some (.int y, S2)) (h0 : 0 ≤ y ∧ y ≤ 1000) (h1 : 0 ≤ x) (h3 : x < 2 ^ 64) : evE C (.op .pow a b) σ St = some (.int (x ^ y.toNat), S2) := e_op h h2 (powI h0 h1 h3)
theorem e_mod (h : evE C a σ St = some (.int x, S1)) (h2 : evE C b σ S1 = some (.int y, S2)) (h0 : 0 < y) : evE C (.op .mod a b) σ St = some (.int (x.fmod y), S2) := e_op h h2 (modI h0)
theorem e_fdiv (h : evE C a σ St = some (.int x, S1)) (h2 : evE C b σ S1 = some (.int y, S2)) (h0 : 0 < y) (h1 : y < 1073741824) : evE C (.op .fdiv a b) σ St = some (.int (x.fdiv y), S2) := e_op h h2 (by
  show (if y ≠ 0 ∧ y.natAbs < 1073741824 then _ else _) = _
  rw [if_pos (by omega)])
end
theorem small {x : Int} (h0 : 0 ≤ x) (h1 : x < 2 ^ 64) : smallI x = true := by
  simp [smallI]; omega
theorem mul_bd {x y A B : Int} (h0 : 0 ≤ x) (h1 : x ≤ A) (h2 : 0 ≤ y) (h3 : y ≤ B) : 0 ≤ x * y ∧ x * y ≤ A * B :=
  ⟨Int.mul_nonneg h0 h2, Int.mul_le_mul h1 h3 h2 (Int.le_trans h0 h1)⟩
/-! ### the text -/
def penSpread : S :=
    (.seq (.ite (.op .ge (.var 0) (.op .pow (.int 10) (.int 18))) (.ret (.var 0)) .skip)
    (.seq (.asg (.name 2) (.lst (.cons (.int 2147483629) (.cons (.int 2147483587) (.cons (.int 2147483579) (.cons (.int 2147483563) (.cons (.int 2147483549) (.cons (.int 2147483543) (.cons (.int 2147483497) (.cons (.int 2147483489) .nil))))))))))
    (.seq (.asg (.name 2) (.op .add (.var 2) (.lst (.cons (.int 2147483477) (.cons (.int 2147483423) (.cons (.int 2147483399) (.cons (.int 2147483353) (.cons (.int 2147483323) .nil))))))))
    (.seq (.asg (.name 3) (.op .mod (.op .pow (.op .add (.op .add (.op .mul (.op .mod (.var 0) (.int 1000000007)) (.op .add (.op .mul (.int 2) (.var 1)) (.int 69069))) (.op .mul (.var 1) (.int 40503))) (.int 977)) (.int 3)) (.ix (.var 2) (.op .mod (.var 1) (.int 13)))))
    (.seq (.asg (.name 4) (.op .mod (.op .pow (.op .add (.op .add (.op .mul (.var 3) (.op .add (.var 1) (.int 3))) (.op .mod (.var 0) (.int 65537))) (.int 5)) (.int 5)) (.ix (.var 2) (.op .mod (.op .add (.var 1) (.int 5)) (.int 13)))))
    (.seq (.asg (.name 5) (.op .mod (.op .pow (.op .add (.op .add (.var 4) (.op .mod (.var 3) (.int 1009))) (.var 1)) (.int 3)) (.ix (.var 2) (.op .mod (.op .add (.var 1) (.int 7)) (.int 13)))))
    (.ret (.op .add (.op .mul (.op .add (.op .mul (.var 3) (.int 2147483647)) (.var 4)) (.int 2147483647)) (.var 5)))))))))
def primes13 : List Int := [2147483629, 2147483587, 2147483579, 2147483563, 2147483549, 2147483543, 2147483497, 2147483489, 2147483477, 2147483423, 2147483399, 2147483353, 2147483323]
theorem primes_ix {St : Store} {n : Nat} (h : St[n]? = some (.lst (primes13.map D.int))) {i : Int} (h0 : 0 ≤ i) (h1 : i < 13) : ∃ p, 0 < p ∧ p < 2147483648 ∧ ixD St (.loc n) (.int i) = some (.int p, St) := by
  obtain ⟨x, hm, e, _⟩ := atI_int (xs := primes13.map D.int) h0 (by simpa [primes13] using h1)
  obtain ⟨p, hp, rfl⟩ := List.mem_map.mp hm
  have hb : ∀ p ∈ primes13, 0 < p ∧ p < 2147483648 := by decide
  exact ⟨p, (hb p hp).1, (hb p hp).2, by simp only [ixD, h, e, Option.map_some]⟩
theorem get_app {St T : Store} {n : Nat} {o : O} (h : St[n]? = some o) : (St ++ T)[n]? = some o := by
  obtain ⟨hn, _⟩ := List.getElem?_eq_some_iff.mp h
  rw [List.getElem?_append_left hn, h]
theorem spread_ev {C : Ev} {St : Store} {cell a : Int} (h0 : 0 ≤ a) (h1 : a ≤ 1000000) : ∃ r T, evS C penSpread [some (.int cell), some (.int a), none, none, none, none] St = some (.ret (.int r) (St ++ T)) := by
  by_cases hc : 1000000000000000000 ≤ cell
  · exact ⟨cell, [], by simp [penSpread, evS, evE, Op.ev, powD, ordD, asB, hc]⟩
  · let T : Store := [.lst [.int 2147483629, .int 2147483587, .int 2147483579, .int 2147483563, .int 2147483549, .int 2147483543, .int 2147483497, .int 2147483489], .lst [.int 2147483477, .int 2147483423, .int 2147483399, .int 2147483353, .int 2147483323], .lst (primes13.map D.int)]
    have hq : (St ++ T)[St.length + 2]? = some (.lst (primes13.map D.int)) := by
      rw [List.getElem?_append_right (by omega)]; simp [T]
    obtain ⟨p1, u1, v1, e1⟩ := primes_ix hq (fmod_nonneg' a (b := 13) (by decide)) (fmod_lt' a (b := 13) (by decide))
    obtain ⟨p2, u2, v2, e2⟩ := primes_ix hq (fmod_nonneg' (a + 5) (b := 13) (by decide)) (fmod_lt' (a + 5) (b := 13) (by decide))
    obtain ⟨p3, u3, v3, e3⟩ := primes_ix hq (fmod_nonneg' (a + 7) (b := 13) (by decide)) (fmod_lt' (a + 7) (b := 13) (by decide))
    have m0 := fmod_nonneg' cell (b := 1000000007) (by decide)
    have m1 := fmod_lt' cell (b := 1000000007) (by decide)
    have w0 := fmod_nonneg' cell (b := 65537) (by decide)
    have w1 := fmod_lt' cell (b := 65537) (by decide)
    refine ⟨_, T, s_seq (σ1 := [some (.int cell), some (.int a), none, none, none, none]) (S1 := St) ?_ (s_seq (σ1 := [some (.int cell), some (.int a), some (.loc St.length), none, none, none]) (S1 := St ++ T.take 1) ?_ (s_seq (σ1 := [some (.int cell), some (.int a), some (.loc (St.length + 2)), none, none, none]) (S1 := St ++ T) ?_
      (s_seq (s_asg (e_mod (e_pow (e_add (e_add (e_mul (e_mod (e_var rfl) e_int (by decide)) (e_add (e_mul e_int (e_var rfl) ?q1) e_int) ?q2) (e_mul (e_var rfl) e_int ?q3)) e_int) e_int (by decide) ?b1 ?b2) (e_ix (e_var rfl) (e_mod (e_var rfl) e_int (by decide)) e1) u1))
      (s_seq (s_asg (e_mod (e_pow (e_add (e_add (e_mul (e_var rfl) (e_add (e_var rfl) e_int) ?q4) (e_mod (e_var rfl) e_int (by decide))) e_int) e_int (by decide) ?b3 ?b4) (e_ix (e_var rfl) (e_mod (e_add (e_var rfl) e_int) e_int (by decide)) e2) u2))
      (s_seq (s_asg (e_mod (e_pow (e_add (e_add (e_var rfl) (e_mod (e_var rfl) e_int (by decide))) (e_var rfl)) e_int (by decide) ?b5 ?b6) (e_ix (e_var rfl) (e_mod (e_add (e_var rfl) e_int) e_int (by decide)) e3) u3))
      (s_ret (e_add (e_mul (e_add (e_mul (e_var rfl) e_int ?q5) (e_var rfl)) e_int ?q6) (e_var rfl))))))))⟩
    · exact s_if (z := false) (S1 := St) (by simp [evE, Op.ev, powD, ordD, hc]) (by simp [evS])
    · exact s_asg (by simp [evE, evA, alloc, T, LIM])
    · exact s_asg (by simp [evE, evA, alloc, T, LIM, Op.ev, addD, bothLst, List.getElem?_append, primes13])
    all_goals try decide
    case q2 => exact .inl (small m0 (by omega))
    case q4 => exact .inl (small (fmod_nonneg' _ u1) (by have := fmod_lt' ((cell.fmod 1000000007 * (2 * a + 69069) + a * 40503 + 977) ^ Int.toNat 3) u1; omega))
    case b1 => have := (mul_bd m0 (A := 1000000007) (by omega) (show 0 ≤ 2 * a + 69069 by omega) (B := 2069069) (by omega)).1; omega
    case b2 => have := (mul_bd m0 (A := 1000000007) (by omega) (show 0 ≤ 2 * a + 69069 by omega) (B := 2069069) (by omega)).2; omega
    case b3 =>
      generalize (cell.fmod 1000000007 * (2 * a + 69069) + a * 40503 + 977) ^ Int.toNat 3 = z
      have := (mul_bd (fmod_nonneg' z u1) (A := 2147483648) (by have := fmod_lt' z u1; omega) (show 0 ≤ a + 3 by omega) (B := 1000003) (by omega)).1; omega
    case b4 =>
      generalize (cell.fmod 1000000007 * (2 * a + 69069) + a * 40503 + 977) ^ Int.toNat 3 = z
      have := (mul_bd (fmod_nonneg' z u1) (A := 2147483648) (by have := fmod_lt' z u1; omega) (show 0 ≤ a + 3 by omega) (B := 1000003) (by omega)).2; omega
    case b5 =>
      generalize (cell.fmod 1000000007 * (2 * a + 69069) + a * 40503 + 977) ^ Int.toNat 3 = z
      generalize (z.fmod p1 * (a + 3) + cell.fmod 65537 + 5) ^ Int.toNat 5 = y
      have h1 := fmod_nonneg' y u2
      have h2 := fmod_nonneg' (z.fmod p1) (b := 1009) (by decide)
      omega
    case b6 =>
      generalize (cell.fmod 1000000007 * (2 * a + 69069) + a * 40503 + 977) ^ Int.toNat 3 = z
      generalize (z.fmod p1 * (a + 3) + cell.fmod 65537 + 5) ^ Int.toNat 5 = y
      have h1 := fmod_lt' y u2
      have h2 := fmod_lt' (z.fmod p1) (b := 1009) (by decide)
      omega
    all_goals first | exact .inl (by decide) | exact .inr (by decide)
theorem spread_ok {defs : Nat → Df} {B : Bas} {i : Nat} (hd : defs i = ⟨2, 6, penSpread⟩) (n : Nat) (St : Store) (cell : Int) {a : Int} (h0 : 0 ≤ a) (h1 : a ≤ 1000000) : ∃ r T, callN defs B (n + 1) i St [.int cell, .int a] = some (.int r, St ++ T) := by
  obtain ⟨r, T, e⟩ := spread_ev (C := ⟨B, callN defs B n⟩) (St := St) (cell := cell) h0 h1
  exact ⟨r, T, call_ret hd rfl e⟩
/-! ### take -/
/-- the pen stands at p: its cells, how far it has come, what it still holds -/
def Pen (St : Store) (p : Nat) (a : Int) : Prop := ∃ c st, ∃ cells : List Int, St[p]? = some (.lst [.loc c, .int a, .int st]) ∧ St[c]? = some (.lst (cells.map D.int)) ∧ p ≠ c ∧ cells.length ≤ 1000
/-- all but p stands -/
def Ex (p : Nat) (St S' : Store) : Prop := ∀ n o, n ≠ p → St[n]? = some o → S'[n]? = some o
def penTake (f : Nat) : S :=
    (.seq (.ite (.op .lt (.ix (.var 0) (.int 2)) (.var 1)) (.seq (.asg (.name 2) (.ix (.var 0) (.int 1)))
    (.seq (.asg (.name 3) (.int 0))
    (.seq (.ite (.op .lt (.var 2) (.cb .len (.cons (.ix (.var 0) (.int 0)) .nil))) (.asg (.name 3) (.ix (.ix (.var 0) (.int 0)) (.var 2))) (.ite (.op .gt (.cb .len (.cons (.ix (.var 0) (.int 0)) .nil)) (.int 0)) (.asg (.name 3) (.op .mod (.ix (.ix (.var 0) (.int 0)) (.op .mod (.op .add (.op .mul (.var 2) (.int 5)) (.int 3)) (.cb .len (.cons (.ix (.var 0) (.int 0)) .nil)))) (.op .add (.op .pow (.int 10) (.int 17)) (.var 2)))) .skip))
    (.seq (.sub (.var 0) (.int 1) (.op .add (.var 2) (.int 1)))
    (.sub (.var 0) (.int 2) (.call f (.cons (.var 3) (.cons (.var 2) .nil)))))))) .skip)
    (.seq (.asg (.name 4) (.op .mod (.ix (.var 0) (.int 2)) (.var 1)))
    (.seq (.sub (.var 0) (.int 2) (.op .fdiv (.ix (.var 0) (.int 2)) (.var 1)))
    (.ret (.var 4)))))
section
variable {C : Ev} {St : Store}
/-- the rest of take: the store holds a number -/
theorem take_rest {p : Nat} {a st am : Int} {c : Nat} {cells : List Int} (h : St[p]? = some (.lst [.loc c, .int a, .int st])) (hc : St[c]? = some (.lst (cells.map D.int))) (hpc : p ≠ c) (hl : cells.length ≤ 1000) (h0 : 0 < am) (h1 : am < 1073741824) (u v : Option D) :
    ∃ r S', evS C (.seq (.asg (.name 4) (.op .mod (.ix (.var 0) (.int 2)) (.var 1)))
    (.seq (.sub (.var 0) (.int 2) (.op .fdiv (.ix (.var 0) (.int 2)) (.var 1)))
    (.ret (.var 4)))) [some (.loc p), some (.int am), u, v, none] St = some (.ret (.int r) S') ∧ 0 ≤ r ∧ r < am ∧ Ex p St S' ∧ St.length ≤ S'.length ∧ Pen S' p a := by
  have hp : p < St.length := (List.getElem?_eq_some_iff.mp h).1
  have e1 : evE C (.ix (.var 0) (.int 2)) [some (.loc p), some (.int am), u, v, none] St = some (.int st, St) := e_ix (e_var rfl) e_int (by simp [ixD, h, L2.atI, ixN])
  have e2 : evE C (.ix (.var 0) (.int 2)) [some (.loc p), some (.int am), u, v, some (.int (st.fmod am))] St = some (.int st, St) := e_ix (e_var rfl) e_int (by simp [ixD, h, L2.atI, ixN])
  refine ⟨st.fmod am, St.set p (.lst [.loc c, .int a, .int (st.fdiv am)]), s_seq (s_asg (e_mod e1 (e_var rfl) h0)) (s_seq (σ1 := [some (.loc p), some (.int am), u, v, some (.int (st.fmod am))]) ?_ (s_ret (e_var rfl))), fmod_nonneg' _ h0, fmod_lt' _ h0, ?_, by simp, ?_⟩
  · have e3 := e_fdiv (C := C) e2 (e_var (i := 1) rfl) h0 h1
    exact s_sub (j := 2) e3 (e_var rfl) e_int h (by rfl)
  · intro n o hn e
    rw [List.getElem?_set_ne (Ne.symm hn)]
    exact e
  · refine ⟨c, _, cells, by rw [List.getElem?_set_self hp], ?_, hpc, hl⟩
    rw [List.getElem?_set_ne hpc]
    exact hc
end
end IP

namespace IP
open PySem L2 RZ
section
variable {C : Ev} {St : Store}
theorem atI_get {xs : List Int} {i : Int} (h0 : 0 ≤ i) (h1 : i < xs.length) : ∃ z, L2.atI (xs.map D.int) i = some (.int z) := by
  obtain ⟨x, hm, e, _⟩ := atI_int (xs := xs.map D.int) h0 (by simpa using h1)
  obtain ⟨z, _, rfl⟩ := List.mem_map.mp hm
  exact ⟨z, e⟩
/-- the cell that is read -/
theorem take_cell {p : Nat} {a st : Int} {c : Nat} {cells : List Int} (h : St[p]? = some (.lst [.loc c, .int a, .int st])) (hc : St[c]? = some (.lst (cells.map D.int))) (h0 : 0 ≤ a) (am : Int) :
    ∃ z, evS C (.ite (.op .lt (.var 2) (.cb .len (.cons (.ix (.var 0) (.int 0)) .nil))) (.asg (.name 3) (.ix (.ix (.var 0) (.int 0)) (.var 2))) (.ite (.op .gt (.cb .len (.cons (.ix (.var 0) (.int 0)) .nil)) (.int 0)) (.asg (.name 3) (.op .mod (.ix (.ix (.var 0) (.int 0)) (.op .mod (.op .add (.op .mul (.var 2) (.int 5)) (.int 3)) (.cb .len (.cons (.ix (.var 0) (.int 0)) .nil)))) (.op .add (.op .pow (.int 10) (.int 17)) (.var 2)))) .skip))
      [some (.loc p), some (.int am), some (.int a), some (.int 0), none] St = some (.nx [some (.loc p), some (.int am), some (.int a), some (.int z), none] St) := by
  have e0 : evE C (.ix (.var 0) (.int 0)) [some (.loc p), some (.int am), some (.int a), some (.int 0), none] St = some (.loc c, St) := e_ix (e_var rfl) e_int (by simp [ixD, h, L2.atI, ixN])
  have el : evE C (.cb .len (.cons (.ix (.var 0) (.int 0)) .nil)) [some (.loc p), some (.int am), some (.int a), some (.int 0), none] St = some (.int cells.length, St) := by
    rw [e_len e0 hc, List.length_map]
  have elt := e_op (C := C) (o := .lt) (e_var (C := C) (St := St) (σ := [some (.loc p), some (.int am), some (.int a), some (.int 0), none]) (i := 2) rfl) el rfl
  by_cases h1 : a < cells.length
  · obtain ⟨z, ez⟩ := atI_get h0 h1
    refine ⟨z, s_if (z := true) ?_ (by rw [if_pos rfl]; exact s_asg (e_ix e0 (e_var rfl) (by simp only [ixD, hc, ez, Option.map_some])))⟩
    rw [elt]
    simp [Op.ev, ordD, h1]
  · have elt2 : evE C (.op .lt (.var 2) (.cb .len (.cons (.ix (.var 0) (.int 0)) .nil))) [some (.loc p), some (.int am), some (.int a), some (.int 0), none] St = some (.bl false, St) := by
      rw [elt]
      simp [Op.ev, ordD, h1]
    have egt := e_op (C := C) (o := .gt) el (e_int (i := 0)) rfl
    by_cases h2 : 0 < cells.length
    · have hm : (0 : Int) < cells.length := by omega
      obtain ⟨z, ez⟩ := atI_get (xs := cells) (fmod_nonneg' (a * 5 + 3) hm) (fmod_lt' (a * 5 + 3) hm)
      refine ⟨z.fmod ((10 : Int) ^ (Int.toNat 17) + a), s_if (z := false) elt2 ?_⟩
      rw [if_neg (by decide)]
      refine s_if (z := true) (S1 := St) ?_ ?_
      · rw [egt]
        simp [Op.ev, ordD, h2]
      · rw [if_pos rfl]
        exact s_asg (e_mod (e_ix e0 (e_mod (e_add (e_mul (e_var rfl) e_int (.inr (by decide))) e_int) el hm) (by simp only [ixD, hc, ez, Option.map_some])) (e_add (e_pow e_int e_int (by decide) (by decide) (by decide)) (e_var rfl)) (by show (0:Int) < 10 ^ 17 + a; omega))
    · refine ⟨0, s_if (z := false) elt2 ?_⟩
      rw [if_neg (by decide)]
      refine s_if (z := false) (S1 := St) ?_ (by simp [evS])
      rw [egt]
      simp [Op.ev, ordD, h2]
theorem take_ev {f : Nat} (hf : ∀ (St : Store) (cell : Int) {a : Int}, 0 ≤ a → a ≤ 1000000 → ∃ r T, C.cf f St [.int cell, .int a] = some (.int r, St ++ T)) {p : Nat} {a am : Int} (hP : Pen St p a) (ha : 0 ≤ a) (hb : a ≤ 1000000) (h0 : 0 < am) (h1 : am < 1073741824) :
    ∃ r S' a', evS C (penTake f) [some (.loc p), some (.int am), none, none, none] St = some (.ret (.int r) S') ∧ 0 ≤ r ∧ r < am ∧ Ex p St S' ∧ St.length ≤ S'.length ∧ Pen S' p a' ∧ 0 ≤ a' ∧ a' ≤ a + 1 := by
  obtain ⟨c, st, cells, h, hc, hpc, hl⟩ := hP
  have hp : p < St.length := (List.getElem?_eq_some_iff.mp h).1
  have et : evE C (.op .lt (.ix (.var 0) (.int 2)) (.var 1)) [some (.loc p), some (.int am), none, none, none] St = some (.bl (decide (st < am)), St) :=
    e_op (e_ix (q := some (.int st, St)) (e_var rfl) e_int (by simp [ixD, h, L2.atI, ixN])) (e_var rfl) rfl
  by_cases hs : st < am
  · obtain ⟨z, ez⟩ := take_cell (C := C) h hc ha am
    have h2 : (St.set p (.lst [.loc c, .int (a + 1), .int st]))[p]? = some (.lst [.loc c, .int (a + 1), .int st]) := by rw [List.getElem?_set_self hp]
    have hc2 : (St.set p (.lst [.loc c, .int (a + 1), .int st]))[c]? = some (.lst (cells.map D.int)) := by rw [List.getElem?_set_ne hpc]; exact hc
    obtain ⟨r, T, e⟩ := hf (St.set p (.lst [.loc c, .int (a + 1), .int st])) z ha hb
    have h3 := get_app (T := T) h2
    have hp3 : p < (St.set p (.lst [.loc c, .int (a + 1), .int st]) ++ T).length := (List.getElem?_eq_some_iff.mp h3).1
    have hc3 := get_app (T := T) hc2
    have h4 : ((St.set p (.lst [.loc c, .int (a + 1), .int st]) ++ T).set p (.lst [.loc c, .int (a + 1), .int r]))[p]? = some (.lst [.loc c, .int (a + 1), .int r]) := by rw [List.getElem?_set_self hp3]
    have hc4 : ((St.set p (.lst [.loc c, .int (a + 1), .int st]) ++ T).set p (.lst [.loc c, .int (a + 1), .int r]))[c]? = some (.lst (cells.map D.int)) := by rw [List.getElem?_set_ne hpc]; exact hc3
    obtain ⟨q, S', e5, q0, q1, x, l, P⟩ := take_rest (C := C) h4 hc4 hpc hl h0 h1 (some (.int a)) (some (.int z))
    refine ⟨q, S', a + 1, s_seq (s_if (z := true) (S1 := St) (by rw [et]; simp [hs]) (by
      rw [if_pos rfl]
      exact s_seq (s_asg (e_ix (q := some (.int a, St)) (e_var rfl) e_int (by simp [ixD, h, L2.atI, ixN]))) (s_seq (s_asg e_int) (s_seq ez (s_seq (s_sub (j := 1) (e_add (e_var rfl) e_int) (e_var rfl) e_int h (by rfl)) (s_sub (j := 2) (d := .int r) (by simp only [evE, evA, Option.bind_some, Option.map_some, List.getElem?_cons_zero, List.getElem?_cons_succ]; exact e) (e_var rfl) e_int h3 (by rfl))))))) e5, q0, q1, ?_, ?_, P, by omega, by omega⟩
    · intro n o hn eo
      refine x n o hn ?_
      rw [List.getElem?_set_ne (Ne.symm hn)]
      refine get_app ?_
      rw [List.getElem?_set_ne (Ne.symm hn)]
      exact eo
    · refine Nat.le_trans ?_ l
      simp
  · obtain ⟨q, S', e5, q0, q1, x, l, P⟩ := take_rest (C := C) h hc hpc hl h0 h1 none none
    exact ⟨q, S', a, s_seq (s_if (z := false) (S1 := St) (by rw [et]; simp [hs]) (by simp [evS])) e5, q0, q1, x, l, P, ha, by omega⟩
end
theorem take_ok {defs : Nat → Df} {B : Bas} {i f : Nat} (hd : defs i = ⟨2, 5, penTake f⟩) (hf : defs f = ⟨2, 6, penSpread⟩) (n : Nat) {St : Store} {p : Nat} {a am : Int} (hP : Pen St p a) (ha : 0 ≤ a) (hb : a ≤ 1000000) (h0 : 0 < am) (h1 : am < 1073741824) :
    ∃ r S' a', callN defs B (n + 2) i St [.loc p, .int am] = some (.int r, S') ∧ 0 ≤ r ∧ r < am ∧ Ex p St S' ∧ St.length ≤ S'.length ∧ Pen S' p a' ∧ 0 ≤ a' ∧ a' ≤ a + 1 := by
  obtain ⟨r, S', a', e, w⟩ := take_ev (C := ⟨B, callN defs B (n + 1)⟩) (f := f) (fun St cell a x y => spread_ok hf n St cell x y) hP ha hb h0 h1
  exact ⟨r, S', a', call_ret hd rfl e, w⟩
end IP

namespace IP
open PySem L2 RZ
/-! ### loops -/
theorem forN_inv {src : Src} {g : Tg} {body : Sl → Store → Option Out} (n : Nat) (Inv : Nat → Sl → Store → Prop) (hend : ∀ σ St, Inv n σ St → src.at St n = some none)
    (hstep : ∀ i σ St, i < n → Inv i σ St → ∃ d σ1 σ2 S2, src.at St i = some (some d) ∧ g.bind d σ = some σ1 ∧ body σ1 St = some (.nx σ2 S2) ∧ Inv (i + 1) σ2 S2) :
    ∀ m i σ St, i ≤ n → n - i < m → Inv i σ St → ∃ σ' S', forN src g body m i σ St = some (.nx σ' S') ∧ Inv n σ' S'
  | 0, i, σ, St, h, hm, I => by omega
  | m + 1, i, σ, St, h, hm, I => by
    by_cases hi : i = n
    · subst hi
      exact ⟨σ, St, by simp only [forN, hend σ St I], I⟩
    · obtain ⟨d, σ1, σ2, S2, e1, e2, e3, I2⟩ := hstep i σ St (by omega) I
      obtain ⟨σ', S', e4, I4⟩ := forN_inv n Inv hend hstep m (i + 1) σ2 S2 (by omega) (by omega) I2
      exact ⟨σ', S', by simp only [forN, e1, e2, e3, Option.bind_some, e4], I4⟩
theorem lcN_inv {src : Src} {g : Tg} {σ : Sl} {fc : Sl → Store → Option (Bool × Store)} {fe : Sl → Store → Option (D × Store)} (n : Nat) (f : Nat → D) (Inv : Nat → Store → Prop) (hend : ∀ St, Inv n St → src.at St n = some none)
    (hstep : ∀ i St, i < n → Inv i St → ∃ d σ1 S1 S2, src.at St i = some (some d) ∧ g.bind d (wipeD σ g.slots) = some σ1 ∧ fc σ1 St = some (true, S1) ∧ fe σ1 S1 = some (f i, S2) ∧ Inv (i + 1) S2) :
    ∀ m i acc St, i ≤ n → n - i < m → Inv i St → ∃ S', lcN src g σ fc fe m i acc St = some (acc ++ (List.range' i (n - i)).map f, S') ∧ Inv n S'
  | 0, i, acc, St, h, hm, I => by omega
  | m + 1, i, acc, St, h, hm, I => by
    by_cases hi : i = n
    · subst hi
      exact ⟨St, by simp [lcN, hend St I], I⟩
    · obtain ⟨d, σ1, S1, S2, e1, e2, e3, e4, I2⟩ := hstep i St (by omega) I
      obtain ⟨S', e5, I5⟩ := lcN_inv n f Inv hend hstep m (i + 1) (acc ++ [f i]) S2 (by omega) (by omega) I2
      refine ⟨S', ?_, I5⟩
      simp only [lcN, e1, e2, e3, Option.bind_some, if_true, e4, e5]
      have : n - i = (n - (i + 1)) + 1 := by omega
      rw [this, List.range'_succ]
      simp
section
variable {C : Ev} {σ σ1 : Sl} {St S1 S2 : Store}
theorem s_for {src : E} {g : Tg} {body : S} {r : Src} {q : Option Out} (h : evI C src σ St = some (r, S1)) (h2 : forN r g (fun σ1 S1 => evS C body σ1 S1) LIM 0 σ S1 = q) : evS C (.for_ src g body) σ St = q := by
  rw [evS]
  rw [h]
  rw [Option.bind_some]
  exact h2
theorem e_lc {src e : E} {g : Tg} {r : Src} {acc : List D} (h : evI C src σ St = some (r, S1)) (h2 : lcN r g σ (fun σ1 S1 => if E.nil.isNil = true then some (true, S1) else (evE C E.nil σ1 S1).bind asB) (fun σ1 S1 => evE C e σ1 S1) LIM 0 [] S1 = some (acc, S2)) : evE C (.lc src g .nil e) σ St = some (.loc S2.length, S2 ++ [.lst acc]) := by
  rw [evE]
  rw [h]
  rw [Option.bind_some]
  rw [h2]
  rfl
end
/-! ### open -/
def penOpen : S :=
    (.seq (.asg (.name 1) (.cb .list (.cons (.sl (.var 0) .nil (.cons (.int 12) .nil)) .nil)))
    (.seq (.for_ (.ienum (.sl (.var 0) (.cons (.int 12) .nil) (.cons (.int 63) .nil))) (.tup [2, 3]) (.sub (.var 1) (.op .mod (.var 2) (.int 12)) (.op .add (.ix (.var 1) (.op .mod (.var 2) (.int 12))) (.var 3))))
    (.ret (.lst (.cons (.var 1) (.cons (.int 0) (.cons (.int 0) .nil)))))))
theorem open_ev {C : Ev} {St : Store} {ns : List Int} (hl : ns.length ≤ 1000) : ∃ p S', evS C penOpen [some (.rol (ns.map D.int)), none, none, none] St = some (.ret (.loc p) S') ∧ Pen S' p 0 ∧ (∀ (n : Nat) (o : O), St[n]? = some o → S'[n]? = some o) ∧ St.length ≤ p := by
  let A : List Int := cutD ns none (some 12)
  let X : List Int := cutD ns (some 12) (some 63)
  have hA : cutD (ns.map D.int) none (some 12) = A.map D.int := by simp [A, cutD, List.map_take, List.map_drop]
  have hX : cutD (ns.map D.int) (some 12) (some 63) = X.map D.int := by simp [X, cutD, List.map_take, List.map_drop]
  have lA : A.length = min 12 ns.length := by simp [A, cutD, HT.sIx] <;> omega
  have lX : X.length = min 63 ns.length - min 12 ns.length := by simp [X, cutD, HT.sIx] <;> omega
  let S1 : Store := St ++ [.lst (A.map D.int)] ++ [.lst (A.map D.int)]
  let S2 : Store := S1 ++ [.lst (X.map D.int)]
  let c := St.length + 1
  let q := St.length + 2
  let Inv : Nat → Sl → Store → Prop := fun i σ St' => σ[0]? = some (some (.rol (ns.map D.int))) ∧ σ.length = 4 ∧ σ[1]? = some (some (.loc c)) ∧ (∃ cells : List Int, St'[c]? = some (.lst (cells.map D.int)) ∧ cells.length = A.length) ∧ St'[q]? = some (.lst (X.map D.int)) ∧ (∀ (n : Nat) (o : O), n < St.length → St[n]? = some o → St'[n]? = some o) ∧ St'.length = St.length + 3
  have hI : Inv 0 [some (.rol (ns.map D.int)), some (.loc c), none, none] S2 := by
    refine ⟨rfl, rfl, rfl, ⟨A, by simp [S2, S1, c, List.getElem?_append], rfl⟩, by simp [S2, S1, q, List.getElem?_append], fun n o hn e => ?_, by simp [S2, S1]⟩
    simp only [S2, S1]
    exact get_app (get_app (get_app e))
  have hloop := forN_inv (src := .enumL q) (g := .tup [2, 3]) (body := fun σ1 S1 => evS C (.sub (.var 1) (.op .mod (.var 2) (.int 12)) (.op .add (.ix (.var 1) (.op .mod (.var 2) (.int 12))) (.var 3))) σ1 S1) X.length Inv
    (fun σ St' I => by
      obtain ⟨_, _, _, _, hq, _⟩ := I
      simp [Src.at, lstAt, hq])
    (fun i σ St' hi I => by
      obtain ⟨h0, h4, h1, ⟨cells, hc, lc⟩, hq, hk, hz⟩ := I
      match σ, h4 with
      | [a, b, u, v], _ =>
        simp only [List.getElem?_cons_zero, Option.some.injEq, List.getElem?_cons_succ] at h0 h1
        subst h0 h1
        have l12 : cells.length = 12 := by omega
        have hm0 : 0 ≤ ((i : Nat) : Int).fmod 12 := fmod_nonneg' _ (by decide)
        have hm1 : ((i : Nat) : Int).fmod 12 < cells.length := by have := fmod_lt' ((i : Nat) : Int) (b := 12) (by decide); omega
        obtain ⟨z, ez⟩ := atI_get (xs := cells) hm0 hm1
        have hx : X[i]? = some X[i] := List.getElem?_eq_getElem hi
        refine ⟨.tup [.int (i : Nat), .int X[i]], [some (.rol (ns.map D.int)), some (.loc c), some (.int (i : Nat)), some (.int X[i])], _, _, by simp [Src.at, lstAt, hq, hx], rfl, s_sub (j := (((i : Nat) : Int).fmod 12).toNat) (e_add (e_ix (q := some (.int z, St')) (e_var rfl) (e_mod (e_var rfl) e_int (by decide)) (by simp only [ixD, hc, ez, Option.map_some])) (e_var rfl)) (e_var rfl) (e_mod (e_var rfl) e_int (by decide)) hc ?_, ?_⟩
        · unfold ixN
          rw [if_pos hm0, if_pos (by simpa using hm1)]
        · refine ⟨rfl, rfl, rfl, ⟨cells.set (((i : Nat) : Int).fmod 12).toNat (z + X[i]), ?_, by simpa using lc⟩, ?_, fun n o hn e => ?_, by simpa using hz⟩
          · rw [List.getElem?_set_self (List.getElem?_eq_some_iff.mp hc).1, List.map_set]
          · rw [List.getElem?_set_ne (by simp [c, q])]
            exact hq
          · rw [List.getElem?_set_ne (by simp [c]; omega)]
            exact hk n o hn e)
    LIM 0 _ S2 (by omega) (by simp [LIM]; omega) hI
  obtain ⟨σ', S', e, I⟩ := hloop
  obtain ⟨h0, h4, h1, ⟨cells, hc, lc⟩, hq, hk, hz⟩ := I
  refine ⟨S'.length, S' ++ [.lst [.loc c, .int 0, .int 0]], s_seq (s_asg (d := .loc c) (S1 := S1) ?_) (s_seq (σ1 := σ') (S1 := S') ?_ (s_ret ?_)), ?_, ?_, by omega⟩
  · simp only [evE, evA, evO, Option.bind_some, Option.map_some, asI, slD, alloc, Bi.ev, seqD, List.getElem?_cons_zero, hA, S1, c]
    simp
  · have hq1 : (S1 ++ [O.lst (X.map D.int)])[S1.length]? = some (.lst (X.map D.int)) := by simp
    have hs : S1.length = q := by simp [S1, q]
    rw [hs] at hq1
    refine s_for (r := .enumL q) (S1 := S2) ?_ e
    show evI C _ [some (.rol (ns.map D.int)), some (.loc c), none, none] S1 = _
    simp only [evI, evE, evO, Option.bind_some, Option.map_some, asI, slD, alloc, List.getElem?_cons_zero, hX, srcEnum, hs, hq1]
    rfl
  · simp only [evE, evA, h1, Option.bind_some, Option.map_some, alloc]
    rfl
  · refine ⟨c, 0, cells, by simp, get_app hc, by simp [c]; omega, by omega⟩
  · intro n o e
    exact get_app (hk n o (List.getElem?_eq_some_iff.mp e).1 e)
theorem open_ok {defs : Nat → Df} {B : Bas} {i : Nat} (hd : defs i = ⟨1, 4, penOpen⟩) (n : Nat) (St : Store) {ns : List Int} (hl : ns.length ≤ 1000) :
    ∃ p S', callN defs B (n + 1) i St [.rol (ns.map D.int)] = some (.loc p, S') ∧ Pen S' p 0 ∧ (∀ (n : Nat) (o : O), St[n]? = some o → S'[n]? = some o) ∧ St.length ≤ p := by
  obtain ⟨p, S', e, w⟩ := open_ev (C := ⟨B, callN defs B n⟩) (St := St) hl
  exact ⟨p, S', call_ret hd rfl e, w⟩
end IP

namespace IP
open PySem L2 RZ
section
variable {St T : Store}
theorem py_bl (b : Bool) : py St (.bl b) = some (.bool b) := rfl
theorem py_int (b : Int) : py St (.int b) = some (.int b) := rfl
theorem py_str {b : Str} (h : PyData.strOk b = true) : py St (.str b) = some (.str b) := by
  show (if SeqAt.shaped (.str b) = true then some (PyData.str b) else none) = _
  rw [if_pos]
  simp [SeqAt.shaped, PyData.canLay0, PyData.depth, h]
/-- what is told apart without a look inside -/
def flatK : D → Bool
  | .non => true
  | .bl _ => true
  | .int _ => true
  | .str s => PyData.strOk s
  | _ => false
theorem canB : ∀ bs : List Bool, PyData.canLayAll0 (bs.map PyData.bool) = true
  | [] => rfl
  | _ :: r => by simp [PyData.canLayAll0, PyData.canLay0, canB r]
theorem depB : ∀ bs : List Bool, PyData.depthAll (bs.map PyData.bool) = 0
  | [] => rfl
  | _ :: r => by simp [PyData.depthAll, PyData.depth, depB r]
theorem mapMB (n : Nat) : ∀ bs : List Bool, (bs.map D.bl).mapM (toPy St (n + 1)) = some (bs.map PyData.bool)
  | [] => rfl
  | b :: r => by
    rw [List.map_cons, List.mapM_cons, mapMB n r]
    rfl
theorem py_bls {a : Nat} {bs : List Bool} (h : St[a]? = some (.lst (bs.map D.bl))) : py St (.loc a) = some (.list (bs.map PyData.bool)) := by
  have e : toPy St 40 (.loc a) = some (.list (bs.map PyData.bool)) := by
    show (match St[a]? with
      | some (.lst xs) => (xs.mapM (toPy St 39)).map PyData.list
      | _ => none) = _
    rw [h]
    show (((bs.map D.bl).mapM (toPy St 39)).map PyData.list) = _
    rw [mapMB 38 bs]
    rfl
  unfold py
  rw [e, Option.bind_some, if_pos]
  simp [SeqAt.shaped, PyData.canLay0, PyData.depth, canB, depB]
/-- False is not among answers that are all True -/
theorem nin_true {a n : Nat} (h : St[a]? = some (.lst (List.replicate n (D.bl true)))) : inD true St (.bl false) (.loc a) = some (.bl true, St) := by
  have h2 : St[a]? = some (.lst ((List.replicate n true).map D.bl)) := by rw [h, List.map_replicate]
  simp only [inD, h, py_bl, py_bls h2, Option.bind_some, ng, if_true]
  congr 3
  rw [List.any_map]
  simp [PyData.eqv]
end
/-! ### same -/
def Sm (St : Store) : Nat → D → D → Prop
  | 0, x, y => x = y ∧ flatK x = true
  | k + 1, x, y => (x = y ∧ flatK x = true) ∨ ∃ xs ys, ((x = .tup xs ∧ y = .tup ys) ∨ ∃ a b, x = .loc a ∧ y = .loc b ∧ St[a]? = some (.lst xs) ∧ St[b]? = some (.lst ys)) ∧ xs.length = ys.length ∧ xs.length ≤ 1000 ∧
      ∀ (i : Nat) (u v : D), xs[i]? = some u → ys[i]? = some v → Sm St k u v
theorem Sm.app {St T : Store} : ∀ {k : Nat} {x y : D}, Sm St k x y → Sm (St ++ T) k x y
  | 0, _, _, h => h
  | k + 1, _, _, .inl h => .inl h
  | k + 1, _, _, .inr ⟨xs, ys, h, l, m, f⟩ => .inr ⟨xs, ys, by
      rcases h with h | ⟨a, b, h1, h2, h3, h4⟩
      · exact .inl h
      · exact .inr ⟨a, b, h1, h2, get_app h3, get_app h4⟩, l, m, fun i u v e1 e2 => (f i u v e1 e2).app⟩
def penSame (f : Nat) : S :=
    (.seq (.ite (.orV (.op .is (.var 1) .non) (.op .is (.var 0) .non)) (.ret (.andV (.op .is (.var 1) .non) (.op .is (.var 0) .non))) .skip)
    (.seq (.ite (.orV (.isi [.bool] (.var 1)) (.isi [.bool] (.var 0))) (.ret (.andV (.isi [.bool] (.var 1)) (.andV (.isi [.bool] (.var 0)) (.op .eq (.var 0) (.var 1))))) .skip)
    (.seq (.ite (.isi [.int, .str] (.var 1)) (.seq (.ite (.op .ne (.isi [.int] (.var 0)) (.isi [.int] (.var 1))) (.ret (.bl false)) .skip)
    (.ret (.andV (.isi [.int, .str] (.var 0)) (.op .eq (.var 0) (.var 1))))) .skip)
    (.seq (.ite (.orV (.op .ne (.isi [.tuple] (.var 1)) (.isi [.tuple] (.var 0))) (.op .ne (.isi [.list] (.var 1)) (.isi [.list] (.var 0)))) (.ret (.bl false)) .skip)
    (.seq (.ite (.op .ne (.cb .len (.cons (.var 0) .nil)) (.cb .len (.cons (.var 1) .nil))) (.ret (.bl false)) .skip)
    (.ret (.op .nin (.bl false) (.lc (.izip (.var 0) (.var 1)) (.tup [2, 3]) .nil (.call f (.cons (.var 2) (.cons (.var 3) .nil)))))))))))
section
variable {C : Ev} {St : Store} {f : Nat}
theorem e_bl {b : Bool} {σ : Sl} : evE C (.bl b) σ St = some (.bl b, St) := by
  simp only [evE]
theorem s_pass {t : E} {a b : S} {σ : Sl} {r : Option Out} (h : evE C t σ St = some (.bl false, St)) (h2 : evS C b σ St = r) : evS C (.seq (.ite t a .skip) b) σ St = r :=
  s_seq (s_if (z := false) h (by rw [if_neg (by decide), evS])) h2
theorem e_non {σ : Sl} : evE C .non σ St = some (.non, St) := by
  simp only [evE]
theorem e_isi {ts : List Ty} {a : E} {σ : Sl} {S1 : Store} {x : D} {t : Tn} {b : Bool} (h : evE C a σ St = some (x, S1)) (ht : tyD S1 x = some t) (hb : ts.any (subT t) = b) (hl : ts.length ≤ 20) : evE C (.isi ts a) σ St = some (.bl b, S1) := by
  rw [evE, h, Option.bind_some]
  show (if ts.length ≤ 20 then (tyD S1 x).map fun t => (D.bl (ts.any (subT t)), S1) else none) = _
  rw [if_pos hl, ht, ← hb]
  rfl
theorem e_or0 {a b : E} {σ : Sl} {S1 : Store} {q : Option (D × Store)} (h : evE C a σ St = some (.bl false, S1)) (h2 : evE C b σ S1 = q) : evE C (.orV a b) σ St = q := by
  rw [evE, h, Option.bind_some]
  exact h2
theorem e_neB {a b : E} {σ : Sl} {u v : Bool} (h : evE C a σ St = some (.bl u, St)) (h2 : evE C b σ St = some (.bl v, St)) (e : u = v) : evE C (.op .ne a b) σ St = some (.bl false, St) := by
  refine e_op h h2 ?_
  subst e
  cases u <;> rfl
theorem e_neI {a b : E} {σ : Sl} {u v : Int} (h : evE C a σ St = some (.int u, St)) (h2 : evE C b σ St = some (.int v, St)) (e : u = v) : evE C (.op .ne a b) σ St = some (.bl false, St) := by
  refine e_op h h2 ?_
  subst e
  show eqD true St (.int u) (.int u) = _
  simp [eqD, py_int, PyData.eqv]
theorem e_lenT {a : E} {σ : Sl} {xs : List D} (h : evE C a σ St = some (.tup xs, St)) : evE C (.cb .len (.cons a .nil)) σ St = some (.int xs.length, St) := by
  simp only [evE, evA, h, Option.bind_some, Option.map_some, Bi.ev, seqD]
theorem same_flat {x : D} (h : flatK x = true) : evS C (penSame f) [some x, some x, none, none] St = some (.ret (.bl true) St) := by
  cases x with
  | non => simp [penSame, evS, evE, Op.ev, isD, asB]
  | bl b => simp [penSame, evS, evE, Op.ev, isD, asB, tyD, subT, eqD, py_bl, PyData.eqv]
  | int b => simp [penSame, evS, evE, Op.ev, isD, asB, tyD, subT, eqD, py_bl, py_int, PyData.eqv]
  | str b => simp [penSame, evS, evE, Op.ev, isD, asB, tyD, subT, eqD, py_bl, py_str (show PyData.strOk b = true from h), PyData.eqv]
  | _ => cases h
/-- the walk of two sequences that are the same -/
theorem same_walk {x y : D} {src : Src} {xs ys : List D} {k : Nat} (hs : ∀ (T : Store) (i : Nat), src.at (St ++ T) i = some (pairAt xs[i]? ys[i]?)) (hl : xs.length = ys.length) (hm : xs.length ≤ 1000) (hf : ∀ (i : Nat) (u v : D), xs[i]? = some u → ys[i]? = some v → Sm St k u v)
    (ih : ∀ (St : Store) (u v : D), Sm St k u v → ∃ T, C.cf f St [u, v] = some (.bl true, St ++ T)) :
    ∃ T, lcN src (.tup [2, 3]) [some x, some y, none, none] (fun σ1 S1 => if E.nil.isNil = true then some (true, S1) else (evE C E.nil σ1 S1).bind asB) (fun σ1 S1 => evE C (.call f (.cons (.var 2) (.cons (.var 3) .nil))) σ1 S1) LIM 0 [] St = some (List.replicate xs.length (.bl true), St ++ T) := by
  obtain ⟨S', e, T, rfl⟩ := lcN_inv (src := src) (g := .tup [2, 3]) (σ := [some x, some y, none, none]) (fc := fun σ1 S1 => if E.nil.isNil = true then some (true, S1) else (evE C E.nil σ1 S1).bind asB) (fe := fun σ1 S1 => evE C (.call f (.cons (.var 2) (.cons (.var 3) .nil))) σ1 S1) xs.length (fun _ => .bl true) (fun _ S' => ∃ T, S' = St ++ T)
    (fun S' ⟨T, hT⟩ => by
      subst hT
      rw [hs T xs.length]
      simp [pairAt])
    (fun i S' hi ⟨T, hT⟩ => by
      subst hT
      have hx : xs[i]? = some xs[i] := List.getElem?_eq_getElem hi
      have hy : ys[i]? = some (ys[i]'(by omega)) := List.getElem?_eq_getElem (by omega)
      obtain ⟨T', e⟩ := ih (St ++ T) _ _ (hf i _ _ hx hy).app
      refine ⟨.tup [xs[i], ys[i]'(by omega)], [some x, some y, some xs[i], some (ys[i]'(by omega))], St ++ T, St ++ T ++ T', ?_, rfl, rfl, ?_, T ++ T', by rw [List.append_assoc]⟩
      · rw [hs T i, hx, hy]
        rfl
      · simp only [evE, evA, List.getElem?_cons_zero, List.getElem?_cons_succ, Option.bind_some, Option.map_some]
        exact e)
    LIM 0 [] St (by omega) (by simp only [LIM]; omega) ⟨[], by simp⟩
  refine ⟨T, ?_⟩
  rw [e]
  simp [List.map_const']
theorem same_ev {k : Nat} (ih : ∀ (St : Store) (u v : D), Sm St k u v → ∃ T, C.cf f St [u, v] = some (.bl true, St ++ T)) {x y : D} (h : Sm St (k + 1) x y) : ∃ T, evS C (penSame f) [some x, some y, none, none] St = some (.ret (.bl true) (St ++ T)) := by
  rcases h with ⟨rfl, h⟩ | ⟨xs, ys, h, hl, hm, hf⟩
  · exact ⟨[], by rw [same_flat h, List.append_nil]⟩
  · rcases h with ⟨rfl, rfl⟩ | ⟨a, b, rfl, rfl, ha, hb⟩
    · obtain ⟨T, e⟩ := same_walk (C := C) (f := f) (x := .tup xs) (y := .tup ys) (src := .zipI xs ys) (fun _ _ => rfl) hl hm hf ih
      refine ⟨T ++ [.lst (List.replicate xs.length (.bl true))], s_pass ?_ (s_pass ?_ (s_pass ?_ (s_pass ?_ (s_pass ?_ (s_ret (e_op (x := .bl false) (S1 := St) (e_bl (St := St)) (e_lc (r := .zipI xs ys) (S1 := St) ?_ e) ?_))))))⟩
      · exact e_or0 (e_op (e_var rfl) e_non rfl) (e_op (e_var rfl) e_non rfl)
      · exact e_or0 (e_isi (e_var rfl) (t := .ty .tuple) rfl (by rfl) (by decide)) (e_isi (e_var rfl) (t := .ty .tuple) rfl (by rfl) (by decide))
      · exact e_isi (e_var rfl) (t := .ty .tuple) rfl (by rfl) (by decide)
      · exact e_or0 (e_neB (e_isi (e_var rfl) (t := .ty .tuple) rfl (by rfl) (by decide)) (e_isi (e_var rfl) (t := .ty .tuple) rfl (by rfl) (by decide)) rfl) (e_neB (e_isi (e_var rfl) (t := .ty .tuple) rfl (by rfl) (by decide)) (e_isi (e_var rfl) (t := .ty .tuple) rfl (by rfl) (by decide)) rfl)
      · exact e_neI (e_lenT (e_var rfl)) (e_lenT (e_var rfl)) (by rw [hl])
      · simp [evI, evE, srcZip]
      · rw [← List.append_assoc]
        exact nin_true (n := xs.length) (by simp)
    · have ta : tyD St (.loc a) = some (.ty .list) := by simp only [tyD, ha]
      have tb : tyD St (.loc b) = some (.ty .list) := by simp only [tyD, hb]
      obtain ⟨T, e⟩ := same_walk (C := C) (f := f) (x := .loc a) (y := .loc b) (src := .zipL a b) (fun T i => by simp [Src.at, lstAt, get_app ha, get_app hb]) hl hm hf ih
      refine ⟨T ++ [.lst (List.replicate xs.length (.bl true))], s_pass ?_ (s_pass ?_ (s_pass ?_ (s_pass ?_ (s_pass ?_ (s_ret (e_op (x := .bl false) (S1 := St) (e_bl (St := St)) (e_lc (r := .zipL a b) (S1 := St) ?_ e) ?_))))))⟩
      · exact e_or0 (e_op (e_var rfl) e_non rfl) (e_op (e_var rfl) e_non rfl)
      · exact e_or0 (e_isi (e_var rfl) tb (by rfl) (by decide)) (e_isi (e_var rfl) ta (by rfl) (by decide))
      · exact e_isi (e_var rfl) tb (by rfl) (by decide)
      · exact e_or0 (e_neB (e_isi (e_var rfl) tb (by rfl) (by decide)) (e_isi (e_var rfl) ta (by rfl) (by decide)) rfl) (e_neB (e_isi (e_var rfl) tb (by rfl) (by decide)) (e_isi (e_var rfl) ta (by rfl) (by decide)) rfl)
      · exact e_neI (e_len (e_var rfl) ha) (e_len (e_var rfl) hb) (by rw [hl])
      · simp [evI, evE, srcZip, ha, hb]
      · rw [← List.append_assoc]
        exact nin_true (n := xs.length) (by simp)
end
theorem same_ok {defs : Nat → Df} {B : Bas} {i : Nat} (hd : defs i = ⟨2, 4, penSame i⟩) (n : Nat) : ∀ (k : Nat) (St : Store) (x y : D), Sm St k x y → ∃ T, callN defs B (n + k + 1) i St [x, y] = some (.bl true, St ++ T)
  | 0, Z, x, y, h => by
    obtain ⟨rfl, h⟩ := h
    exact ⟨[], by rw [List.append_nil]; exact call_ret hd rfl (same_flat h)⟩
  | k + 1, Z, x, y, h => by
    obtain ⟨T, e⟩ := same_ev (C := ⟨B, callN defs B (n + k + 1)⟩) (f := i) (fun St u v h => same_ok hd n k St u v h) h
    exact ⟨T, call_ret hd rfl e⟩
end IP

namespace IP
open PySem L2 RZ
/-! ### rules -/
section
variable {C : Ev} {σ σ1 : Sl} {St S1 S2 : Store} {a b as : E} {x y d : D} {xs ys ds : List D}
theorem a_nil : evA C .nil σ St = some ([], St) := by rw [evA]
theorem a_cons (h : evE C a σ St = some (x, S1)) (h2 : evA C b σ S1 = some (ys, S2)) : evA C (.cons a b) σ St = some (x :: ys, S2) := by
  rw [evA, h, Option.bind_some, h2]
  rfl
theorem e_call {f : Nat} {r : Option (D × Store)} (h : evA C as σ St = some (ds, S1)) (h2 : C.cf f S1 ds = r) : evE C (.call f as) σ St = r := by
  rw [evE, h, Option.bind_some]
  exact h2
theorem e_lst (h : evA C as σ St = some (ds, S1)) (hl : ds.length ≤ LIM) : evE C (.lst as) σ St = some (.loc S1.length, S1 ++ [.lst ds]) := by
  rw [evE, h, Option.bind_some]
  show (if ds.length ≤ LIM then alloc S1 (.lst ds) else none) = _
  rw [if_pos hl]
  rfl
theorem e_tup (h : evA C as σ St = some (ds, S1)) (hl : ds.length ≤ LIM) : evE C (.tup as) σ St = some (.tup ds, S1) := by
  rw [evE, h, Option.bind_some]
  show (if ds.length ≤ LIM then some (D.tup ds, S1) else none) = _
  rw [if_pos hl]
theorem e_str {s : Str} : evE C (.str s) σ St = some (.str s, St) := by rw [evE]
theorem e_cat {n m : Nat} (h : evE C a σ St = some (.loc n, S1)) (h2 : evE C b σ S1 = some (.loc m, S2)) (h3 : S2[n]? = some (.lst xs)) (h4 : S2[m]? = some (.lst ys)) (hl : xs.length + ys.length ≤ LIM) : evE C (.op .add a b) σ St = some (.loc S2.length, S2 ++ [.lst (xs ++ ys)]) := by
  refine e_op h h2 ?_
  show bothLst S2 n m (fun xs ys => if xs.length + ys.length ≤ LIM then alloc S2 (.lst (xs ++ ys)) else none) = _
  unfold bothLst
  rw [h3, h4]
  show (if xs.length + ys.length ≤ LIM then alloc S2 (.lst (xs ++ ys)) else none) = _
  rw [if_pos hl]
  rfl
theorem e_isx {j : Nat} {A : Addr} {ns : List Str} {z : Bool} (h : evE C a σ St = some (.exc A ns xs, S1)) (hb : C.isx A j = some z) : evE C (.isx j a) σ St = some (.bl z, S1) := by
  rw [evE, h, Option.bind_some]
  show (C.isx A j).map (fun b => (D.bl b, S1)) = _
  rw [hb]
  rfl
theorem e_not {z : Bool} (h : evE C a σ St = some (.bl z, S1)) : evE C (.notV a) σ St = some (.bl (!z), S1) := by
  rw [evE, h, Option.bind_some]
  rfl
theorem e_mkx {c : Nat} {r : Addr × List Str × List D} (h : evA C as σ St = some (ds, S1)) (h2 : C.mkx c ds = some r) : evE C (.mkx c as) σ St = some (.exc r.1 r.2.1 r.2.2, S1) := by
  rw [evE, h, Option.bind_some, h2]
  rfl
theorem e_fld {f : Str} {A : Addr} {ns : List Str} {j : Nat} (h : evE C a σ St = some (.exc A ns xs, S1)) (hf : C.fo A f = true) (hj : firstStr f ns = some j) (hx : xs[j]? = some d) : evE C (.fld a f) σ St = some (d, S1) := by
  rw [evE, h, Option.bind_some]
  show (if C.fo A f = true then (firstStr f ns).bind fun j => (xs[j]?).map fun d => (d, S1) else none) = _
  rw [if_pos hf, hj, Option.bind_some, hx]
  rfl
theorem e_ixL {n : Nat} {k : Nat} (h : evE C a σ St = some (.loc n, S1)) (h2 : S1[n]? = some (.lst xs)) (h3 : xs[k]? = some d) : evE C (.ix a (.int k)) σ St = some (d, S1) := by
  refine e_ix h e_int ?_
  obtain ⟨hk, e⟩ := List.getElem?_eq_some_iff.mp h3
  simp only [ixD, h2, L2.atI, ixN]
  rw [if_pos (by omega), if_pos (by omega)]
  simp [h3]
theorem s_par {i j : Nat} (h : evE C a σ St = some (x, S1)) (h2 : evE C b σ S1 = some (y, S2)) : evS C (.par i j a b) σ St = some (.nx ((σ.set i (some x)).set j (some y)) S2) := by
  rw [evS, h, Option.bind_some, h2]
  rfl
theorem s_if1 {t : E} {u : S} (h : evE C t σ St = some (.bl false, S1)) : evS C (.ite t u .skip) σ St = some (.nx σ S1) :=
  s_if (z := false) h (by rw [if_neg (by decide), evS])
theorem at_new {o : O} : (St ++ [o])[St.length]? = some o := by simp
end
theorem Pen.app {St T : Store} {p : Nat} {a : Int} (h : Pen St p a) : Pen (St ++ T) p a := by
  obtain ⟨c, st, cells, h1, h2, h3, h4⟩ := h
  exact ⟨c, st, cells, get_app h1, get_app h2, h3, h4⟩
theorem Pen.lt {St : Store} {p : Nat} {a : Int} (h : Pen St p a) : p < St.length := by
  obtain ⟨c, st, cells, h1, h2, h3, h4⟩ := h
  exact (List.getElem?_eq_some_iff.mp h1).1
theorem Sm.bools {St : Store} {a b : Nat} {bs : List Bool} (h : St[a]? = some (.lst (bs.map D.bl))) (h' : St[b]? = some (.lst (bs.map D.bl))) (hl : bs.length ≤ 1000) : Sm St 1 (.loc a) (.loc b) := by
  refine .inr ⟨_, _, .inr ⟨a, b, rfl, rfl, h, h'⟩, rfl, by simpa using hl, fun i u v e1 e2 => ?_⟩
  rw [e1] at e2
  cases e2
  have hm := List.mem_of_getElem? e1
  obtain ⟨z, _, rfl⟩ := List.mem_map.mp hm
  exact ⟨rfl, rfl⟩
theorem Sm.list {St : Store} {k a b : Nat} {xs : List D} (h : St[a]? = some (.lst xs)) (h' : St[b]? = some (.lst xs)) (hl : xs.length ≤ 1000) (hx : ∀ x ∈ xs, Sm St k x x) : Sm St (k + 1) (.loc a) (.loc b) := by
  refine .inr ⟨_, _, .inr ⟨a, b, rfl, rfl, h, h'⟩, rfl, hl, fun i u v e1 e2 => ?_⟩
  rw [e1] at e2
  cases e2
  exact hx _ (List.mem_of_getElem? e1)
theorem Sm.tup {St : Store} {k : Nat} {xs : List D} (hl : xs.length ≤ 1000) (hx : ∀ x ∈ xs, Sm St k x x) : Sm St (k + 1) (.tup xs) (.tup xs) := by
  refine .inr ⟨_, _, .inl ⟨rfl, rfl⟩, rfl, hl, fun i u v e1 e2 => ?_⟩
  rw [e1] at e2
  cases e2
  exact hx _ (List.mem_of_getElem? e1)
theorem Sm.flat {St : Store} : ∀ {k : Nat} {x : D}, flatK x = true → Sm St k x x
  | 0, _, h => ⟨rfl, h⟩
  | _ + 1, _, h => .inl ⟨rfl, h⟩
/-- a taken number, by the pen in slot 1 -/
structure Tk (p : Nat) (a : Int) (St S' : Store) : Prop where
  ex : Ex p St S'
  len : St.length ≤ S'.length
  pen : ∃ a', Pen S' p a' ∧ 0 ≤ a' ∧ a' ≤ a + 1
section
variable {C : Ev} {σ : Sl} {St S1 : Store} {p f : Nat} {a am : Int}
def Takes (C : Ev) (f : Nat) : Prop := ∀ {St : Store} {p : Nat} {a am : Int}, Pen St p a → 0 ≤ a → a ≤ 1000000 → 0 < am → am < 1073741824 →
  ∃ r S' a', C.cf f St [.loc p, .int am] = some (.int r, S') ∧ 0 ≤ r ∧ r < am ∧ Ex p St S' ∧ St.length ≤ S'.length ∧ Pen S' p a' ∧ 0 ≤ a' ∧ a' ≤ a + 1
theorem take_num (hT : Takes C f) {i : Nat} (hv : σ[i]? = some (some (.loc p))) (hP : Pen St p a) (h0 : 0 ≤ a) (h1 : a ≤ 1000000) (h2 : 0 < am) (h3 : am < 1073741824) :
    ∃ r S', evE C (.call f (.cons (.var i) (.cons (.int am) .nil))) σ St = some (.int r, S') ∧ 0 ≤ r ∧ r < am ∧ Tk p a St S' := by
  obtain ⟨r, S', a', e, r0, r1, x, l, P, q⟩ := hT hP h0 h1 h2 h3
  exact ⟨r, S', e_call (a_cons (e_var hv) (a_cons e_int a_nil)) e, r0, r1, x, l, a', P, q⟩
theorem take_pick (hT : Takes C f) {i : Nat} {as : E} {xs : List D} (hv : σ[i]? = some (some (.loc p))) (ha : evA C as σ St = some (xs, S1)) (hP : Pen S1 p a) (h0 : 0 ≤ a) (h1 : a ≤ 1000000) (hl : xs.length ≤ 1000) (h2 : 0 < xs.length) (hm : am = xs.length) :
    ∃ d S', evE C (.ix (.lst as) (.call f (.cons (.var i) (.cons (.int am) .nil)))) σ St = some (d, S') ∧ d ∈ xs ∧ Tk p a S1 S' := by
  obtain ⟨r, S', e, r0, r1, t⟩ := take_num (am := am) hT hv (St := S1 ++ [.lst xs]) hP.app h0 h1 (by omega) (by omega)
  have hn : S1.length ≠ p := by have := hP.lt; omega
  have hS := t.ex _ _ hn at_new
  obtain ⟨x, hx, e2, _⟩ := atI_int (xs := xs) r0 (by omega)
  refine ⟨x, S', e_ix (e_lst ha (Nat.le_trans hl (by decide))) e (by simp only [ixD, hS, e2, Option.map_some]), hx, fun n o hn e => t.ex n o hn (get_app e), ?_, t.pen⟩
  have := t.len
  simp at this
  omega
end
end IP

namespace G
open PySem L2 RZ IP
def topS (i : Nat) : Stmt := PySem.Challenge.pw_codelots_k08_refusals_made_by_hand.main.body.getD i (.Pass ⟨0, 0, 0, 0⟩)
abbrev s_l_open : Stmt := topS 15
abbrev N_l_open : List Str := ["script", "cells", "k", "cell"]
def b_l_open : S :=
    (.seq (.asg (.name 1) (.cb .list (.cons (.sl (.var 0) .nil (.cons (.int 12) .nil)) .nil)))
    (.seq (.for_ (.ienum (.sl (.var 0) (.cons (.int 12) .nil) (.cons (.int 63) .nil))) (.tup [2, 3]) (.sub (.var 1) (.op .mod (.var 2) (.int 12)) (.op .add (.ix (.var 1) (.op .mod (.var 2) (.int 12))) (.var 3))))
    (.ret (.lst (.cons (.var 1) (.cons (.int 0) (.cons (.int 0) .nil)))))))
abbrev s_l_spread : Stmt := topS 16
abbrev N_l_spread : List Str := ["cell", "at", "primes", "one", "two", "three"]
def b_l_spread : S :=
    (.seq (.ite (.op .ge (.var 0) (.op .pow (.int 10) (.int 18))) (.ret (.var 0)) .skip)
    (.seq (.asg (.name 2) (.lst (.cons (.int 2147483629) (.cons (.int 2147483587) (.cons (.int 2147483579) (.cons (.int 2147483563) (.cons (.int 2147483549) (.cons (.int 2147483543) (.cons (.int 2147483497) (.cons (.int 2147483489) .nil))))))))))
    (.seq (.asg (.name 2) (.op .add (.var 2) (.lst (.cons (.int 2147483477) (.cons (.int 2147483423) (.cons (.int 2147483399) (.cons (.int 2147483353) (.cons (.int 2147483323) .nil))))))))
    (.seq (.asg (.name 3) (.op .mod (.op .pow (.op .add (.op .add (.op .mul (.op .mod (.var 0) (.int 1000000007)) (.op .add (.op .mul (.int 2) (.var 1)) (.int 69069))) (.op .mul (.var 1) (.int 40503))) (.int 977)) (.int 3)) (.ix (.var 2) (.op .mod (.var 1) (.int 13)))))
    (.seq (.asg (.name 4) (.op .mod (.op .pow (.op .add (.op .add (.op .mul (.var 3) (.op .add (.var 1) (.int 3))) (.op .mod (.var 0) (.int 65537))) (.int 5)) (.int 5)) (.ix (.var 2) (.op .mod (.op .add (.var 1) (.int 5)) (.int 13)))))
    (.seq (.asg (.name 5) (.op .mod (.op .pow (.op .add (.op .add (.var 4) (.op .mod (.var 3) (.int 1009))) (.var 1)) (.int 3)) (.ix (.var 2) (.op .mod (.op .add (.var 1) (.int 7)) (.int 13)))))
    (.ret (.op .add (.op .mul (.op .add (.op .mul (.var 3) (.int 2147483647)) (.var 4)) (.int 2147483647)) (.var 5)))))))))
abbrev s_l_take : Stmt := topS 17
abbrev N_l_take : List Str := ["pen", "amount", "at", "cell", "found"]
def b_l_take : S :=
    (.seq (.ite (.op .lt (.ix (.var 0) (.int 2)) (.var 1)) (.seq (.asg (.name 2) (.ix (.var 0) (.int 1)))
    (.seq (.asg (.name 3) (.int 0))
    (.seq (.ite (.op .lt (.var 2) (.cb .len (.cons (.ix (.var 0) (.int 0)) .nil))) (.asg (.name 3) (.ix (.ix (.var 0) (.int 0)) (.var 2))) (.ite (.op .gt (.cb .len (.cons (.ix (.var 0) (.int 0)) .nil)) (.int 0)) (.asg (.name 3) (.op .mod (.ix (.ix (.var 0) (.int 0)) (.op .mod (.op .add (.op .mul (.var 2) (.int 5)) (.int 3)) (.cb .len (.cons (.ix (.var 0) (.int 0)) .nil)))) (.op .add (.op .pow (.int 10) (.int 17)) (.var 2)))) .skip))
    (.seq (.sub (.var 0) (.int 1) (.op .add (.var 2) (.int 1)))
    (.sub (.var 0) (.int 2) (.call 1 (.cons (.var 3) (.cons (.var 2) .nil)))))))) .skip)
    (.seq (.asg (.name 4) (.op .mod (.ix (.var 0) (.int 2)) (.var 1)))
    (.seq (.sub (.var 0) (.int 2) (.op .fdiv (.ix (.var 0) (.int 2)) (.var 1)))
    (.ret (.var 4)))))
abbrev s_l_same : Stmt := topS 18
abbrev N_l_same : List Str := ["found", "due", "one", "other"]
def b_l_same : S :=
    (.seq (.ite (.orV (.op .is (.var 1) .non) (.op .is (.var 0) .non)) (.ret (.andV (.op .is (.var 1) .non) (.op .is (.var 0) .non))) .skip)
    (.seq (.ite (.orV (.isi [.bool] (.var 1)) (.isi [.bool] (.var 0))) (.ret (.andV (.isi [.bool] (.var 1)) (.andV (.isi [.bool] (.var 0)) (.op .eq (.var 0) (.var 1))))) .skip)
    (.seq (.ite (.isi [.int, .str] (.var 1)) (.seq (.ite (.op .ne (.isi [.int] (.var 0)) (.isi [.int] (.var 1))) (.ret (.bl false)) .skip)
    (.ret (.andV (.isi [.int, .str] (.var 0)) (.op .eq (.var 0) (.var 1))))) .skip)
    (.seq (.ite (.orV (.op .ne (.isi [.tuple] (.var 1)) (.isi [.tuple] (.var 0))) (.op .ne (.isi [.list] (.var 1)) (.isi [.list] (.var 0)))) (.ret (.bl false)) .skip)
    (.seq (.ite (.op .ne (.cb .len (.cons (.var 0) .nil)) (.cb .len (.cons (.var 1) .nil))) (.ret (.bl false)) .skip)
    (.ret (.op .nin (.bl false) (.lc (.izip (.var 0) (.var 1)) (.tup [2, 3]) .nil (.call 3 (.cons (.var 2) (.cons (.var 3) .nil)))))))))))
abbrev s_l_kinds : Stmt := topS 19
abbrev N_l_kinds : List Str := ["one", "found"]
def b_l_kinds : S :=
    (.seq (.asg (.name 1) (.lst (.cons (.isx 0 (.var 0)) (.cons (.isx 1 (.var 0)) (.cons (.isx 2 (.var 0)) (.cons (.isx 3 (.var 0)) .nil))))))
    (.seq (.asg (.name 1) (.op .add (.var 1) (.lst (.cons (.isx 4 (.var 0)) (.cons (.isx 5 (.var 0)) (.cons (.isx 6 (.var 0)) (.cons (.isx 7 (.var 0)) .nil)))))))
    (.seq (.asg (.name 1) (.op .add (.var 1) (.lst (.cons (.isx 8 (.var 0)) (.cons (.isx 9 (.var 0)) (.cons (.isx 10 (.var 0)) .nil))))))
    (.ret (.op .add (.var 1) (.lst (.cons (.isx 11 (.var 0)) .nil)))))))
abbrev s_p_law : Stmt := topS 20
abbrev N_p_law : List Str := ["script", "pen", "turn", "word", "first", "second", "name", "thing", "some", "k", "one", "fields", "due", "j"]
def b_p_law : S :=
    (.seq (.asg (.name 1) (.call 0 (.cons (.var 0) .nil)))
    (.seq (.for_ (.irng1 (.int 3)) (.name 2) (.seq (.asg (.name 3) (.ix (.lst (.cons (.str "") (.cons (.str "a word") (.cons (.str "none") .nil)))) (.call 2 (.cons (.var 1) (.cons (.int 3) .nil)))))
    (.seq (.par 4 5 (.call 2 (.cons (.var 1) (.cons (.int 6) .nil))) (.call 2 (.cons (.var 1) (.cons (.int 15) .nil))))
    (.seq (.par 6 7 (.ix (.lst (.cons (.str "a") (.cons (.str "zzzzzzzz") .nil))) (.call 2 (.cons (.var 1) (.cons (.int 2) .nil)))) (.ix (.lst (.cons .non (.cons (.str "") (.cons (.lst (.cons (.str "a") .nil)) (.cons (.tup (.cons (.str "a") (.cons (.int 1) .nil))) (.cons (.int 7) (.cons (.bl true) .nil))))))) (.call 2 (.cons (.var 1) (.cons (.int 6) .nil)))))
    (.seq (.asg (.name 8) (.lst (.cons (.mkx 0 (.cons (.var 4) (.cons (.var 5) .nil))) (.cons (.mkx 1 (.cons (.var 5) (.cons (.var 4) .nil))) (.cons (.mkx 2 (.cons (.var 3) .nil)) (.cons (.mkx 3 (.cons (.op .add (.op .pow (.int 10) (.int 30)) (.var 4)) .nil)) (.cons (.mkx 4 (.cons (.var 3) .nil)) .nil)))))))
    (.seq (.asg (.name 8) (.op .add (.var 8) (.lst (.cons (.mkx 5 (.cons (.op .sub (.var 5) (.int 1)) .nil)) (.cons (.mkx 6 (.cons (.var 6) .nil)) (.cons (.mkx 7 (.cons (.var 5) .nil)) (.cons (.mkx 8 (.cons (.var 7) .nil)) (.cons (.mkx 9 (.cons (.var 7) .nil)) .nil))))))))
    (.seq (.asg (.name 8) (.op .add (.var 8) (.lst (.cons (.mkx 10 (.cons (.var 3) .nil)) (.cons (.mkx 11 (.cons (.var 3) .nil)) .nil)))))
    (.seq (.for_ (.ienum (.var 8)) (.tup [9, 10]) (.seq (.ite (.orV (.notV (.isx 12 (.var 10))) (.notV (.isx 13 (.var 10)))) (.ret (.bl false)) .skip)
    (.ite (.notV (.call 3 (.cons (.call 4 (.cons (.var 10) .nil)) (.cons (.lc (.irng1 (.int 12)) (.name 13) .nil (.op .eq (.var 13) (.var 9))) .nil)))) (.ret (.bl false)) .skip)))
    (.seq (.asg (.name 11) (.lst (.cons (.fld (.ix (.var 8) (.int 0)) "block") (.cons (.fld (.ix (.var 8) (.int 0)) "row") (.cons (.fld (.ix (.var 8) (.int 1)) "block") (.cons (.fld (.ix (.var 8) (.int 1)) "row") (.cons (.fld (.ix (.var 8) (.int 3)) "count") (.cons (.fld (.ix (.var 8) (.int 5)) "room") (.cons (.fld (.ix (.var 8) (.int 6)) "name") .nil)))))))))
    (.seq (.asg (.name 11) (.op .add (.var 11) (.lst (.cons (.fld (.ix (.var 8) (.int 7)) "most") (.cons (.fld (.ix (.var 8) (.int 8)) "name") (.cons (.fld (.ix (.var 8) (.int 9)) "holder") .nil))))))
    (.seq (.asg (.name 12) (.lst (.cons (.var 4) (.cons (.var 5) (.cons (.var 5) (.cons (.var 4) (.cons (.op .add (.op .pow (.int 10) (.int 30)) (.var 4)) (.cons (.op .sub (.var 5) (.int 1)) (.cons (.var 6) (.cons (.var 5) (.cons (.var 7) (.cons (.var 7) .nil))))))))))))
    (.ite (.notV (.call 3 (.cons (.var 11) (.cons (.var 12) .nil)))) (.ret (.bl false)) .skip))))))))))))
    (.ret (.bl true))))
def defs : Nat → Df
  | 0 => ⟨1, 4, b_l_open⟩
  | 1 => ⟨2, 6, b_l_spread⟩
  | 2 => ⟨2, 5, b_l_take⟩
  | 3 => ⟨2, 4, b_l_same⟩
  | 4 => ⟨1, 2, b_l_kinds⟩
  | 5 => ⟨1, 14, b_p_law⟩
  | _ => ⟨0, 0, .skip⟩
def gd : Nat → D
  | _ => .non
def ks : Nat → List Str
  | _ => []
end G
namespace G
open PySem L2 RZ IP
structure Ad where
  c_L : Addr
  c_Empty : Addr
  i_Empty : Addr
  di_Empty : FuncData
  c_Twin : Addr
  i_Twin : Addr
  di_Twin : FuncData
  c_NoSet : Addr
  c_NoNumber : Addr
  i_NoNumber : Addr
  di_NoNumber : FuncData
  c_NoCode : Addr
  c_NoRoom : Addr
  i_NoRoom : Addr
  di_NoRoom : FuncData
  c_Standing : Addr
  i_Standing : Addr
  di_Standing : FuncData
  c_Full : Addr
  i_Full : Addr
  di_Full : FuncData
  c_NoName : Addr
  i_NoName : Addr
  di_NoName : FuncData
  c_NoHolder : Addr
  i_NoHolder : Addr
  di_NoHolder : FuncData
  c_NoBlock : Addr
  c_NoText : Addr
  f_l_open : Addr
  d_l_open : FuncData
  f_l_spread : Addr
  d_l_spread : FuncData
  f_l_take : Addr
  d_l_take : FuncData
  f_l_same : Addr
  d_l_same : FuncData
  f_l_kinds : Addr
  d_l_kinds : FuncData
  f_p_law : Addr
  d_p_law : FuncData
  none : Unit
def gvOf (X : Ad) : Nat → V
  | _ => .non
def kvOf (X : Ad) : Nat → V
  | _ => .non
def clOf (X : Ad) : Nat → Addr
  | 0 => X.c_Empty
  | 1 => X.c_Twin
  | 2 => X.c_NoSet
  | 3 => X.c_NoNumber
  | 4 => X.c_NoCode
  | 5 => X.c_NoRoom
  | 6 => X.c_Standing
  | 7 => X.c_Full
  | 8 => X.c_NoName
  | 9 => X.c_NoHolder
  | 10 => X.c_NoBlock
  | 11 => X.c_NoText
  | _ => 0
def cvOf (X : Ad) : Nat → V
  | 0 => .ref X.c_Empty
  | 1 => .ref X.c_Twin
  | 2 => .ref X.c_NoSet
  | 3 => .ref X.c_NoNumber
  | 4 => .ref X.c_NoCode
  | 5 => .ref X.c_NoRoom
  | 6 => .ref X.c_Standing
  | 7 => .ref X.c_Full
  | 8 => .ref X.c_NoName
  | 9 => .ref X.c_NoHolder
  | 10 => .ref X.c_NoBlock
  | 11 => .ref X.c_NoText
  | 12 => .ref X.c_L
  | _ => .ty "ValueError"
def cuOf (X : Ad) : Nat → Value
  | 0 => .ref X.c_Empty
  | 1 => .ref X.c_Twin
  | 2 => .ref X.c_NoSet
  | 3 => .ref X.c_NoNumber
  | 4 => .ref X.c_NoCode
  | 5 => .ref X.c_NoRoom
  | 6 => .ref X.c_Standing
  | 7 => .ref X.c_Full
  | 8 => .ref X.c_NoName
  | 9 => .ref X.c_NoHolder
  | 10 => .ref X.c_NoBlock
  | 11 => .ref X.c_NoText
  | 12 => .ref X.c_L
  | _ => .type "ValueError"
def ownCls (X : Ad) (A : Addr) : Bool := (List.range 12).any fun c => decide (clOf X c = A)
def mkxOf (X : Ad) : Nat → List D → Option (Addr × List Str × List D)
  | 0 => fun ds => (dII "row" "block" ds).map fun r => (X.c_Empty, r)
  | 1 => fun ds => (dII "row" "block" ds).map fun r => (X.c_Twin, r)
  | 2 => fun ds => (dN ds).map fun r => (X.c_NoSet, r)
  | 3 => fun ds => (dI "count" ds).map fun r => (X.c_NoNumber, r)
  | 4 => fun ds => (dN ds).map fun r => (X.c_NoCode, r)
  | 5 => fun ds => (dI "room" ds).map fun r => (X.c_NoRoom, r)
  | 6 => fun ds => (dS "name" ds).map fun r => (X.c_Standing, r)
  | 7 => fun ds => (dI "most" ds).map fun r => (X.c_Full, r)
  | 8 => fun ds => (dA "name" ds).map fun r => (X.c_NoName, r)
  | 9 => fun ds => (dA "holder" ds).map fun r => (X.c_NoHolder, r)
  | 10 => fun ds => (dN ds).map fun r => (X.c_NoBlock, r)
  | 11 => fun ds => (dN ds).map fun r => (X.c_NoText, r)
  | _ => fun _ => none
def mkROf (X : Ad) : Nat → List V → Hp → VK → Prop
  | 0 => rMkI X.c_Empty (spInit X.c_Empty (fII "row" "block"))
  | 1 => rMkI X.c_Twin (spInit X.c_Twin (fII "row" "block"))
  | 2 => rMk0 X.c_NoSet
  | 3 => rMkI X.c_NoNumber (spInit X.c_NoNumber (fI "count"))
  | 4 => rMk0 X.c_NoCode
  | 5 => rMkI X.c_NoRoom (spInit X.c_NoRoom (fI "room"))
  | 6 => rMkI X.c_Standing (spInit X.c_Standing (fS "name"))
  | 7 => rMkI X.c_Full (spInit X.c_Full (fI "most"))
  | 8 => rMkI X.c_NoName (spInit X.c_NoName (fA "name"))
  | 9 => rMkI X.c_NoHolder (spInit X.c_NoHolder (fA "holder"))
  | 10 => rMk0 X.c_NoBlock
  | 11 => rMk0 X.c_NoText
  | _ => fun _ _ _ => False
def BX (K : PySem.W.Frag) (X : Ad) : Bas := ⟨gd, ks, mkxOf X, fun A j => if ownCls X A then PySem.W.kitOne K (.ref A) (cuOf X j) else none, fun A f => ownCls X A && decide (PySem.W.findIn K (.ref A) f = some none)⟩
abbrev Cn (K : PySem.W.Frag) (X : Ad) (n : Nat) : Ev := ⟨BX K X, callN defs (BX K X) n⟩
def ZX (X : Ad) : Ds := ⟨gvOf X, kvOf X, cvOf X, mkROf X⟩
structure Txt (K : PySem.W.Frag) (mg : Str → Option Value) (X : Ad) : Prop where
  g_l_open : mg "_law_open" = some (.ref X.f_l_open)
  F_l_open : Fun K "_law_open" "_law_open" s_l_open X.f_l_open X.d_l_open
  k_l_open : PySem.W.keepIn K (.ref X.f_l_open) = true
  b_l_open : Binds K X.d_l_open ["script"] []
  g_l_spread : mg "_law_spread" = some (.ref X.f_l_spread)
  F_l_spread : Fun K "_law_spread" "_law_spread" s_l_spread X.f_l_spread X.d_l_spread
  k_l_spread : PySem.W.keepIn K (.ref X.f_l_spread) = true
  b_l_spread : Binds K X.d_l_spread ["cell", "at"] []
  g_l_take : mg "_law_take" = some (.ref X.f_l_take)
  F_l_take : Fun K "_law_take" "_law_take" s_l_take X.f_l_take X.d_l_take
  k_l_take : PySem.W.keepIn K (.ref X.f_l_take) = true
  b_l_take : Binds K X.d_l_take ["pen", "amount"] []
  g_l_same : mg "_law_same" = some (.ref X.f_l_same)
  F_l_same : Fun K "_law_same" "_law_same" s_l_same X.f_l_same X.d_l_same
  k_l_same : PySem.W.keepIn K (.ref X.f_l_same) = true
  b_l_same : Binds K X.d_l_same ["found", "due"] []
  g_l_kinds : mg "_law_kinds" = some (.ref X.f_l_kinds)
  F_l_kinds : Fun K "_law_kinds" "_law_kinds" s_l_kinds X.f_l_kinds X.d_l_kinds
  k_l_kinds : PySem.W.keepIn K (.ref X.f_l_kinds) = true
  b_l_kinds : Binds K X.d_l_kinds ["one"] []
  g_p_law : mg "law" = some (.ref X.f_p_law)
  F_p_law : Fun K "law" "law" s_p_law X.f_p_law X.d_p_law
  k_p_law : PySem.W.keepIn K (.ref X.f_p_law) = true
  b_p_law : Binds K X.d_p_law ["script"] []
  n_ValueError : mg "ValueError" = none
  n_bool : mg "bool" = none
  n_enumerate : mg "enumerate" = none
  n_int : mg "int" = none
  n_isinstance : mg "isinstance" = none
  n_len : mg "len" = none
  n_list : mg "list" = none
  n_range : mg "range" = none
  n_str : mg "str" = none
  n_tuple : mg "tuple" = none
  n_zip : mg "zip" = none
  gL : mg "LotError" = some (.ref X.c_L)
  gaL : PySem.W.specialIn K (.ref X.c_L) "__getattribute__" = some (some (.builtin "type.__getattribute__"))
  rdL : PySem.W.readsIn K X.c_L (.type "type") = true
  vL : PySem.W.findCls K (.ref X.c_L) (.type "type") "__init__" = some (.val (.builtin "ValueError.__init__"))
  gc_Empty : mg "Empty" = some (.ref X.c_Empty)
  xc_Empty : XCls K X.c_Empty
  kc_Empty : PySem.W.keepIn K (.ref X.c_Empty) = true
  oex_Empty : OexC K X.c_Empty
  ic_Empty : PySem.W.findIn K (.ref X.c_Empty) "__init__" = some (some (.ref X.i_Empty))
  ti_Empty : PySem.W.typeIn K (.ref X.i_Empty) = some (.type "function")
  Fi_Empty : Fun K "__init__" "Empty.__init__" (inClass (topS 2) 0) X.i_Empty X.di_Empty
  bi_Empty : Binds K X.di_Empty ["self", "block", "row"] []
  nf_Empty_block : PySem.W.findIn K (.ref X.c_Empty) "block" = some none
  nf_Empty_row : PySem.W.findIn K (.ref X.c_Empty) "row" = some none
  gc_Twin : mg "Twin" = some (.ref X.c_Twin)
  xc_Twin : XCls K X.c_Twin
  kc_Twin : PySem.W.keepIn K (.ref X.c_Twin) = true
  oex_Twin : OexC K X.c_Twin
  ic_Twin : PySem.W.findIn K (.ref X.c_Twin) "__init__" = some (some (.ref X.i_Twin))
  ti_Twin : PySem.W.typeIn K (.ref X.i_Twin) = some (.type "function")
  Fi_Twin : Fun K "__init__" "Twin.__init__" (inClass (topS 3) 0) X.i_Twin X.di_Twin
  bi_Twin : Binds K X.di_Twin ["self", "block", "row"] []
  nf_Twin_block : PySem.W.findIn K (.ref X.c_Twin) "block" = some none
  nf_Twin_row : PySem.W.findIn K (.ref X.c_Twin) "row" = some none
  gc_NoSet : mg "NoSet" = some (.ref X.c_NoSet)
  xc_NoSet : XCls K X.c_NoSet
  kc_NoSet : PySem.W.keepIn K (.ref X.c_NoSet) = true
  ex0_NoSet : PySem.W.excIn K X.c_NoSet [.type "ValueError", .type "Exception", .type "BaseException", .type "object"] "ValueError.__new__" = true
  gc_NoNumber : mg "NoNumber" = some (.ref X.c_NoNumber)
  xc_NoNumber : XCls K X.c_NoNumber
  kc_NoNumber : PySem.W.keepIn K (.ref X.c_NoNumber) = true
  oex_NoNumber : OexC K X.c_NoNumber
  ic_NoNumber : PySem.W.findIn K (.ref X.c_NoNumber) "__init__" = some (some (.ref X.i_NoNumber))
  ti_NoNumber : PySem.W.typeIn K (.ref X.i_NoNumber) = some (.type "function")
  Fi_NoNumber : Fun K "__init__" "NoNumber.__init__" (inClass (topS 5) 0) X.i_NoNumber X.di_NoNumber
  bi_NoNumber : Binds K X.di_NoNumber ["self", "count"] []
  nf_NoNumber_count : PySem.W.findIn K (.ref X.c_NoNumber) "count" = some none
  gc_NoCode : mg "NoCode" = some (.ref X.c_NoCode)
  xc_NoCode : XCls K X.c_NoCode
  kc_NoCode : PySem.W.keepIn K (.ref X.c_NoCode) = true
  ex0_NoCode : PySem.W.excIn K X.c_NoCode [.type "ValueError", .type "Exception", .type "BaseException", .type "object"] "ValueError.__new__" = true
  gc_NoRoom : mg "NoRoom" = some (.ref X.c_NoRoom)
  xc_NoRoom : XCls K X.c_NoRoom
  kc_NoRoom : PySem.W.keepIn K (.ref X.c_NoRoom) = true
  oex_NoRoom : OexC K X.c_NoRoom
  ic_NoRoom : PySem.W.findIn K (.ref X.c_NoRoom) "__init__" = some (some (.ref X.i_NoRoom))
  ti_NoRoom : PySem.W.typeIn K (.ref X.i_NoRoom) = some (.type "function")
  Fi_NoRoom : Fun K "__init__" "NoRoom.__init__" (inClass (topS 7) 0) X.i_NoRoom X.di_NoRoom
  bi_NoRoom : Binds K X.di_NoRoom ["self", "room"] []
  nf_NoRoom_room : PySem.W.findIn K (.ref X.c_NoRoom) "room" = some none
  gc_Standing : mg "Standing" = some (.ref X.c_Standing)
  xc_Standing : XCls K X.c_Standing
  kc_Standing : PySem.W.keepIn K (.ref X.c_Standing) = true
  oex_Standing : OexC K X.c_Standing
  ic_Standing : PySem.W.findIn K (.ref X.c_Standing) "__init__" = some (some (.ref X.i_Standing))
  ti_Standing : PySem.W.typeIn K (.ref X.i_Standing) = some (.type "function")
  Fi_Standing : Fun K "__init__" "Standing.__init__" (inClass (topS 8) 0) X.i_Standing X.di_Standing
  bi_Standing : Binds K X.di_Standing ["self", "name"] []
  nf_Standing_name : PySem.W.findIn K (.ref X.c_Standing) "name" = some none
  gc_Full : mg "Full" = some (.ref X.c_Full)
  xc_Full : XCls K X.c_Full
  kc_Full : PySem.W.keepIn K (.ref X.c_Full) = true
  oex_Full : OexC K X.c_Full
  ic_Full : PySem.W.findIn K (.ref X.c_Full) "__init__" = some (some (.ref X.i_Full))
  ti_Full : PySem.W.typeIn K (.ref X.i_Full) = some (.type "function")
  Fi_Full : Fun K "__init__" "Full.__init__" (inClass (topS 9) 0) X.i_Full X.di_Full
  bi_Full : Binds K X.di_Full ["self", "most"] []
  nf_Full_most : PySem.W.findIn K (.ref X.c_Full) "most" = some none
  gc_NoName : mg "NoName" = some (.ref X.c_NoName)
  xc_NoName : XCls K X.c_NoName
  kc_NoName : PySem.W.keepIn K (.ref X.c_NoName) = true
  oex_NoName : OexC K X.c_NoName
  ic_NoName : PySem.W.findIn K (.ref X.c_NoName) "__init__" = some (some (.ref X.i_NoName))
  ti_NoName : PySem.W.typeIn K (.ref X.i_NoName) = some (.type "function")
  Fi_NoName : Fun K "__init__" "NoName.__init__" (inClass (topS 10) 0) X.i_NoName X.di_NoName
  bi_NoName : Binds K X.di_NoName ["self", "name"] []
  nf_NoName_name : PySem.W.findIn K (.ref X.c_NoName) "name" = some none
  gc_NoHolder : mg "NoHolder" = some (.ref X.c_NoHolder)
  xc_NoHolder : XCls K X.c_NoHolder
  kc_NoHolder : PySem.W.keepIn K (.ref X.c_NoHolder) = true
  oex_NoHolder : OexC K X.c_NoHolder
  ic_NoHolder : PySem.W.findIn K (.ref X.c_NoHolder) "__init__" = some (some (.ref X.i_NoHolder))
  ti_NoHolder : PySem.W.typeIn K (.ref X.i_NoHolder) = some (.type "function")
  Fi_NoHolder : Fun K "__init__" "NoHolder.__init__" (inClass (topS 11) 0) X.i_NoHolder X.di_NoHolder
  bi_NoHolder : Binds K X.di_NoHolder ["self", "holder"] []
  nf_NoHolder_holder : PySem.W.findIn K (.ref X.c_NoHolder) "holder" = some none
  gc_NoBlock : mg "NoBlock" = some (.ref X.c_NoBlock)
  xc_NoBlock : XCls K X.c_NoBlock
  kc_NoBlock : PySem.W.keepIn K (.ref X.c_NoBlock) = true
  ex0_NoBlock : PySem.W.excIn K X.c_NoBlock [.type "ValueError", .type "Exception", .type "BaseException", .type "object"] "ValueError.__new__" = true
  gc_NoText : mg "NoText" = some (.ref X.c_NoText)
  xc_NoText : XCls K X.c_NoText
  kc_NoText : PySem.W.keepIn K (.ref X.c_NoText) = true
  ex0_NoText : PySem.W.excIn K X.c_NoText [.type "ValueError", .type "Exception", .type "BaseException", .type "object"] "ValueError.__new__" = true
  kit_0_0 : PySem.W.kitOne K (.ref X.c_Empty) (.ref X.c_Empty) = some true
  kit_0_1 : PySem.W.kitOne K (.ref X.c_Empty) (.ref X.c_Twin) = some false
  kit_0_2 : PySem.W.kitOne K (.ref X.c_Empty) (.ref X.c_NoSet) = some false
  kit_0_3 : PySem.W.kitOne K (.ref X.c_Empty) (.ref X.c_NoNumber) = some false
  kit_0_4 : PySem.W.kitOne K (.ref X.c_Empty) (.ref X.c_NoCode) = some false
  kit_0_5 : PySem.W.kitOne K (.ref X.c_Empty) (.ref X.c_NoRoom) = some false
  kit_0_6 : PySem.W.kitOne K (.ref X.c_Empty) (.ref X.c_Standing) = some false
  kit_0_7 : PySem.W.kitOne K (.ref X.c_Empty) (.ref X.c_Full) = some false
  kit_0_8 : PySem.W.kitOne K (.ref X.c_Empty) (.ref X.c_NoName) = some false
  kit_0_9 : PySem.W.kitOne K (.ref X.c_Empty) (.ref X.c_NoHolder) = some false
  kit_0_10 : PySem.W.kitOne K (.ref X.c_Empty) (.ref X.c_NoBlock) = some false
  kit_0_11 : PySem.W.kitOne K (.ref X.c_Empty) (.ref X.c_NoText) = some false
  kit_0_12 : PySem.W.kitOne K (.ref X.c_Empty) (.ref X.c_L) = some true
  kit_0_13 : PySem.W.kitOne K (.ref X.c_Empty) (.type "ValueError") = some true
  kit_1_0 : PySem.W.kitOne K (.ref X.c_Twin) (.ref X.c_Empty) = some false
  kit_1_1 : PySem.W.kitOne K (.ref X.c_Twin) (.ref X.c_Twin) = some true
  kit_1_2 : PySem.W.kitOne K (.ref X.c_Twin) (.ref X.c_NoSet) = some false
  kit_1_3 : PySem.W.kitOne K (.ref X.c_Twin) (.ref X.c_NoNumber) = some false
  kit_1_4 : PySem.W.kitOne K (.ref X.c_Twin) (.ref X.c_NoCode) = some false
  kit_1_5 : PySem.W.kitOne K (.ref X.c_Twin) (.ref X.c_NoRoom) = some false
  kit_1_6 : PySem.W.kitOne K (.ref X.c_Twin) (.ref X.c_Standing) = some false
  kit_1_7 : PySem.W.kitOne K (.ref X.c_Twin) (.ref X.c_Full) = some false
  kit_1_8 : PySem.W.kitOne K (.ref X.c_Twin) (.ref X.c_NoName) = some false
  kit_1_9 : PySem.W.kitOne K (.ref X.c_Twin) (.ref X.c_NoHolder) = some false
  kit_1_10 : PySem.W.kitOne K (.ref X.c_Twin) (.ref X.c_NoBlock) = some false
  kit_1_11 : PySem.W.kitOne K (.ref X.c_Twin) (.ref X.c_NoText) = some false
  kit_1_12 : PySem.W.kitOne K (.ref X.c_Twin) (.ref X.c_L) = some true
  kit_1_13 : PySem.W.kitOne K (.ref X.c_Twin) (.type "ValueError") = some true
  kit_2_0 : PySem.W.kitOne K (.ref X.c_NoSet) (.ref X.c_Empty) = some false
  kit_2_1 : PySem.W.kitOne K (.ref X.c_NoSet) (.ref X.c_Twin) = some false
  kit_2_2 : PySem.W.kitOne K (.ref X.c_NoSet) (.ref X.c_NoSet) = some true
  kit_2_3 : PySem.W.kitOne K (.ref X.c_NoSet) (.ref X.c_NoNumber) = some false
  kit_2_4 : PySem.W.kitOne K (.ref X.c_NoSet) (.ref X.c_NoCode) = some false
  kit_2_5 : PySem.W.kitOne K (.ref X.c_NoSet) (.ref X.c_NoRoom) = some false
  kit_2_6 : PySem.W.kitOne K (.ref X.c_NoSet) (.ref X.c_Standing) = some false
  kit_2_7 : PySem.W.kitOne K (.ref X.c_NoSet) (.ref X.c_Full) = some false
  kit_2_8 : PySem.W.kitOne K (.ref X.c_NoSet) (.ref X.c_NoName) = some false
  kit_2_9 : PySem.W.kitOne K (.ref X.c_NoSet) (.ref X.c_NoHolder) = some false
  kit_2_10 : PySem.W.kitOne K (.ref X.c_NoSet) (.ref X.c_NoBlock) = some false
  kit_2_11 : PySem.W.kitOne K (.ref X.c_NoSet) (.ref X.c_NoText) = some false
  kit_2_12 : PySem.W.kitOne K (.ref X.c_NoSet) (.ref X.c_L) = some true
  kit_2_13 : PySem.W.kitOne K (.ref X.c_NoSet) (.type "ValueError") = some true
  kit_3_0 : PySem.W.kitOne K (.ref X.c_NoNumber) (.ref X.c_Empty) = some false
  kit_3_1 : PySem.W.kitOne K (.ref X.c_NoNumber) (.ref X.c_Twin) = some false
  kit_3_2 : PySem.W.kitOne K (.ref X.c_NoNumber) (.ref X.c_NoSet) = some false
  kit_3_3 : PySem.W.kitOne K (.ref X.c_NoNumber) (.ref X.c_NoNumber) = some true
  kit_3_4 : PySem.W.kitOne K (.ref X.c_NoNumber) (.ref X.c_NoCode) = some false
  kit_3_5 : PySem.W.kitOne K (.ref X.c_NoNumber) (.ref X.c_NoRoom) = some false
  kit_3_6 : PySem.W.kitOne K (.ref X.c_NoNumber) (.ref X.c_Standing) = some false
  kit_3_7 : PySem.W.kitOne K (.ref X.c_NoNumber) (.ref X.c_Full) = some false
  kit_3_8 : PySem.W.kitOne K (.ref X.c_NoNumber) (.ref X.c_NoName) = some false
  kit_3_9 : PySem.W.kitOne K (.ref X.c_NoNumber) (.ref X.c_NoHolder) = some false
  kit_3_10 : PySem.W.kitOne K (.ref X.c_NoNumber) (.ref X.c_NoBlock) = some false
  kit_3_11 : PySem.W.kitOne K (.ref X.c_NoNumber) (.ref X.c_NoText) = some false
  kit_3_12 : PySem.W.kitOne K (.ref X.c_NoNumber) (.ref X.c_L) = some true
  kit_3_13 : PySem.W.kitOne K (.ref X.c_NoNumber) (.type "ValueError") = some true
  kit_4_0 : PySem.W.kitOne K (.ref X.c_NoCode) (.ref X.c_Empty) = some false
  kit_4_1 : PySem.W.kitOne K (.ref X.c_NoCode) (.ref X.c_Twin) = some false
  kit_4_2 : PySem.W.kitOne K (.ref X.c_NoCode) (.ref X.c_NoSet) = some false
  kit_4_3 : PySem.W.kitOne K (.ref X.c_NoCode) (.ref X.c_NoNumber) = some false
  kit_4_4 : PySem.W.kitOne K (.ref X.c_NoCode) (.ref X.c_NoCode) = some true
  kit_4_5 : PySem.W.kitOne K (.ref X.c_NoCode) (.ref X.c_NoRoom) = some false
  kit_4_6 : PySem.W.kitOne K (.ref X.c_NoCode) (.ref X.c_Standing) = some false
  kit_4_7 : PySem.W.kitOne K (.ref X.c_NoCode) (.ref X.c_Full) = some false
  kit_4_8 : PySem.W.kitOne K (.ref X.c_NoCode) (.ref X.c_NoName) = some false
  kit_4_9 : PySem.W.kitOne K (.ref X.c_NoCode) (.ref X.c_NoHolder) = some false
  kit_4_10 : PySem.W.kitOne K (.ref X.c_NoCode) (.ref X.c_NoBlock) = some false
  kit_4_11 : PySem.W.kitOne K (.ref X.c_NoCode) (.ref X.c_NoText) = some false
  kit_4_12 : PySem.W.kitOne K (.ref X.c_NoCode) (.ref X.c_L) = some true
  kit_4_13 : PySem.W.kitOne K (.ref X.c_NoCode) (.type "ValueError") = some true
  kit_5_0 : PySem.W.kitOne K (.ref X.c_NoRoom) (.ref X.c_Empty) = some false
  kit_5_1 : PySem.W.kitOne K (.ref X.c_NoRoom) (.ref X.c_Twin) = some false
  kit_5_2 : PySem.W.kitOne K (.ref X.c_NoRoom) (.ref X.c_NoSet) = some false
  kit_5_3 : PySem.W.kitOne K (.ref X.c_NoRoom) (.ref X.c_NoNumber) = some false
  kit_5_4 : PySem.W.kitOne K (.ref X.c_NoRoom) (.ref X.c_NoCode) = some false
  kit_5_5 : PySem.W.kitOne K (.ref X.c_NoRoom) (.ref X.c_NoRoom) = some true
  kit_5_6 : PySem.W.kitOne K (.ref X.c_NoRoom) (.ref X.c_Standing) = some false
  kit_5_7 : PySem.W.kitOne K (.ref X.c_NoRoom) (.ref X.c_Full) = some false
  kit_5_8 : PySem.W.kitOne K (.ref X.c_NoRoom) (.ref X.c_NoName) = some false
  kit_5_9 : PySem.W.kitOne K (.ref X.c_NoRoom) (.ref X.c_NoHolder) = some false
  kit_5_10 : PySem.W.kitOne K (.ref X.c_NoRoom) (.ref X.c_NoBlock) = some false
  kit_5_11 : PySem.W.kitOne K (.ref X.c_NoRoom) (.ref X.c_NoText) = some false
  kit_5_12 : PySem.W.kitOne K (.ref X.c_NoRoom) (.ref X.c_L) = some true
  kit_5_13 : PySem.W.kitOne K (.ref X.c_NoRoom) (.type "ValueError") = some true
  kit_6_0 : PySem.W.kitOne K (.ref X.c_Standing) (.ref X.c_Empty) = some false
  kit_6_1 : PySem.W.kitOne K (.ref X.c_Standing) (.ref X.c_Twin) = some false
  kit_6_2 : PySem.W.kitOne K (.ref X.c_Standing) (.ref X.c_NoSet) = some false
  kit_6_3 : PySem.W.kitOne K (.ref X.c_Standing) (.ref X.c_NoNumber) = some false
  kit_6_4 : PySem.W.kitOne K (.ref X.c_Standing) (.ref X.c_NoCode) = some false
  kit_6_5 : PySem.W.kitOne K (.ref X.c_Standing) (.ref X.c_NoRoom) = some false
  kit_6_6 : PySem.W.kitOne K (.ref X.c_Standing) (.ref X.c_Standing) = some true
  kit_6_7 : PySem.W.kitOne K (.ref X.c_Standing) (.ref X.c_Full) = some false
  kit_6_8 : PySem.W.kitOne K (.ref X.c_Standing) (.ref X.c_NoName) = some false
  kit_6_9 : PySem.W.kitOne K (.ref X.c_Standing) (.ref X.c_NoHolder) = some false
  kit_6_10 : PySem.W.kitOne K (.ref X.c_Standing) (.ref X.c_NoBlock) = some false
  kit_6_11 : PySem.W.kitOne K (.ref X.c_Standing) (.ref X.c_NoText) = some false
  kit_6_12 : PySem.W.kitOne K (.ref X.c_Standing) (.ref X.c_L) = some true
  kit_6_13 : PySem.W.kitOne K (.ref X.c_Standing) (.type "ValueError") = some true
  kit_7_0 : PySem.W.kitOne K (.ref X.c_Full) (.ref X.c_Empty) = some false
  kit_7_1 : PySem.W.kitOne K (.ref X.c_Full) (.ref X.c_Twin) = some false
  kit_7_2 : PySem.W.kitOne K (.ref X.c_Full) (.ref X.c_NoSet) = some false
  kit_7_3 : PySem.W.kitOne K (.ref X.c_Full) (.ref X.c_NoNumber) = some false
  kit_7_4 : PySem.W.kitOne K (.ref X.c_Full) (.ref X.c_NoCode) = some false
  kit_7_5 : PySem.W.kitOne K (.ref X.c_Full) (.ref X.c_NoRoom) = some false
  kit_7_6 : PySem.W.kitOne K (.ref X.c_Full) (.ref X.c_Standing) = some false
  kit_7_7 : PySem.W.kitOne K (.ref X.c_Full) (.ref X.c_Full) = some true
  kit_7_8 : PySem.W.kitOne K (.ref X.c_Full) (.ref X.c_NoName) = some false
  kit_7_9 : PySem.W.kitOne K (.ref X.c_Full) (.ref X.c_NoHolder) = some false
  kit_7_10 : PySem.W.kitOne K (.ref X.c_Full) (.ref X.c_NoBlock) = some false
  kit_7_11 : PySem.W.kitOne K (.ref X.c_Full) (.ref X.c_NoText) = some false
  kit_7_12 : PySem.W.kitOne K (.ref X.c_Full) (.ref X.c_L) = some true
  kit_7_13 : PySem.W.kitOne K (.ref X.c_Full) (.type "ValueError") = some true
  kit_8_0 : PySem.W.kitOne K (.ref X.c_NoName) (.ref X.c_Empty) = some false
  kit_8_1 : PySem.W.kitOne K (.ref X.c_NoName) (.ref X.c_Twin) = some false
  kit_8_2 : PySem.W.kitOne K (.ref X.c_NoName) (.ref X.c_NoSet) = some false
  kit_8_3 : PySem.W.kitOne K (.ref X.c_NoName) (.ref X.c_NoNumber) = some false
  kit_8_4 : PySem.W.kitOne K (.ref X.c_NoName) (.ref X.c_NoCode) = some false
  kit_8_5 : PySem.W.kitOne K (.ref X.c_NoName) (.ref X.c_NoRoom) = some false
  kit_8_6 : PySem.W.kitOne K (.ref X.c_NoName) (.ref X.c_Standing) = some false
  kit_8_7 : PySem.W.kitOne K (.ref X.c_NoName) (.ref X.c_Full) = some false
  kit_8_8 : PySem.W.kitOne K (.ref X.c_NoName) (.ref X.c_NoName) = some true
  kit_8_9 : PySem.W.kitOne K (.ref X.c_NoName) (.ref X.c_NoHolder) = some false
  kit_8_10 : PySem.W.kitOne K (.ref X.c_NoName) (.ref X.c_NoBlock) = some false
  kit_8_11 : PySem.W.kitOne K (.ref X.c_NoName) (.ref X.c_NoText) = some false
  kit_8_12 : PySem.W.kitOne K (.ref X.c_NoName) (.ref X.c_L) = some true
  kit_8_13 : PySem.W.kitOne K (.ref X.c_NoName) (.type "ValueError") = some true
  kit_9_0 : PySem.W.kitOne K (.ref X.c_NoHolder) (.ref X.c_Empty) = some false
  kit_9_1 : PySem.W.kitOne K (.ref X.c_NoHolder) (.ref X.c_Twin) = some false
  kit_9_2 : PySem.W.kitOne K (.ref X.c_NoHolder) (.ref X.c_NoSet) = some false
  kit_9_3 : PySem.W.kitOne K (.ref X.c_NoHolder) (.ref X.c_NoNumber) = some false
  kit_9_4 : PySem.W.kitOne K (.ref X.c_NoHolder) (.ref X.c_NoCode) = some false
  kit_9_5 : PySem.W.kitOne K (.ref X.c_NoHolder) (.ref X.c_NoRoom) = some false
  kit_9_6 : PySem.W.kitOne K (.ref X.c_NoHolder) (.ref X.c_Standing) = some false
  kit_9_7 : PySem.W.kitOne K (.ref X.c_NoHolder) (.ref X.c_Full) = some false
  kit_9_8 : PySem.W.kitOne K (.ref X.c_NoHolder) (.ref X.c_NoName) = some false
  kit_9_9 : PySem.W.kitOne K (.ref X.c_NoHolder) (.ref X.c_NoHolder) = some true
  kit_9_10 : PySem.W.kitOne K (.ref X.c_NoHolder) (.ref X.c_NoBlock) = some false
  kit_9_11 : PySem.W.kitOne K (.ref X.c_NoHolder) (.ref X.c_NoText) = some false
  kit_9_12 : PySem.W.kitOne K (.ref X.c_NoHolder) (.ref X.c_L) = some true
  kit_9_13 : PySem.W.kitOne K (.ref X.c_NoHolder) (.type "ValueError") = some true
  kit_10_0 : PySem.W.kitOne K (.ref X.c_NoBlock) (.ref X.c_Empty) = some false
  kit_10_1 : PySem.W.kitOne K (.ref X.c_NoBlock) (.ref X.c_Twin) = some false
  kit_10_2 : PySem.W.kitOne K (.ref X.c_NoBlock) (.ref X.c_NoSet) = some false
  kit_10_3 : PySem.W.kitOne K (.ref X.c_NoBlock) (.ref X.c_NoNumber) = some false
  kit_10_4 : PySem.W.kitOne K (.ref X.c_NoBlock) (.ref X.c_NoCode) = some false
  kit_10_5 : PySem.W.kitOne K (.ref X.c_NoBlock) (.ref X.c_NoRoom) = some false
  kit_10_6 : PySem.W.kitOne K (.ref X.c_NoBlock) (.ref X.c_Standing) = some false
  kit_10_7 : PySem.W.kitOne K (.ref X.c_NoBlock) (.ref X.c_Full) = some false
  kit_10_8 : PySem.W.kitOne K (.ref X.c_NoBlock) (.ref X.c_NoName) = some false
  kit_10_9 : PySem.W.kitOne K (.ref X.c_NoBlock) (.ref X.c_NoHolder) = some false
  kit_10_10 : PySem.W.kitOne K (.ref X.c_NoBlock) (.ref X.c_NoBlock) = some true
  kit_10_11 : PySem.W.kitOne K (.ref X.c_NoBlock) (.ref X.c_NoText) = some false
  kit_10_12 : PySem.W.kitOne K (.ref X.c_NoBlock) (.ref X.c_L) = some true
  kit_10_13 : PySem.W.kitOne K (.ref X.c_NoBlock) (.type "ValueError") = some true
  kit_11_0 : PySem.W.kitOne K (.ref X.c_NoText) (.ref X.c_Empty) = some false
  kit_11_1 : PySem.W.kitOne K (.ref X.c_NoText) (.ref X.c_Twin) = some false
  kit_11_2 : PySem.W.kitOne K (.ref X.c_NoText) (.ref X.c_NoSet) = some false
  kit_11_3 : PySem.W.kitOne K (.ref X.c_NoText) (.ref X.c_NoNumber) = some false
  kit_11_4 : PySem.W.kitOne K (.ref X.c_NoText) (.ref X.c_NoCode) = some false
  kit_11_5 : PySem.W.kitOne K (.ref X.c_NoText) (.ref X.c_NoRoom) = some false
  kit_11_6 : PySem.W.kitOne K (.ref X.c_NoText) (.ref X.c_Standing) = some false
  kit_11_7 : PySem.W.kitOne K (.ref X.c_NoText) (.ref X.c_Full) = some false
  kit_11_8 : PySem.W.kitOne K (.ref X.c_NoText) (.ref X.c_NoName) = some false
  kit_11_9 : PySem.W.kitOne K (.ref X.c_NoText) (.ref X.c_NoHolder) = some false
  kit_11_10 : PySem.W.kitOne K (.ref X.c_NoText) (.ref X.c_NoBlock) = some false
  kit_11_11 : PySem.W.kitOne K (.ref X.c_NoText) (.ref X.c_NoText) = some true
  kit_11_12 : PySem.W.kitOne K (.ref X.c_NoText) (.ref X.c_L) = some true
  kit_11_13 : PySem.W.kitOne K (.ref X.c_NoText) (.type "ValueError") = some true
section
variable {P : Program} {w : World} {K : PySem.W.Frag} {mg : Str → Option Value} {base : Heap} {X : Ad}
/-- the defs to a depth of n -/
structure AllOk (P : Program) (w : World) (K : PySem.W.Frag) (mg : Str → Option Value) (base : Heap) (X : Ad) (n : Nat) : Prop where
  o_l_open : FnOk P w K mg base CX0 (n + 3) X.f_l_open X.d_l_open ["script"] (spOf K (Cn K X n) 0)
  o_l_spread : FnOk P w K mg base CX0 (n + 3) X.f_l_spread X.d_l_spread ["cell", "at"] (spOf K (Cn K X n) 1)
  o_l_take : FnOk P w K mg base CX0 (n + 3) X.f_l_take X.d_l_take ["pen", "amount"] (spOf K (Cn K X n) 2)
  o_l_same : FnOk P w K mg base CX0 (n + 3) X.f_l_same X.d_l_same ["found", "due"] (spOf K (Cn K X n) 3)
  o_l_kinds : FnOk P w K mg base CX0 (n + 3) X.f_l_kinds X.d_l_kinds ["one"] (spOf K (Cn K X n) 4)
  o_p_law : FnOk P w K mg base CX0 (n + 3) X.f_p_law X.d_p_law ["script"] (spOf K (Cn K X n) 5)
theorem sp0 {f : Nat} {vs : List V} {H : Hp} {Q : VK} {E : XK} (h : spOf K (Cn K X 0) f vs H Q E) : False := by
  obtain ⟨ms, S, ds, d, S', _, _, e, _⟩ := h
  cases e
theorem sp_len {n f : Nat} {vs : List V} {H : Hp} {Q : VK} {E : XK} (h : spOf K (Cn K X (n + 1)) f vs H Q E) : vs.length = (defs f).params := by
  obtain ⟨ms, S, ds, d, S', _, r, e, _⟩ := h
  simp only [callN] at e
  split at e
  · rw [← r.length]; assumption
  · cases e
theorem own_xcls (T : Txt K mg X) {A : Addr} (h : ownCls X A = true) : XCls K A := by
  obtain ⟨c, hc, e⟩ := List.any_eq_true.mp h
  have hc2 := List.mem_range.mp hc
  have e2 : clOf X c = A := by simpa using e
  subst e2
  match c, hc2 with
  | 0, _ => exact T.xc_Empty
  | 1, _ => exact T.xc_Twin
  | 2, _ => exact T.xc_NoSet
  | 3, _ => exact T.xc_NoNumber
  | 4, _ => exact T.xc_NoCode
  | 5, _ => exact T.xc_NoRoom
  | 6, _ => exact T.xc_Standing
  | 7, _ => exact T.xc_Full
  | 8, _ => exact T.xc_NoName
  | 9, _ => exact T.xc_NoHolder
  | 10, _ => exact T.xc_NoBlock
  | 11, _ => exact T.xc_NoText
theorem cls_v (j : Nat) : ClsV (cvOf X j) (cuOf X j) := by
  match j with
  | 0 => exact .own _
  | 1 => exact .own _
  | 2 => exact .own _
  | 3 => exact .own _
  | 4 => exact .own _
  | 5 => exact .own _
  | 6 => exact .own _
  | 7 => exact .own _
  | 8 => exact .own _
  | 9 => exact .own _
  | 10 => exact .own _
  | 11 => exact .own _
  | 12 => exact .own _
  | n + 13 => exact .ty _
theorem good (T : Txt K mg X) (n : Nat) : Good K (Cn K X n) (ZX X) where
  x := fun A j b e => by
    change (if ownCls X A = true then PySem.W.kitOne K (.ref A) (cuOf X j) else none) = some b at e
    split at e
    · exact ⟨own_xcls T (by assumption), _, cls_v j, e⟩
    · cases e
  f := fun A f e => by
    change (ownCls X A && decide (PySem.W.findIn K (.ref A) f = some none)) = true at e
    rw [Bool.and_eq_true, decide_eq_true_eq] at e
    exact ⟨own_xcls T e.1, e.2⟩
  m := fun c ds A ns xs ms S H vs Q e h r p => by
    match c with
    | 0 => exact mk_fII e h r p
    | 1 => exact mk_fII e h r p
    | 2 => exact mk_N e h r p
    | 3 => exact mk_fI e h r p
    | 4 => exact mk_N e h r p
    | 5 => exact mk_fI e h r p
    | 6 => exact mk_fS e h r p
    | 7 => exact mk_fI e h r p
    | 8 => exact mk_fA e h r p
    | 9 => exact mk_fA e h r p
    | 10 => exact mk_N e h r p
    | 11 => exact mk_N e h r p
    | k + 12 => cases e
  g := fun i H ms => by
    match i with
    | k + 0 => exact .non
  k := fun i hi => by
    match i, hi with
    | k + 0, hi => exact (hi rfl).elim
theorem si_Empty : FnScope ["self", "block", "row"] ["self", "block", "row"] (defScope (inClass (topS 2) 0)) := ⟨rfl, rfl, rfl, by decide +kernel, rfl, by decide +kernel, by decide +kernel⟩
theorem oi_Empty (T : Txt K mg X) : FnOk P w K mg base CX0 1 X.i_Empty X.di_Empty ["self", "block", "row"] (spInit X.c_Empty (fII "row" "block")) := by
  refine T.Fi_Empty.ok si_Empty (fun vs H Q E h => spInit_len h (by intro ws fs e; exact len_fII e)) fun cdv A0 outer s H vs Q E hr h => ?_
  obtain ⟨a, ws, fs, rfl, hf, hH, k⟩ := h
  refine ⟨_, (pss_cons (ps_expr (pe_clsinit rfl T.gL T.gaL T.rdL T.vL (pa_cons (pv 0) (pa_cons (pe_joined (.cons pe_str (.cons (pe_fmt (pv 1)) (.cons pe_str (.cons (pe_fmt (pv 2)) (.cons pe_str .nil)))))) pa_nil)))) (pss_cons (ps_ost (pv 0) (pv 1)) (pss_one (ps_ost (pv 0) (pv 2))))), ?_⟩
  exact rd_fII T.oex_Empty T.nf_Empty_block T.nf_Empty_row hf hH k
theorem si_Twin : FnScope ["self", "block", "row"] ["self", "block", "row"] (defScope (inClass (topS 3) 0)) := ⟨rfl, rfl, rfl, by decide +kernel, rfl, by decide +kernel, by decide +kernel⟩
theorem oi_Twin (T : Txt K mg X) : FnOk P w K mg base CX0 1 X.i_Twin X.di_Twin ["self", "block", "row"] (spInit X.c_Twin (fII "row" "block")) := by
  refine T.Fi_Twin.ok si_Twin (fun vs H Q E h => spInit_len h (by intro ws fs e; exact len_fII e)) fun cdv A0 outer s H vs Q E hr h => ?_
  obtain ⟨a, ws, fs, rfl, hf, hH, k⟩ := h
  refine ⟨_, (pss_cons (ps_expr (pe_clsinit rfl T.gL T.gaL T.rdL T.vL (pa_cons (pv 0) (pa_cons (pe_joined (.cons pe_str (.cons (pe_fmt (pv 1)) (.cons pe_str (.cons (pe_fmt (pv 2)) (.cons pe_str .nil)))))) pa_nil)))) (pss_cons (ps_ost (pv 0) (pv 1)) (pss_one (ps_ost (pv 0) (pv 2))))), ?_⟩
  exact rd_fII T.oex_Twin T.nf_Twin_block T.nf_Twin_row hf hH k
theorem si_NoNumber : FnScope ["self", "count"] ["self", "count"] (defScope (inClass (topS 5) 0)) := ⟨rfl, rfl, rfl, by decide +kernel, rfl, by decide +kernel, by decide +kernel⟩
theorem oi_NoNumber (T : Txt K mg X) : FnOk P w K mg base CX0 1 X.i_NoNumber X.di_NoNumber ["self", "count"] (spInit X.c_NoNumber (fI "count")) := by
  refine T.Fi_NoNumber.ok si_NoNumber (fun vs H Q E h => spInit_len h (by intro ws fs e; exact len_fI e)) fun cdv A0 outer s H vs Q E hr h => ?_
  obtain ⟨a, ws, fs, rfl, hf, hH, k⟩ := h
  refine ⟨_, (pss_cons (ps_expr (pe_clsinit rfl T.gL T.gaL T.rdL T.vL (pa_cons (pv 0) (pa_cons (pe_joined (.cons pe_str (.cons (pe_fmt (pv 1)) .nil))) pa_nil)))) (pss_one (ps_ost (pv 0) (pv 1)))), ?_⟩
  exact rd_fI T.oex_NoNumber T.nf_NoNumber_count hf hH k
theorem si_NoRoom : FnScope ["self", "room"] ["self", "room"] (defScope (inClass (topS 7) 0)) := ⟨rfl, rfl, rfl, by decide +kernel, rfl, by decide +kernel, by decide +kernel⟩
theorem oi_NoRoom (T : Txt K mg X) : FnOk P w K mg base CX0 1 X.i_NoRoom X.di_NoRoom ["self", "room"] (spInit X.c_NoRoom (fI "room")) := by
  refine T.Fi_NoRoom.ok si_NoRoom (fun vs H Q E h => spInit_len h (by intro ws fs e; exact len_fI e)) fun cdv A0 outer s H vs Q E hr h => ?_
  obtain ⟨a, ws, fs, rfl, hf, hH, k⟩ := h
  refine ⟨_, (pss_cons (ps_expr (pe_clsinit rfl T.gL T.gaL T.rdL T.vL (pa_cons (pv 0) (pa_cons (pe_joined (.cons pe_str (.cons (pe_fmt (pv 1)) (.cons pe_str .nil)))) pa_nil)))) (pss_one (ps_ost (pv 0) (pv 1)))), ?_⟩
  exact rd_fI T.oex_NoRoom T.nf_NoRoom_room hf hH k
theorem si_Standing : FnScope ["self", "name"] ["self", "name"] (defScope (inClass (topS 8) 0)) := ⟨rfl, rfl, rfl, by decide +kernel, rfl, by decide +kernel, by decide +kernel⟩
theorem oi_Standing (T : Txt K mg X) : FnOk P w K mg base CX0 1 X.i_Standing X.di_Standing ["self", "name"] (spInit X.c_Standing (fS "name")) := by
  refine T.Fi_Standing.ok si_Standing (fun vs H Q E h => spInit_len h (by intro ws fs e; exact len_fS e)) fun cdv A0 outer s H vs Q E hr h => ?_
  obtain ⟨a, ws, fs, rfl, hf, hH, k⟩ := h
  refine ⟨_, (pss_cons (ps_expr (pe_clsinit rfl T.gL T.gaL T.rdL T.vL (pa_cons (pv 0) (pa_cons (pe_joined (.cons (pe_fmt (pv 1)) (.cons pe_str .nil))) pa_nil)))) (pss_one (ps_ost (pv 0) (pv 1)))), ?_⟩
  exact rd_fS T.oex_Standing T.nf_Standing_name hf hH k
theorem si_Full : FnScope ["self", "most"] ["self", "most"] (defScope (inClass (topS 9) 0)) := ⟨rfl, rfl, rfl, by decide +kernel, rfl, by decide +kernel, by decide +kernel⟩
theorem oi_Full (T : Txt K mg X) : FnOk P w K mg base CX0 1 X.i_Full X.di_Full ["self", "most"] (spInit X.c_Full (fI "most")) := by
  refine T.Fi_Full.ok si_Full (fun vs H Q E h => spInit_len h (by intro ws fs e; exact len_fI e)) fun cdv A0 outer s H vs Q E hr h => ?_
  obtain ⟨a, ws, fs, rfl, hf, hH, k⟩ := h
  refine ⟨_, (pss_cons (ps_expr (pe_clsinit rfl T.gL T.gaL T.rdL T.vL (pa_cons (pv 0) (pa_cons (pe_joined (.cons (pe_fmt (pv 1)) (.cons pe_str .nil))) pa_nil)))) (pss_one (ps_ost (pv 0) (pv 1)))), ?_⟩
  exact rd_fI T.oex_Full T.nf_Full_most hf hH k
theorem si_NoName : FnScope ["self", "name"] ["self", "name"] (defScope (inClass (topS 10) 0)) := ⟨rfl, rfl, rfl, by decide +kernel, rfl, by decide +kernel, by decide +kernel⟩
theorem oi_NoName (T : Txt K mg X) : FnOk P w K mg base CX0 1 X.i_NoName X.di_NoName ["self", "name"] (spInit X.c_NoName (fA "name")) := by
  refine T.Fi_NoName.ok si_NoName (fun vs H Q E h => spInit_len h (by intro ws fs e; exact len_fA e)) fun cdv A0 outer s H vs Q E hr h => ?_
  obtain ⟨a, ws, fs, rfl, hf, hH, k⟩ := h
  refine ⟨_, (pss_cons (ps_expr (pe_clsinit rfl T.gL T.gaL T.rdL T.vL (pa_cons (pv 0) (pa_cons pe_str pa_nil)))) (pss_one (ps_ost (pv 0) (pv 1)))), ?_⟩
  exact rd_fA T.oex_NoName T.nf_NoName_name hf hH k
theorem si_NoHolder : FnScope ["self", "holder"] ["self", "holder"] (defScope (inClass (topS 11) 0)) := ⟨rfl, rfl, rfl, by decide +kernel, rfl, by decide +kernel, by decide +kernel⟩
theorem oi_NoHolder (T : Txt K mg X) : FnOk P w K mg base CX0 1 X.i_NoHolder X.di_NoHolder ["self", "holder"] (spInit X.c_NoHolder (fA "holder")) := by
  refine T.Fi_NoHolder.ok si_NoHolder (fun vs H Q E h => spInit_len h (by intro ws fs e; exact len_fA e)) fun cdv A0 outer s H vs Q E hr h => ?_
  obtain ⟨a, ws, fs, rfl, hf, hH, k⟩ := h
  refine ⟨_, (pss_cons (ps_expr (pe_clsinit rfl T.gL T.gaL T.rdL T.vL (pa_cons (pv 0) (pa_cons pe_str pa_nil)))) (pss_one (ps_ost (pv 0) (pv 1)))), ?_⟩
  exact rd_fA T.oex_NoHolder T.nf_NoHolder_holder hf hH k
theorem sc_l_open : FnScope N_l_open ["script"] (defScope s_l_open) := ⟨rfl, rfl, rfl, by decide +kernel, rfl, by decide +kernel, by decide +kernel⟩
theorem z_l_open (T : Txt K mg X) : FnOk P w K mg base CX0 3 X.f_l_open X.d_l_open ["script"] (spOf K (Cn K X 0) 0) :=
  T.F_l_open.ok sc_l_open (fun vs H Q E h => (sp0 h).elim) fun cdv A outer s H vs Q E hr h => (sp0 h).elim
theorem o_l_open {n : Nat} (T : Txt K mg X) (A : AllOk P w K mg base X n) : FnOk P w K mg base CX0 (n + 1 + 3) X.f_l_open X.d_l_open ["script"] (spOf K (Cn K X (n + 1)) 0) := by
  refine T.F_l_open.ok sc_l_open (fun vs H Q E h => sp_len h) fun cdv A0 outer s H vs Q E hr h => ⟨denS K (Cn K X n) (ZX X) b_l_open, ?_, body_ok (f := 0) (good T _) rfl h⟩
  exact (pss_cons (ps_set (i := 1) sc_l_open.nd rfl (Or.inl rfl) (pe_callTy b_list (by rfl) T.n_list (by decide +kernel) (pa_cons (pe_slice o_sl (pv 0) po_none (po_some pe_int)) pa_nil)))
    (pss_cons (ps_for PassesOwn.never rfl (pi_enumA rfl T.n_enumerate (pa_cons (pe_slice o_sl (pv 0) (po_some pe_int) (po_some pe_int)) pa_nil)) (pg_tup rfl (pgs_cons (pg_name (i := 2) sc_l_open.nd rfl (Or.inl rfl)) (pgs_cons (pg_name (i := 3) sc_l_open.nd rfl (Or.inl rfl)) pgs_nil))) (pss_one (ps_asg (pe_op o_add (pe_ix (o_ix hr) (pv 1) (pe_op o_mod (pv 2) pe_int) (fun _ _ => rfl)) (pv 3)) (pg_sub (pv 1) (pe_op o_mod (pv 2) pe_int) (o_set (hu_of hr))))))
    (pss_one (ps_ret (pe_lst (pa_cons (pv 1) (pa_cons pe_int (pa_cons pe_int pa_nil))))))))
theorem sc_l_spread : FnScope N_l_spread ["cell", "at"] (defScope s_l_spread) := ⟨rfl, rfl, rfl, by decide +kernel, rfl, by decide +kernel, by decide +kernel⟩
theorem z_l_spread (T : Txt K mg X) : FnOk P w K mg base CX0 3 X.f_l_spread X.d_l_spread ["cell", "at"] (spOf K (Cn K X 0) 1) :=
  T.F_l_spread.ok sc_l_spread (fun vs H Q E h => (sp0 h).elim) fun cdv A outer s H vs Q E hr h => (sp0 h).elim
theorem o_l_spread {n : Nat} (T : Txt K mg X) (A : AllOk P w K mg base X n) : FnOk P w K mg base CX0 (n + 1 + 3) X.f_l_spread X.d_l_spread ["cell", "at"] (spOf K (Cn K X (n + 1)) 1) := by
  refine T.F_l_spread.ok sc_l_spread (fun vs H Q E h => sp_len h) fun cdv A0 outer s H vs Q E hr h => ⟨denS K (Cn K X n) (ZX X) b_l_spread, ?_, body_ok (f := 1) (good T _) rfl h⟩
  exact (pss_cons (ps_if (pt_cmpR o_ge (pv 0) (pe_op o_pow pe_int pe_int) (nomark _)) (pss_one (ps_ret (pv 0))) pss_nil)
    (pss_cons (ps_set (i := 2) sc_l_spread.nd rfl (Or.inl rfl) (pe_lst (pa_cons pe_int (pa_cons pe_int (pa_cons pe_int (pa_cons pe_int (pa_cons pe_int (pa_cons pe_int (pa_cons pe_int (pa_cons pe_int pa_nil))))))))))
    (pss_cons (ps_set (i := 2) sc_l_spread.nd rfl (Or.inl rfl) (pe_op o_add (pv 2) (pe_lst (pa_cons pe_int (pa_cons pe_int (pa_cons pe_int (pa_cons pe_int (pa_cons pe_int pa_nil))))))))
    (pss_cons (ps_set (i := 3) sc_l_spread.nd rfl (Or.inl rfl) (pe_op o_mod (pe_op o_pow (pe_op o_add (pe_op o_add (pe_op o_mul (pe_op o_mod (pv 0) pe_int) (pe_op o_add (pe_op o_mul pe_int (pv 1)) pe_int)) (pe_op o_mul (pv 1) pe_int)) pe_int) pe_int) (pe_ix (o_ix hr) (pv 2) (pe_op o_mod (pv 1) pe_int) (fun _ _ => rfl))))
    (pss_cons (ps_set (i := 4) sc_l_spread.nd rfl (Or.inl rfl) (pe_op o_mod (pe_op o_pow (pe_op o_add (pe_op o_add (pe_op o_mul (pv 3) (pe_op o_add (pv 1) pe_int)) (pe_op o_mod (pv 0) pe_int)) pe_int) pe_int) (pe_ix (o_ix hr) (pv 2) (pe_op o_mod (pe_op o_add (pv 1) pe_int) pe_int) (fun _ _ => rfl))))
    (pss_cons (ps_set (i := 5) sc_l_spread.nd rfl (Or.inl rfl) (pe_op o_mod (pe_op o_pow (pe_op o_add (pe_op o_add (pv 4) (pe_op o_mod (pv 3) pe_int)) (pv 1)) pe_int) (pe_ix (o_ix hr) (pv 2) (pe_op o_mod (pe_op o_add (pv 1) pe_int) pe_int) (fun _ _ => rfl))))
    (pss_one (ps_ret (pe_op o_add (pe_op o_mul (pe_op o_add (pe_op o_mul (pv 3) pe_int) (pv 4)) pe_int) (pv 5))))))))))
theorem sc_l_take : FnScope N_l_take ["pen", "amount"] (defScope s_l_take) := ⟨rfl, rfl, rfl, by decide +kernel, rfl, by decide +kernel, by decide +kernel⟩
theorem z_l_take (T : Txt K mg X) : FnOk P w K mg base CX0 3 X.f_l_take X.d_l_take ["pen", "amount"] (spOf K (Cn K X 0) 2) :=
  T.F_l_take.ok sc_l_take (fun vs H Q E h => (sp0 h).elim) fun cdv A outer s H vs Q E hr h => (sp0 h).elim
theorem o_l_take {n : Nat} (T : Txt K mg X) (A : AllOk P w K mg base X n) : FnOk P w K mg base CX0 (n + 1 + 3) X.f_l_take X.d_l_take ["pen", "amount"] (spOf K (Cn K X (n + 1)) 2) := by
  refine T.F_l_take.ok sc_l_take (fun vs H Q E h => sp_len h) fun cdv A0 outer s H vs Q E hr h => ⟨denS K (Cn K X n) (ZX X) b_l_take, ?_, body_ok (f := 2) (good T _) rfl h⟩
  exact (pss_cons (ps_if (pt_cmpR o_lt (pe_ix (o_ix hr) (pv 0) pe_int (fun _ _ => rfl)) (pv 1) (nomark _)) (pss_cons (ps_set (i := 2) sc_l_take.nd rfl (Or.inl rfl) (pe_ix (o_ix hr) (pv 0) pe_int (fun _ _ => rfl)))
    (pss_cons (ps_set (i := 3) sc_l_take.nd rfl (Or.inl rfl) pe_int)
    (pss_cons (ps_if (pt_cmpR o_lt (pv 2) (pe_callB (b_len) (by rfl) T.n_len (by decide +kernel) (pa_cons (pe_ix (o_ix hr) (pv 0) pe_int (fun _ _ => rfl)) pa_nil)) (nomark _)) (pss_one (ps_set (i := 3) sc_l_take.nd rfl (Or.inl rfl) (pe_ix (o_ix hr) (pe_ix (o_ix hr) (pv 0) pe_int (fun _ _ => rfl)) (pv 2) (fun _ _ => rfl)))) (pss_one (ps_if (pt_cmpR o_gt (pe_callB (b_len) (by rfl) T.n_len (by decide +kernel) (pa_cons (pe_ix (o_ix hr) (pv 0) pe_int (fun _ _ => rfl)) pa_nil)) pe_int (nomark _)) (pss_one (ps_set (i := 3) sc_l_take.nd rfl (Or.inl rfl) (pe_op o_mod (pe_ix (o_ix hr) (pe_ix (o_ix hr) (pv 0) pe_int (fun _ _ => rfl)) (pe_op o_mod (pe_op o_add (pe_op o_mul (pv 2) pe_int) pe_int) (pe_callB (b_len) (by rfl) T.n_len (by decide +kernel) (pa_cons (pe_ix (o_ix hr) (pv 0) pe_int (fun _ _ => rfl)) pa_nil))) (fun _ _ => rfl)) (pe_op o_add (pe_op o_pow pe_int pe_int) (pv 2))))) pss_nil)))
    (pss_cons (ps_asg (pe_op o_add (pv 2) pe_int) (pg_sub (pv 0) pe_int (o_set (hu_of hr))))
    (pss_one (ps_asg (pe_call A.o_l_spread hr rfl T.g_l_spread T.k_l_spread T.b_l_spread .nil pass0 (pa_cons (pv 3) (pa_cons (pv 2) pa_nil))) (pg_sub (pv 0) pe_int (o_set (hu_of hr))))))))) pss_nil)
    (pss_cons (ps_set (i := 4) sc_l_take.nd rfl (Or.inl rfl) (pe_op o_mod (pe_ix (o_ix hr) (pv 0) pe_int (fun _ _ => rfl)) (pv 1)))
    (pss_cons (ps_asg (pe_op o_fdiv (pe_ix (o_ix hr) (pv 0) pe_int (fun _ _ => rfl)) (pv 1)) (pg_sub (pv 0) pe_int (o_set (hu_of hr))))
    (pss_one (ps_ret (pv 4))))))
theorem sc_l_same : FnScope N_l_same ["found", "due"] (defScope s_l_same) := ⟨rfl, rfl, rfl, by decide +kernel, rfl, by decide +kernel, by decide +kernel⟩
theorem z_l_same (T : Txt K mg X) : FnOk P w K mg base CX0 3 X.f_l_same X.d_l_same ["found", "due"] (spOf K (Cn K X 0) 3) :=
  T.F_l_same.ok sc_l_same (fun vs H Q E h => (sp0 h).elim) fun cdv A outer s H vs Q E hr h => (sp0 h).elim
theorem o_l_same {n : Nat} (T : Txt K mg X) (A : AllOk P w K mg base X n) : FnOk P w K mg base CX0 (n + 1 + 3) X.f_l_same X.d_l_same ["found", "due"] (spOf K (Cn K X (n + 1)) 3) := by
  refine T.F_l_same.ok sc_l_same (fun vs H Q E h => sp_len h) fun cdv A0 outer s H vs Q E hr h => ⟨denS K (Cn K X n) (ZX X) b_l_same, ?_, body_ok (f := 3) (good T _) rfl h⟩
  exact (pss_cons (ps_if (PW.pt (pw_or (pt_cmpR o_is (pv 1) pe_non (nomark _)) (pw_or1 (pt_cmpR o_is (pv 0) pe_non (nomark _))))) (pss_one (ps_ret (pe_and (pe_cmpR o_is (pv 1) pe_non (nomark _)) (pe_one (pe_cmpR o_is (pv 0) pe_non (nomark _)))))) pss_nil)
    (pss_cons (ps_if (PW.pt (pw_or (pt_val (pe_callB call_isi (by rfl) T.n_isinstance (by decide +kernel) (pa_cons (pv 1) (pa_cons (pe_bltn (v := .ty "bool") (by rfl) T.n_bool (by decide +kernel) rfl) pa_nil)))) (pw_or1 (pt_val (pe_callB call_isi (by rfl) T.n_isinstance (by decide +kernel) (pa_cons (pv 0) (pa_cons (pe_bltn (v := .ty "bool") (by rfl) T.n_bool (by decide +kernel) rfl) pa_nil))))))) (pss_one (ps_ret (pe_and (pe_callB call_isi (by rfl) T.n_isinstance (by decide +kernel) (pa_cons (pv 1) (pa_cons (pe_bltn (v := .ty "bool") (by rfl) T.n_bool (by decide +kernel) rfl) pa_nil))) (pe_and (pe_callB call_isi (by rfl) T.n_isinstance (by decide +kernel) (pa_cons (pv 0) (pa_cons (pe_bltn (v := .ty "bool") (by rfl) T.n_bool (by decide +kernel) rfl) pa_nil))) (pe_one (pe_cmpR (o_eq hr) (pv 0) (pv 1) (nomark _))))))) pss_nil)
    (pss_cons (ps_if (pt_val (pe_callB call_isiT (by rfl) T.n_isinstance (by decide +kernel) (pa_cons (pv 1) (pa_cons (pe_tup (pa_cons (pe_bltn (v := .ty "int") (by rfl) T.n_int (by decide +kernel) rfl) (pa_cons (pe_bltn (v := .ty "str") (by rfl) T.n_str (by decide +kernel) rfl) pa_nil))) pa_nil)))) (pss_cons (ps_if (pt_cmpR (o_ne hr) (pe_callB call_isi (by rfl) T.n_isinstance (by decide +kernel) (pa_cons (pv 0) (pa_cons (pe_bltn (v := .ty "int") (by rfl) T.n_int (by decide +kernel) rfl) pa_nil))) (pe_callB call_isi (by rfl) T.n_isinstance (by decide +kernel) (pa_cons (pv 1) (pa_cons (pe_bltn (v := .ty "int") (by rfl) T.n_int (by decide +kernel) rfl) pa_nil))) (nomark _)) (pss_one (ps_ret pe_bl)) pss_nil)
    (pss_one (ps_ret (pe_and (pe_callB call_isiT (by rfl) T.n_isinstance (by decide +kernel) (pa_cons (pv 0) (pa_cons (pe_tup (pa_cons (pe_bltn (v := .ty "int") (by rfl) T.n_int (by decide +kernel) rfl) (pa_cons (pe_bltn (v := .ty "str") (by rfl) T.n_str (by decide +kernel) rfl) pa_nil))) pa_nil))) (pe_one (pe_cmpR (o_eq hr) (pv 0) (pv 1) (nomark _))))))) pss_nil)
    (pss_cons (ps_if (PW.pt (pw_or (pt_cmpR (o_ne hr) (pe_callB call_isi (by rfl) T.n_isinstance (by decide +kernel) (pa_cons (pv 1) (pa_cons (pe_bltn (v := .ty "tuple") (by rfl) T.n_tuple (by decide +kernel) rfl) pa_nil))) (pe_callB call_isi (by rfl) T.n_isinstance (by decide +kernel) (pa_cons (pv 0) (pa_cons (pe_bltn (v := .ty "tuple") (by rfl) T.n_tuple (by decide +kernel) rfl) pa_nil))) (nomark _)) (pw_or1 (pt_cmpR (o_ne hr) (pe_callB call_isi (by rfl) T.n_isinstance (by decide +kernel) (pa_cons (pv 1) (pa_cons (pe_bltn (v := .ty "list") (by rfl) T.n_list (by decide +kernel) rfl) pa_nil))) (pe_callB call_isi (by rfl) T.n_isinstance (by decide +kernel) (pa_cons (pv 0) (pa_cons (pe_bltn (v := .ty "list") (by rfl) T.n_list (by decide +kernel) rfl) pa_nil))) (nomark _))))) (pss_one (ps_ret pe_bl)) pss_nil)
    (pss_cons (ps_if (pt_cmpR (o_ne hr) (pe_callB (b_len) (by rfl) T.n_len (by decide +kernel) (pa_cons (pv 0) pa_nil)) (pe_callB (b_len) (by rfl) T.n_len (by decide +kernel) (pa_cons (pv 1) pa_nil)) (nomark _)) (pss_one (ps_ret pe_bl)) pss_nil)
    (pss_one (ps_ret (pe_cmpR (o_nin hr) pe_bl (pe_lc (own := [("one", 2), ("other", 3)]) rfl sc_l_same.nd (pi_zipA rfl T.n_zip (pa_cons (pv 0) (pa_cons (pv 1) pa_nil))) (blkOk_by (own := [("one", 2), ("other", 3)]) (N := N_l_same) (sc := defScope s_l_same) (by decide +kernel)) (fun _ _ _ _ _ => (pg_tup rfl (pgs_cons (pg_name (i := 2) sc_l_same.nd rfl (Or.inl rfl)) (pgs_cons (pg_name (i := 3) sc_l_same.nd rfl (Or.inl rfl)) pgs_nil)))) (fun _ _ _ _ _ => pts_nil) (fun _ _ _ _ _ => (pe_call A.o_l_same hr rfl T.g_l_same T.k_l_same T.b_l_same .nil pass0 (pa_cons (pv 2) (pa_cons (pv 3) pa_nil))))) rfl))))))))
theorem sc_l_kinds : FnScope N_l_kinds ["one"] (defScope s_l_kinds) := ⟨rfl, rfl, rfl, by decide +kernel, rfl, by decide +kernel, by decide +kernel⟩
theorem z_l_kinds (T : Txt K mg X) : FnOk P w K mg base CX0 3 X.f_l_kinds X.d_l_kinds ["one"] (spOf K (Cn K X 0) 4) :=
  T.F_l_kinds.ok sc_l_kinds (fun vs H Q E h => (sp0 h).elim) fun cdv A outer s H vs Q E hr h => (sp0 h).elim
theorem o_l_kinds {n : Nat} (T : Txt K mg X) (A : AllOk P w K mg base X n) : FnOk P w K mg base CX0 (n + 1 + 3) X.f_l_kinds X.d_l_kinds ["one"] (spOf K (Cn K X (n + 1)) 4) := by
  refine T.F_l_kinds.ok sc_l_kinds (fun vs H Q E h => sp_len h) fun cdv A0 outer s H vs Q E hr h => ⟨denS K (Cn K X n) (ZX X) b_l_kinds, ?_, body_ok (f := 4) (good T _) rfl h⟩
  exact (pss_cons (ps_set (i := 1) sc_l_kinds.nd rfl (Or.inl rfl) (pe_lst (pa_cons (pe_callB call_isX (by rfl) T.n_isinstance (by decide +kernel) (pa_cons (pv 0) (pa_cons (pe_glob rfl T.gc_Empty rfl) pa_nil))) (pa_cons (pe_callB call_isX (by rfl) T.n_isinstance (by decide +kernel) (pa_cons (pv 0) (pa_cons (pe_glob rfl T.gc_Twin rfl) pa_nil))) (pa_cons (pe_callB call_isX (by rfl) T.n_isinstance (by decide +kernel) (pa_cons (pv 0) (pa_cons (pe_glob rfl T.gc_NoSet rfl) pa_nil))) (pa_cons (pe_callB call_isX (by rfl) T.n_isinstance (by decide +kernel) (pa_cons (pv 0) (pa_cons (pe_glob rfl T.gc_NoNumber rfl) pa_nil))) pa_nil))))))
    (pss_cons (ps_set (i := 1) sc_l_kinds.nd rfl (Or.inl rfl) (pe_op o_add (pv 1) (pe_lst (pa_cons (pe_callB call_isX (by rfl) T.n_isinstance (by decide +kernel) (pa_cons (pv 0) (pa_cons (pe_glob rfl T.gc_NoCode rfl) pa_nil))) (pa_cons (pe_callB call_isX (by rfl) T.n_isinstance (by decide +kernel) (pa_cons (pv 0) (pa_cons (pe_glob rfl T.gc_NoRoom rfl) pa_nil))) (pa_cons (pe_callB call_isX (by rfl) T.n_isinstance (by decide +kernel) (pa_cons (pv 0) (pa_cons (pe_glob rfl T.gc_Standing rfl) pa_nil))) (pa_cons (pe_callB call_isX (by rfl) T.n_isinstance (by decide +kernel) (pa_cons (pv 0) (pa_cons (pe_glob rfl T.gc_Full rfl) pa_nil))) pa_nil)))))))
    (pss_cons (ps_set (i := 1) sc_l_kinds.nd rfl (Or.inl rfl) (pe_op o_add (pv 1) (pe_lst (pa_cons (pe_callB call_isX (by rfl) T.n_isinstance (by decide +kernel) (pa_cons (pv 0) (pa_cons (pe_glob rfl T.gc_NoName rfl) pa_nil))) (pa_cons (pe_callB call_isX (by rfl) T.n_isinstance (by decide +kernel) (pa_cons (pv 0) (pa_cons (pe_glob rfl T.gc_NoHolder rfl) pa_nil))) (pa_cons (pe_callB call_isX (by rfl) T.n_isinstance (by decide +kernel) (pa_cons (pv 0) (pa_cons (pe_glob rfl T.gc_NoBlock rfl) pa_nil))) pa_nil))))))
    (pss_one (ps_ret (pe_op o_add (pv 1) (pe_lst (pa_cons (pe_callB call_isX (by rfl) T.n_isinstance (by decide +kernel) (pa_cons (pv 0) (pa_cons (pe_glob rfl T.gc_NoText rfl) pa_nil))) pa_nil))))))))
theorem sc_p_law : FnScope N_p_law ["script"] (defScope s_p_law) := ⟨rfl, rfl, rfl, by decide +kernel, rfl, by decide +kernel, by decide +kernel⟩
theorem z_p_law (T : Txt K mg X) : FnOk P w K mg base CX0 3 X.f_p_law X.d_p_law ["script"] (spOf K (Cn K X 0) 5) :=
  T.F_p_law.ok sc_p_law (fun vs H Q E h => (sp0 h).elim) fun cdv A outer s H vs Q E hr h => (sp0 h).elim
theorem o_p_law {n : Nat} (T : Txt K mg X) (A : AllOk P w K mg base X n) : FnOk P w K mg base CX0 (n + 1 + 3) X.f_p_law X.d_p_law ["script"] (spOf K (Cn K X (n + 1)) 5) := by
  refine T.F_p_law.ok sc_p_law (fun vs H Q E h => sp_len h) fun cdv A0 outer s H vs Q E hr h => ⟨denS K (Cn K X n) (ZX X) b_p_law, ?_, body_ok (f := 5) (good T _) rfl h⟩
  exact (pss_cons (ps_set (i := 1) sc_p_law.nd rfl (Or.inl rfl) (pe_call A.o_l_open hr rfl T.g_l_open T.k_l_open T.b_l_open .nil pass0 (pa_cons (pv 0) pa_nil)))
    (pss_cons (ps_for PassesOwn.never rfl (pi_range1 rfl T.n_range (pa_cons pe_int pa_nil)) (pg_name (i := 2) sc_p_law.nd rfl (Or.inl rfl)) (pss_cons (ps_set (i := 3) sc_p_law.nd rfl (Or.inl rfl) (pe_ix (o_ix hr) (pe_lst (pa_cons pe_str (pa_cons pe_str (pa_cons pe_str pa_nil)))) (pe_call A.o_l_take hr rfl T.g_l_take T.k_l_take T.b_l_take .nil pass0 (pa_cons (pv 1) (pa_cons pe_int pa_nil))) (fun _ _ => rfl)))
    (pss_cons (ps_par (i := 4) (j := 5) rfl sc_p_law.nd rfl rfl (by decide) rfl rfl (pa_cons (pe_call A.o_l_take hr rfl T.g_l_take T.k_l_take T.b_l_take .nil pass0 (pa_cons (pv 1) (pa_cons pe_int pa_nil))) (pa_cons (pe_call A.o_l_take hr rfl T.g_l_take T.k_l_take T.b_l_take .nil pass0 (pa_cons (pv 1) (pa_cons pe_int pa_nil))) pa_nil)) (by rfl))
    (pss_cons (ps_par (i := 6) (j := 7) rfl sc_p_law.nd rfl rfl (by decide) rfl rfl (pa_cons (pe_ix (o_ix hr) (pe_lst (pa_cons pe_str (pa_cons pe_str pa_nil))) (pe_call A.o_l_take hr rfl T.g_l_take T.k_l_take T.b_l_take .nil pass0 (pa_cons (pv 1) (pa_cons pe_int pa_nil))) (fun _ _ => rfl)) (pa_cons (pe_ix (o_ix hr) (pe_lst (pa_cons pe_non (pa_cons pe_str (pa_cons (pe_lst (pa_cons pe_str pa_nil)) (pa_cons (pe_tup (pa_cons pe_str (pa_cons pe_int pa_nil))) (pa_cons pe_int (pa_cons pe_bl pa_nil))))))) (pe_call A.o_l_take hr rfl T.g_l_take T.k_l_take T.b_l_take .nil pass0 (pa_cons (pv 1) (pa_cons pe_int pa_nil))) (fun _ _ => rfl)) pa_nil)) (by rfl))
    (pss_cons (ps_set (i := 8) sc_p_law.nd rfl (Or.inl rfl) (pe_lst (pa_cons (pe_mkI T.oex_Empty T.ic_Empty T.ti_Empty (oi_Empty T) (hr.mono (by omega)) T.bi_Empty rfl T.gc_Empty (pa_cons (pv 4) (pa_cons (pv 5) pa_nil))) (pa_cons (pe_mkI T.oex_Twin T.ic_Twin T.ti_Twin (oi_Twin T) (hr.mono (by omega)) T.bi_Twin rfl T.gc_Twin (pa_cons (pv 5) (pa_cons (pv 4) pa_nil))) (pa_cons (pe_mk0 PySem.F.excBase_ValueError T.ex0_NoSet T.gc_NoSet T.kc_NoSet rfl (pv 3)) (pa_cons (pe_mkI T.oex_NoNumber T.ic_NoNumber T.ti_NoNumber (oi_NoNumber T) (hr.mono (by omega)) T.bi_NoNumber rfl T.gc_NoNumber (pa_cons (pe_op o_add (pe_op o_pow pe_int pe_int) (pv 4)) pa_nil)) (pa_cons (pe_mk0 PySem.F.excBase_ValueError T.ex0_NoCode T.gc_NoCode T.kc_NoCode rfl (pv 3)) pa_nil)))))))
    (pss_cons (ps_set (i := 8) sc_p_law.nd rfl (Or.inl rfl) (pe_op o_add (pv 8) (pe_lst (pa_cons (pe_mkI T.oex_NoRoom T.ic_NoRoom T.ti_NoRoom (oi_NoRoom T) (hr.mono (by omega)) T.bi_NoRoom rfl T.gc_NoRoom (pa_cons (pe_op o_sub (pv 5) pe_int) pa_nil)) (pa_cons (pe_mkI T.oex_Standing T.ic_Standing T.ti_Standing (oi_Standing T) (hr.mono (by omega)) T.bi_Standing rfl T.gc_Standing (pa_cons (pv 6) pa_nil)) (pa_cons (pe_mkI T.oex_Full T.ic_Full T.ti_Full (oi_Full T) (hr.mono (by omega)) T.bi_Full rfl T.gc_Full (pa_cons (pv 5) pa_nil)) (pa_cons (pe_mkI T.oex_NoName T.ic_NoName T.ti_NoName (oi_NoName T) (hr.mono (by omega)) T.bi_NoName rfl T.gc_NoName (pa_cons (pv 7) pa_nil)) (pa_cons (pe_mkI T.oex_NoHolder T.ic_NoHolder T.ti_NoHolder (oi_NoHolder T) (hr.mono (by omega)) T.bi_NoHolder rfl T.gc_NoHolder (pa_cons (pv 7) pa_nil)) pa_nil))))))))
    (pss_cons (ps_set (i := 8) sc_p_law.nd rfl (Or.inl rfl) (pe_op o_add (pv 8) (pe_lst (pa_cons (pe_mk0 PySem.F.excBase_ValueError T.ex0_NoBlock T.gc_NoBlock T.kc_NoBlock rfl (pv 3)) (pa_cons (pe_mk0 PySem.F.excBase_ValueError T.ex0_NoText T.gc_NoText T.kc_NoText rfl (pv 3)) pa_nil)))))
    (pss_cons (ps_for PassesOwn.never rfl (pi_enumA rfl T.n_enumerate (pa_cons (pv 8) pa_nil)) (pg_tup rfl (pgs_cons (pg_name (i := 9) sc_p_law.nd rfl (Or.inr rfl)) (pgs_cons (pg_name (i := 10) sc_p_law.nd rfl (Or.inl rfl)) pgs_nil))) (pss_cons (ps_if (PW.pt (pw_or (pt_not (pt_val (pe_callB call_isX (by rfl) T.n_isinstance (by decide +kernel) (pa_cons (pv 10) (pa_cons (pe_glob rfl T.gL rfl) pa_nil))))) (pw_or1 (pt_not (pt_val (pe_callB call_isX (by rfl) T.n_isinstance (by decide +kernel) (pa_cons (pv 10) (pa_cons (pe_bltn (v := .ty "ValueError") (by rfl) T.n_ValueError (by decide +kernel) rfl) pa_nil)))))))) (pss_one (ps_ret pe_bl)) pss_nil)
    (pss_one (ps_if (pt_not (pt_val (pe_call A.o_l_same hr rfl T.g_l_same T.k_l_same T.b_l_same .nil pass0 (pa_cons (pe_call A.o_l_kinds hr rfl T.g_l_kinds T.k_l_kinds T.b_l_kinds .nil pass0 (pa_cons (pv 10) pa_nil)) (pa_cons (pe_lc (own := [("j", 13)]) rfl sc_p_law.nd (pi_range1 rfl T.n_range (pa_cons pe_int pa_nil)) (blkOk_by (own := [("j", 13)]) (N := N_p_law) (sc := defScope s_p_law) (by decide +kernel)) (fun _ _ _ _ _ => (pg_name (i := 13) sc_p_law.nd rfl (Or.inl rfl))) (fun _ _ _ _ _ => pts_nil) (fun _ _ _ _ _ => (pe_cmpR (o_eq hr) (pv 13) (pv 9) (nomark _)))) pa_nil))))) (pss_one (ps_ret pe_bl)) pss_nil))))
    (pss_cons (ps_set (i := 11) sc_p_law.nd rfl (Or.inl rfl) (pe_lst (pa_cons (pe_xfld (pe_ix (o_ix hr) (pv 8) pe_int (fun _ _ => rfl))) (pa_cons (pe_xfld (pe_ix (o_ix hr) (pv 8) pe_int (fun _ _ => rfl))) (pa_cons (pe_xfld (pe_ix (o_ix hr) (pv 8) pe_int (fun _ _ => rfl))) (pa_cons (pe_xfld (pe_ix (o_ix hr) (pv 8) pe_int (fun _ _ => rfl))) (pa_cons (pe_xfld (pe_ix (o_ix hr) (pv 8) pe_int (fun _ _ => rfl))) (pa_cons (pe_xfld (pe_ix (o_ix hr) (pv 8) pe_int (fun _ _ => rfl))) (pa_cons (pe_xfld (pe_ix (o_ix hr) (pv 8) pe_int (fun _ _ => rfl))) pa_nil)))))))))
    (pss_cons (ps_set (i := 11) sc_p_law.nd rfl (Or.inl rfl) (pe_op o_add (pv 11) (pe_lst (pa_cons (pe_xfld (pe_ix (o_ix hr) (pv 8) pe_int (fun _ _ => rfl))) (pa_cons (pe_xfld (pe_ix (o_ix hr) (pv 8) pe_int (fun _ _ => rfl))) (pa_cons (pe_xfld (pe_ix (o_ix hr) (pv 8) pe_int (fun _ _ => rfl))) pa_nil))))))
    (pss_cons (ps_set (i := 12) sc_p_law.nd rfl (Or.inl rfl) (pe_lst (pa_cons (pv 4) (pa_cons (pv 5) (pa_cons (pv 5) (pa_cons (pv 4) (pa_cons (pe_op o_add (pe_op o_pow pe_int pe_int) (pv 4)) (pa_cons (pe_op o_sub (pv 5) pe_int) (pa_cons (pv 6) (pa_cons (pv 5) (pa_cons (pv 7) (pa_cons (pv 7) pa_nil))))))))))))
    (pss_one (ps_if (pt_not (pt_val (pe_call A.o_l_same hr rfl T.g_l_same T.k_l_same T.b_l_same .nil pass0 (pa_cons (pv 11) (pa_cons (pv 12) pa_nil))))) (pss_one (ps_ret pe_bl)) pss_nil)))))))))))))
    (pss_one (ps_ret pe_bl))))
theorem all_ok (T : Txt K mg X) : ∀ n, AllOk P w K mg base X n
  | 0 => ⟨z_l_open T, z_l_spread T, z_l_take T, z_l_same T, z_l_kinds T, z_p_law T⟩
  | n + 1 => ⟨o_l_open T (all_ok T n), o_l_spread T (all_ok T n), o_l_take T (all_ok T n), o_l_same T (all_ok T n), o_l_kinds T (all_ok T n), o_p_law T (all_ok T n)⟩
end
end G

namespace G
open PySem L2 RZ IP
def bInner : S :=
    (.seq (.ite (.orV (.notV (.isx 12 (.var 10))) (.notV (.isx 13 (.var 10)))) (.ret (.bl false)) .skip)
    (.ite (.notV (.call 3 (.cons (.call 4 (.cons (.var 10) .nil)) (.cons (.lc (.irng1 (.int 12)) (.name 13) .nil (.op .eq (.var 13) (.var 9))) .nil)))) (.ret (.bl false)) .skip))
def bTurn : S :=
    (.seq (.asg (.name 3) (.ix (.lst (.cons (.str "") (.cons (.str "a word") (.cons (.str "none") .nil)))) (.call 2 (.cons (.var 1) (.cons (.int 3) .nil)))))
    (.seq (.par 4 5 (.call 2 (.cons (.var 1) (.cons (.int 6) .nil))) (.call 2 (.cons (.var 1) (.cons (.int 15) .nil))))
    (.seq (.par 6 7 (.ix (.lst (.cons (.str "a") (.cons (.str "zzzzzzzz") .nil))) (.call 2 (.cons (.var 1) (.cons (.int 2) .nil)))) (.ix (.lst (.cons .non (.cons (.str "") (.cons (.lst (.cons (.str "a") .nil)) (.cons (.tup (.cons (.str "a") (.cons (.int 1) .nil))) (.cons (.int 7) (.cons (.bl true) .nil))))))) (.call 2 (.cons (.var 1) (.cons (.int 6) .nil)))))
    (.seq (.asg (.name 8) (.lst (.cons (.mkx 0 (.cons (.var 4) (.cons (.var 5) .nil))) (.cons (.mkx 1 (.cons (.var 5) (.cons (.var 4) .nil))) (.cons (.mkx 2 (.cons (.var 3) .nil)) (.cons (.mkx 3 (.cons (.op .add (.op .pow (.int 10) (.int 30)) (.var 4)) .nil)) (.cons (.mkx 4 (.cons (.var 3) .nil)) .nil)))))))
    (.seq (.asg (.name 8) (.op .add (.var 8) (.lst (.cons (.mkx 5 (.cons (.op .sub (.var 5) (.int 1)) .nil)) (.cons (.mkx 6 (.cons (.var 6) .nil)) (.cons (.mkx 7 (.cons (.var 5) .nil)) (.cons (.mkx 8 (.cons (.var 7) .nil)) (.cons (.mkx 9 (.cons (.var 7) .nil)) .nil))))))))
    (.seq (.asg (.name 8) (.op .add (.var 8) (.lst (.cons (.mkx 10 (.cons (.var 3) .nil)) (.cons (.mkx 11 (.cons (.var 3) .nil)) .nil)))))
    (.seq (.for_ (.ienum (.var 8)) (.tup [9, 10]) bInner)
    (.seq (.asg (.name 11) (.lst (.cons (.fld (.ix (.var 8) (.int 0)) "block") (.cons (.fld (.ix (.var 8) (.int 0)) "row") (.cons (.fld (.ix (.var 8) (.int 1)) "block") (.cons (.fld (.ix (.var 8) (.int 1)) "row") (.cons (.fld (.ix (.var 8) (.int 3)) "count") (.cons (.fld (.ix (.var 8) (.int 5)) "room") (.cons (.fld (.ix (.var 8) (.int 6)) "name") .nil)))))))))
    (.seq (.asg (.name 11) (.op .add (.var 11) (.lst (.cons (.fld (.ix (.var 8) (.int 7)) "most") (.cons (.fld (.ix (.var 8) (.int 8)) "name") (.cons (.fld (.ix (.var 8) (.int 9)) "holder") .nil))))))
    (.seq (.asg (.name 12) (.lst (.cons (.var 4) (.cons (.var 5) (.cons (.var 5) (.cons (.var 4) (.cons (.op .add (.op .pow (.int 10) (.int 30)) (.var 4)) (.cons (.op .sub (.var 5) (.int 1)) (.cons (.var 6) (.cons (.var 5) (.cons (.var 7) (.cons (.var 7) .nil))))))))))))
    (.ite (.notV (.call 3 (.cons (.var 11) (.cons (.var 12) .nil)))) (.ret (.bl false)) .skip)))))))))))
theorem law_text : b_p_law = .seq (.asg (.name 1) (.call 0 (.cons (.var 0) .nil))) (.seq (.for_ (.irng1 (.int 3)) (.name 2) bTurn) (.ret (.bl true))) := rfl
section
variable {K : PySem.W.Frag} {mg : Str → Option Value} {X : Ad}
theorem own_c (X : Ad) {c : Nat} (h : c < 12) : ownCls X (clOf X c) = true := List.any_eq_true.mpr ⟨c, List.mem_range.mpr h, decide_eq_true rfl⟩
theorem kit_c0 (T : Txt K mg X) : ∀ j, j < 12 → PySem.W.kitOne K (.ref X.c_Empty) (cuOf X j) = some (decide (0 = j))
  | 0, _ => T.kit_0_0
  | 1, _ => T.kit_0_1
  | 2, _ => T.kit_0_2
  | 3, _ => T.kit_0_3
  | 4, _ => T.kit_0_4
  | 5, _ => T.kit_0_5
  | 6, _ => T.kit_0_6
  | 7, _ => T.kit_0_7
  | 8, _ => T.kit_0_8
  | 9, _ => T.kit_0_9
  | 10, _ => T.kit_0_10
  | 11, _ => T.kit_0_11
  | n + 12, h => by omega
theorem kit_c1 (T : Txt K mg X) : ∀ j, j < 12 → PySem.W.kitOne K (.ref X.c_Twin) (cuOf X j) = some (decide (1 = j))
  | 0, _ => T.kit_1_0
  | 1, _ => T.kit_1_1
  | 2, _ => T.kit_1_2
  | 3, _ => T.kit_1_3
  | 4, _ => T.kit_1_4
  | 5, _ => T.kit_1_5
  | 6, _ => T.kit_1_6
  | 7, _ => T.kit_1_7
  | 8, _ => T.kit_1_8
  | 9, _ => T.kit_1_9
  | 10, _ => T.kit_1_10
  | 11, _ => T.kit_1_11
  | n + 12, h => by omega
theorem kit_c2 (T : Txt K mg X) : ∀ j, j < 12 → PySem.W.kitOne K (.ref X.c_NoSet) (cuOf X j) = some (decide (2 = j))
  | 0, _ => T.kit_2_0
  | 1, _ => T.kit_2_1
  | 2, _ => T.kit_2_2
  | 3, _ => T.kit_2_3
  | 4, _ => T.kit_2_4
  | 5, _ => T.kit_2_5
  | 6, _ => T.kit_2_6
  | 7, _ => T.kit_2_7
  | 8, _ => T.kit_2_8
  | 9, _ => T.kit_2_9
  | 10, _ => T.kit_2_10
  | 11, _ => T.kit_2_11
  | n + 12, h => by omega
theorem kit_c3 (T : Txt K mg X) : ∀ j, j < 12 → PySem.W.kitOne K (.ref X.c_NoNumber) (cuOf X j) = some (decide (3 = j))
  | 0, _ => T.kit_3_0
  | 1, _ => T.kit_3_1
  | 2, _ => T.kit_3_2
  | 3, _ => T.kit_3_3
  | 4, _ => T.kit_3_4
  | 5, _ => T.kit_3_5
  | 6, _ => T.kit_3_6
  | 7, _ => T.kit_3_7
  | 8, _ => T.kit_3_8
  | 9, _ => T.kit_3_9
  | 10, _ => T.kit_3_10
  | 11, _ => T.kit_3_11
  | n + 12, h => by omega
theorem kit_c4 (T : Txt K mg X) : ∀ j, j < 12 → PySem.W.kitOne K (.ref X.c_NoCode) (cuOf X j) = some (decide (4 = j))
  | 0, _ => T.kit_4_0
  | 1, _ => T.kit_4_1
  | 2, _ => T.kit_4_2
  | 3, _ => T.kit_4_3
  | 4, _ => T.kit_4_4
  | 5, _ => T.kit_4_5
  | 6, _ => T.kit_4_6
  | 7, _ => T.kit_4_7
  | 8, _ => T.kit_4_8
  | 9, _ => T.kit_4_9
  | 10, _ => T.kit_4_10
  | 11, _ => T.kit_4_11
  | n + 12, h => by omega
theorem kit_c5 (T : Txt K mg X) : ∀ j, j < 12 → PySem.W.kitOne K (.ref X.c_NoRoom) (cuOf X j) = some (decide (5 = j))
  | 0, _ => T.kit_5_0
  | 1, _ => T.kit_5_1
  | 2, _ => T.kit_5_2
  | 3, _ => T.kit_5_3
  | 4, _ => T.kit_5_4
  | 5, _ => T.kit_5_5
  | 6, _ => T.kit_5_6
  | 7, _ => T.kit_5_7
  | 8, _ => T.kit_5_8
  | 9, _ => T.kit_5_9
  | 10, _ => T.kit_5_10
  | 11, _ => T.kit_5_11
  | n + 12, h => by omega
theorem kit_c6 (T : Txt K mg X) : ∀ j, j < 12 → PySem.W.kitOne K (.ref X.c_Standing) (cuOf X j) = some (decide (6 = j))
  | 0, _ => T.kit_6_0
  | 1, _ => T.kit_6_1
  | 2, _ => T.kit_6_2
  | 3, _ => T.kit_6_3
  | 4, _ => T.kit_6_4
  | 5, _ => T.kit_6_5
  | 6, _ => T.kit_6_6
  | 7, _ => T.kit_6_7
  | 8, _ => T.kit_6_8
  | 9, _ => T.kit_6_9
  | 10, _ => T.kit_6_10
  | 11, _ => T.kit_6_11
  | n + 12, h => by omega
theorem kit_c7 (T : Txt K mg X) : ∀ j, j < 12 → PySem.W.kitOne K (.ref X.c_Full) (cuOf X j) = some (decide (7 = j))
  | 0, _ => T.kit_7_0
  | 1, _ => T.kit_7_1
  | 2, _ => T.kit_7_2
  | 3, _ => T.kit_7_3
  | 4, _ => T.kit_7_4
  | 5, _ => T.kit_7_5
  | 6, _ => T.kit_7_6
  | 7, _ => T.kit_7_7
  | 8, _ => T.kit_7_8
  | 9, _ => T.kit_7_9
  | 10, _ => T.kit_7_10
  | 11, _ => T.kit_7_11
  | n + 12, h => by omega
theorem kit_c8 (T : Txt K mg X) : ∀ j, j < 12 → PySem.W.kitOne K (.ref X.c_NoName) (cuOf X j) = some (decide (8 = j))
  | 0, _ => T.kit_8_0
  | 1, _ => T.kit_8_1
  | 2, _ => T.kit_8_2
  | 3, _ => T.kit_8_3
  | 4, _ => T.kit_8_4
  | 5, _ => T.kit_8_5
  | 6, _ => T.kit_8_6
  | 7, _ => T.kit_8_7
  | 8, _ => T.kit_8_8
  | 9, _ => T.kit_8_9
  | 10, _ => T.kit_8_10
  | 11, _ => T.kit_8_11
  | n + 12, h => by omega
theorem kit_c9 (T : Txt K mg X) : ∀ j, j < 12 → PySem.W.kitOne K (.ref X.c_NoHolder) (cuOf X j) = some (decide (9 = j))
  | 0, _ => T.kit_9_0
  | 1, _ => T.kit_9_1
  | 2, _ => T.kit_9_2
  | 3, _ => T.kit_9_3
  | 4, _ => T.kit_9_4
  | 5, _ => T.kit_9_5
  | 6, _ => T.kit_9_6
  | 7, _ => T.kit_9_7
  | 8, _ => T.kit_9_8
  | 9, _ => T.kit_9_9
  | 10, _ => T.kit_9_10
  | 11, _ => T.kit_9_11
  | n + 12, h => by omega
theorem kit_c10 (T : Txt K mg X) : ∀ j, j < 12 → PySem.W.kitOne K (.ref X.c_NoBlock) (cuOf X j) = some (decide (10 = j))
  | 0, _ => T.kit_10_0
  | 1, _ => T.kit_10_1
  | 2, _ => T.kit_10_2
  | 3, _ => T.kit_10_3
  | 4, _ => T.kit_10_4
  | 5, _ => T.kit_10_5
  | 6, _ => T.kit_10_6
  | 7, _ => T.kit_10_7
  | 8, _ => T.kit_10_8
  | 9, _ => T.kit_10_9
  | 10, _ => T.kit_10_10
  | 11, _ => T.kit_10_11
  | n + 12, h => by omega
theorem kit_c11 (T : Txt K mg X) : ∀ j, j < 12 → PySem.W.kitOne K (.ref X.c_NoText) (cuOf X j) = some (decide (11 = j))
  | 0, _ => T.kit_11_0
  | 1, _ => T.kit_11_1
  | 2, _ => T.kit_11_2
  | 3, _ => T.kit_11_3
  | 4, _ => T.kit_11_4
  | 5, _ => T.kit_11_5
  | 6, _ => T.kit_11_6
  | 7, _ => T.kit_11_7
  | 8, _ => T.kit_11_8
  | 9, _ => T.kit_11_9
  | 10, _ => T.kit_11_10
  | 11, _ => T.kit_11_11
  | n + 12, h => by omega
theorem kit_all (T : Txt K mg X) : ∀ c j, c < 12 → j < 12 → PySem.W.kitOne K (.ref (clOf X c)) (cuOf X j) = some (decide (c = j))
  | 0, j, _, h => kit_c0 T j h
  | 1, j, _, h => kit_c1 T j h
  | 2, j, _, h => kit_c2 T j h
  | 3, j, _, h => kit_c3 T j h
  | 4, j, _, h => kit_c4 T j h
  | 5, j, _, h => kit_c5 T j h
  | 6, j, _, h => kit_c6 T j h
  | 7, j, _, h => kit_c7 T j h
  | 8, j, _, h => kit_c8 T j h
  | 9, j, _, h => kit_c9 T j h
  | 10, j, _, h => kit_c10 T j h
  | 11, j, _, h => kit_c11 T j h
  | n + 12, _, h, _ => by omega
theorem kit_base (T : Txt K mg X) : ∀ c, c < 12 → PySem.W.kitOne K (.ref (clOf X c)) (cuOf X 12) = some true
  | 0, _ => T.kit_0_12
  | 1, _ => T.kit_1_12
  | 2, _ => T.kit_2_12
  | 3, _ => T.kit_3_12
  | 4, _ => T.kit_4_12
  | 5, _ => T.kit_5_12
  | 6, _ => T.kit_6_12
  | 7, _ => T.kit_7_12
  | 8, _ => T.kit_8_12
  | 9, _ => T.kit_9_12
  | 10, _ => T.kit_10_12
  | 11, _ => T.kit_11_12
  | n + 12, h => by omega
theorem kit_val (T : Txt K mg X) : ∀ c, c < 12 → PySem.W.kitOne K (.ref (clOf X c)) (cuOf X 13) = some true
  | 0, _ => T.kit_0_13
  | 1, _ => T.kit_1_13
  | 2, _ => T.kit_2_13
  | 3, _ => T.kit_3_13
  | 4, _ => T.kit_4_13
  | 5, _ => T.kit_5_13
  | 6, _ => T.kit_6_13
  | 7, _ => T.kit_7_13
  | 8, _ => T.kit_8_13
  | 9, _ => T.kit_9_13
  | 10, _ => T.kit_10_13
  | 11, _ => T.kit_11_13
  | n + 12, h => by omega
theorem isx_of {c j : Nat} {b : Bool} (h : c < 12) (e : PySem.W.kitOne K (.ref (clOf X c)) (cuOf X j) = some b) : (BX K X).isx (clOf X c) j = some b := by
  show (if ownCls X (clOf X c) = true then PySem.W.kitOne K (.ref (clOf X c)) (cuOf X j) else none) = _
  rw [if_pos (own_c X h)]
  exact e
theorem fo_of {c : Nat} {f : Str} (h : c < 12) (e : PySem.W.findIn K (.ref (clOf X c)) f = some none) : (BX K X).fo (clOf X c) f = true := by
  show (ownCls X (clOf X c) && decide (PySem.W.findIn K (.ref (clOf X c)) f = some none)) = true
  rw [own_c X h, decide_eq_true e]
  rfl
def kb (c : Nat) : List Bool := [decide (c = 0), decide (c = 1), decide (c = 2), decide (c = 3), decide (c = 4), decide (c = 5), decide (c = 6), decide (c = 7), decide (c = 8), decide (c = 9), decide (c = 10), decide (c = 11)]
theorem kinds_ok (T : Txt K mg X) (n : Nat) (St : Store) {c : Nat} (hc : c < 12) (ns : List Str) (xs : List D) : ∃ T', callN defs (BX K X) (n + 1) 4 St [.exc (clOf X c) ns xs] = some (.loc (St ++ T').length, St ++ T' ++ [.lst ((kb c).map D.bl)]) := by
  have h : ∀ j, j < 12 → (BX K X).isx (clOf X c) j = some (decide (c = j)) := fun j hj => isx_of hc (kit_all T c j hc hj)
  let L1 : O := .lst [.bl (decide (c = 0)), .bl (decide (c = 1)), .bl (decide (c = 2)), .bl (decide (c = 3))]
  let M1 : O := .lst [.bl (decide (c = 4)), .bl (decide (c = 5)), .bl (decide (c = 6)), .bl (decide (c = 7))]
  let L2 : O := .lst [.bl (decide (c = 0)), .bl (decide (c = 1)), .bl (decide (c = 2)), .bl (decide (c = 3)), .bl (decide (c = 4)), .bl (decide (c = 5)), .bl (decide (c = 6)), .bl (decide (c = 7))]
  let M2 : O := .lst [.bl (decide (c = 8)), .bl (decide (c = 9)), .bl (decide (c = 10))]
  let L3 : O := .lst [.bl (decide (c = 0)), .bl (decide (c = 1)), .bl (decide (c = 2)), .bl (decide (c = 3)), .bl (decide (c = 4)), .bl (decide (c = 5)), .bl (decide (c = 6)), .bl (decide (c = 7)), .bl (decide (c = 8)), .bl (decide (c = 9)), .bl (decide (c = 10))]
  let M3 : O := .lst [.bl (decide (c = 11))]
  refine ⟨[L1, M1, L2, M2, L3, M3], call_ret (p := 1) (s := 2) (b := b_l_kinds) rfl rfl ?_⟩
  have e := s_seq (C := ⟨BX K X, callN defs (BX K X) n⟩) (σ := [some (.exc (clOf X c) ns xs), none]) (St := St) (s_asg (i := 1) (e_lst (a_cons (e_isx (e_var (i := 0) rfl) (h 0 (by decide))) (a_cons (e_isx (e_var (i := 0) rfl) (h 1 (by decide))) (a_cons (e_isx (e_var (i := 0) rfl) (h 2 (by decide))) (a_cons (e_isx (e_var (i := 0) rfl) (h 3 (by decide))) a_nil)))) (Nat.le_of_ble_eq_true rfl)))
    (s_seq (s_asg (i := 1) (e_cat (e_var (i := 1) rfl) (e_lst (a_cons (e_isx (e_var (i := 0) rfl) (h 4 (by decide))) (a_cons (e_isx (e_var (i := 0) rfl) (h 5 (by decide))) (a_cons (e_isx (e_var (i := 0) rfl) (h 6 (by decide))) (a_cons (e_isx (e_var (i := 0) rfl) (h 7 (by decide))) a_nil)))) (Nat.le_of_ble_eq_true rfl)) (get_app at_new) at_new (Nat.le_of_ble_eq_true rfl)))
    (s_seq (s_asg (i := 1) (e_cat (e_var (i := 1) rfl) (e_lst (a_cons (e_isx (e_var (i := 0) rfl) (h 8 (by decide))) (a_cons (e_isx (e_var (i := 0) rfl) (h 9 (by decide))) (a_cons (e_isx (e_var (i := 0) rfl) (h 10 (by decide))) a_nil))) (Nat.le_of_ble_eq_true rfl)) (get_app at_new) at_new (Nat.le_of_ble_eq_true rfl)))
    (s_ret (e_cat (e_var (i := 1) rfl) (e_lst (a_cons (e_isx (e_var (i := 0) rfl) (h 11 (by decide))) a_nil) (Nat.le_of_ble_eq_true rfl)) (get_app at_new) at_new (Nat.le_of_ble_eq_true rfl)))))
  refine Eq.trans e ?_
  simp [L1, M1, L2, M2, L3, M3, kb]
theorem kb_eq {c : Nat} (hc : c < 12) : (List.range' 0 12).map (fun i => ((0 : Int) + (i : Nat) == ((c : Nat) : Int))) = kb c := by
  have h : ∀ c : Fin 12, (List.range' 0 12).map (fun i => ((0 : Int) + (i : Nat) == ((c.val : Nat) : Int))) = kb c.val := by decide
  exact h ⟨c, hc⟩
theorem i_enum {C : Ev} {σ : Sl} {St S1 : Store} {a : E} {n : Nat} {ds : List D} (h : evE C a σ St = some (.loc n, S1)) (h2 : S1[n]? = some (.lst ds)) : evI C (.ienum a) σ St = some (.enumL n, S1) := by
  rw [evI, h, Option.bind_some]
  simp only [srcEnum, h2]
theorem inner_ok (T : Txt K mg X) {c : Nat} (hc : c < 12) {ns : List Str} {xs : List D} {σ : Sl} (h10 : σ[10]? = some (some (.exc (clOf X c) ns xs))) (h9 : σ[9]? = some (some (.int (c : Nat)))) (hz : σ.length = 14) (St : Store) : ∃ T', evS ⟨BX K X, callN defs (BX K X) 19⟩ bInner σ St = some (.nx σ (St ++ T')) := by
  obtain ⟨T1, e1⟩ := kinds_ok T 18 St hc ns xs
  let S1 : Store := St ++ T1 ++ [.lst ((kb c).map D.bl)]
  obtain ⟨S2, e2, rfl⟩ := lcN_inv (src := .rng 0 12) (g := .name 13) (σ := σ) (fc := fun σ1 S1 => if E.nil.isNil = true then some (true, S1) else (evE ⟨BX K X, callN defs (BX K X) 19⟩ E.nil σ1 S1).bind asB) (fe := fun σ1 S1 => evE ⟨BX K X, callN defs (BX K X) 19⟩ (.op .eq (.var 13) (.var 9)) σ1 S1) 12 (fun i => .bl ((0 : Int) + (i : Nat) == ((c : Nat) : Int))) (fun _ S' => S' = S1)
    (fun S' _ => rfl) (fun i S' hi hS => by
      subst hS
      refine ⟨.int (0 + (i : Nat)), (σ.set 13 none).set 13 (some (.int (0 + (i : Nat)))), S1, S1, by simp only [Src.at, if_pos hi], rfl, rfl, e_op (x := .int (0 + (i : Nat))) (y := .int (c : Nat)) (S1 := S1) (S2 := S1) (e_var ?_) (e_var ?_) ?_, rfl⟩
      · rw [List.getElem?_set_self (by simp; omega)]
      · rw [List.getElem?_set_ne (by decide), List.getElem?_set_ne (by decide)]
        exact h9
      · rfl) LIM 0 [] S1 (by omega) (by decide) rfl
  have hb : ([] : List D) ++ (List.range' 0 (12 - 0)).map (fun i => D.bl ((0 : Int) + (i : Nat) == ((c : Nat) : Int))) = (kb c).map D.bl := by
    rw [← kb_eq hc, List.map_map]
    rfl
  rw [hb] at e2
  obtain ⟨T2, e3⟩ := same_ok (defs := defs) (B := BX K X) (i := 3) rfl 17 1 (S1 ++ [.lst ((kb c).map D.bl)]) (.loc (St ++ T1).length) (.loc S1.length) (Sm.bools (get_app at_new) at_new (by simp [kb]))
  refine ⟨T1 ++ [.lst ((kb c).map D.bl)] ++ [.lst ((kb c).map D.bl)] ++ T2, s_seq (s_if1 (e_or0 (e_not (z := true) (e_isx (e_var h10) (isx_of hc (kit_base T c hc)))) (e_not (z := true) (e_isx (e_var h10) (isx_of hc (kit_val T c hc)))))) ?_⟩
  refine Eq.trans (s_if1 (e_not (z := true) (e_call (a_cons (e_call (a_cons (e_var h10) a_nil) e1) (a_cons (e_lc (r := .rng 0 12) (S1 := S1) rfl e2) a_nil)) e3))) ?_
  simp [S1]
def xsome (X : Ad) (i j : Int) (nm : Str) (th : D) : List D := [.exc X.c_Empty ["row", "block"] [.int j, .int i], .exc X.c_Twin ["row", "block"] [.int i, .int j], .exc X.c_NoSet [] [], .exc X.c_NoNumber ["count"] [.int (10 ^ Int.toNat 30 + i)], .exc X.c_NoCode [] [],
  .exc X.c_NoRoom ["room"] [.int (j - 1)], .exc X.c_Standing ["name"] [.str nm], .exc X.c_Full ["most"] [.int j], .exc X.c_NoName ["name"] [th], .exc X.c_NoHolder ["holder"] [th], .exc X.c_NoBlock [] [], .exc X.c_NoText [] []]
theorem xsome_get (X : Ad) (i j : Int) (nm : Str) (th : D) : ∀ c, c < 12 → ∃ ns xs, (xsome X i j nm th)[c]? = some (.exc (clOf X c) ns xs)
  | 0, _ => ⟨_, _, rfl⟩
  | 1, _ => ⟨_, _, rfl⟩
  | 2, _ => ⟨_, _, rfl⟩
  | 3, _ => ⟨_, _, rfl⟩
  | 4, _ => ⟨_, _, rfl⟩
  | 5, _ => ⟨_, _, rfl⟩
  | 6, _ => ⟨_, _, rfl⟩
  | 7, _ => ⟨_, _, rfl⟩
  | 8, _ => ⟨_, _, rfl⟩
  | 9, _ => ⟨_, _, rfl⟩
  | 10, _ => ⟨_, _, rfl⟩
  | 11, _ => ⟨_, _, rfl⟩
  | n + 12, h => by omega
/-- the walk of the twelve -/
theorem walk_ok (T : Txt K mg X) {i j : Int} {nm : Str} {th : D} {q : Nat} {s0 s1 s2 s3 s4 s5 s6 s7 u v s11 s12 s13 : Option D} {St : Store} (hq : St[q]? = some (.lst (xsome X i j nm th))) :
    ∃ T' u' v', forN (.enumL q) (.tup [9, 10]) (fun σ1 S1 => evS ⟨BX K X, callN defs (BX K X) 19⟩ bInner σ1 S1) LIM 0 [s0, s1, s2, s3, s4, s5, s6, s7, some (.loc q), u, v, s11, s12, s13] St = some (.nx [s0, s1, s2, s3, s4, s5, s6, s7, some (.loc q), u', v', s11, s12, s13] (St ++ T')) := by
  obtain ⟨σ', S', e, u', v', T', rfl, rfl⟩ := forN_inv (src := .enumL q) (g := .tup [9, 10]) (body := fun σ1 S1 => evS ⟨BX K X, callN defs (BX K X) 19⟩ bInner σ1 S1) 12 (fun _ σ' S' => ∃ u v T', σ' = [s0, s1, s2, s3, s4, s5, s6, s7, some (.loc q), u, v, s11, s12, s13] ∧ S' = St ++ T')
    (fun σ' S' ⟨u, v, T', h1, h2⟩ => by
      subst h2
      simp only [Src.at, lstAt, get_app hq, Option.map_some]
      rfl)
    (fun c σ' S' hc ⟨u, v, T', h1, h2⟩ => by
      subst h1 h2
      obtain ⟨ns, xs, hx⟩ := xsome_get X i j nm th c hc
      obtain ⟨T2, e2⟩ := inner_ok T hc (ns := ns) (xs := xs) (σ := [s0, s1, s2, s3, s4, s5, s6, s7, some (.loc q), some (.int (c : Nat)), some (.exc (clOf X c) ns xs), s11, s12, s13]) rfl rfl rfl (St ++ T')
      refine ⟨.tup [.int (c : Nat), .exc (clOf X c) ns xs], _, _, _, ?_, rfl, e2, _, _, T' ++ T2, rfl, by rw [List.append_assoc]⟩
      simp only [Src.at, lstAt, get_app hq, Option.map_some, hx])
    LIM 0 _ St (by omega) (by decide) ⟨u, v, [], rfl, by simp⟩
  exact ⟨T', u', v', e⟩
theorem ok_small {i : Int} (h0 : -1 ≤ i) (h1 : i ≤ 14) : okI i = true := by
  have h : ∀ n : Fin 16, okI ((n.val : Int) - 1) = true := by decide +kernel
  have := h ⟨(i + 1).toNat, by omega⟩
  simp only at this
  rwa [show ((i + 1).toNat : Int) - 1 = i by omega] at this
theorem ok_big {i : Int} (h0 : 0 ≤ i) (h1 : i ≤ 5) : okI (10 ^ Int.toNat 30 + i) = true := by
  have h : ∀ n : Fin 6, okI (10 ^ Int.toNat 30 + (n.val : Int)) = true := by decide +kernel
  have := h ⟨i.toNat, by omega⟩
  simp only at this
  rwa [show (i.toNat : Int) = i by omega] at this
theorem mk_II {c : Nat} {A : Addr} {f g : Str} {i j : Int} (hi : okI i = true) (hj : okI j = true) (h : (mkxOf X c) = fun ds => (dII f g ds).map fun r => (A, r)) : (BX K X).mkx c [.int i, .int j] = some (A, [f, g], [.int j, .int i]) := by
  show mkxOf X c _ = _
  rw [h]
  simp [dII, hi, hj]
theorem mk_I {c : Nat} {A : Addr} {f : Str} {i : Int} (hi : okI i = true) (h : (mkxOf X c) = fun ds => (dI f ds).map fun r => (A, r)) : (BX K X).mkx c [.int i] = some (A, [f], [.int i]) := by
  show mkxOf X c _ = _
  rw [h]
  simp [dI, hi]
theorem mk_S {c : Nat} {A : Addr} {f : Str} {s : Str} (hi : s.length ≤ 1000) (h : (mkxOf X c) = fun ds => (dS f ds).map fun r => (A, r)) : (BX K X).mkx c [.str s] = some (A, [f], [.str s]) := by
  show mkxOf X c _ = _
  rw [h]
  simp [dS, hi]
end
end G

namespace G
open PySem L2 RZ IP
section
variable {K : PySem.W.Frag} {mg : Str → Option Value} {X : Ad}
theorem takes_ok : Takes ⟨BX K X, callN defs (BX K X) 19⟩ 2 := fun hP ha hb h0 h1 => take_ok (defs := defs) (B := BX K X) (i := 2) (f := 1) rfl rfl 17 hP ha hb h0 h1
theorem sm_xs {St : Store} {nm : Str} {th : D} {i j : Int} (hn : PyData.strOk nm = true) (ht : Sm St 1 th th) : ∀ x ∈ ([.int i, .int j, .int j, .int i, .int (10 ^ Int.toNat 30 + i), .int (j - 1), .str nm, .int j, th, th] : List D), Sm St 1 x x := by
  intro x hx
  simp only [List.mem_cons, List.not_mem_nil, or_false] at hx
  rcases hx with rfl | rfl | rfl | rfl | rfl | rfl | rfl | rfl | rfl | rfl
  all_goals first | exact ht | exact .inl ⟨rfl, rfl⟩ | exact .inl ⟨rfl, hn⟩
theorem turn_ok (T : Txt K mg X) {p : Nat} {a : Int} {s0 s2 s3 s4 s5 s6 s7 s8 s9 s10 s11 s12 s13 : Option D} {St : Store} (hP : Pen St p a) (h0 : 0 ≤ a) (h1 : a ≤ 1000) :
    ∃ σ' S' a', evS ⟨BX K X, callN defs (BX K X) 19⟩ bTurn [s0, some (.loc p), s2, s3, s4, s5, s6, s7, s8, s9, s10, s11, s12, s13] St = some (.nx σ' S') ∧ σ'.length = 14 ∧ σ'[1]? = some (some (.loc p)) ∧ Pen S' p a' ∧ 0 ≤ a' ∧ a' ≤ a + 5 := by
  obtain ⟨w, S1, e1, hw, t1⟩ := take_pick (C := ⟨BX K X, callN defs (BX K X) 19⟩) (f := 2) (am := 3) (i := 1) (σ := [s0, some (.loc p), s2, s3, s4, s5, s6, s7, s8, s9, s10, s11, s12, s13]) takes_ok rfl (a_cons (e_str (s := "")) (a_cons (e_str (s := "a word")) (a_cons (e_str (s := "none")) a_nil))) hP h0 (by omega) (by simp) (by simp) (by simp)
  obtain ⟨a1, P1, b1, c1⟩ := t1.pen
  obtain ⟨i, S2, e2, i0, i1, t2⟩ := take_num (C := ⟨BX K X, callN defs (BX K X) 19⟩) (f := 2) (am := 6) (i := 1) (σ := [s0, some (.loc p), s2, some w, s4, s5, s6, s7, s8, s9, s10, s11, s12, s13]) takes_ok rfl P1 b1 (by omega) (by decide) (by decide)
  obtain ⟨a2, P2, b2, c2⟩ := t2.pen
  obtain ⟨j, S3, e3, j0, j1, t3⟩ := take_num (C := ⟨BX K X, callN defs (BX K X) 19⟩) (f := 2) (am := 15) (i := 1) (σ := [s0, some (.loc p), s2, some w, s4, s5, s6, s7, s8, s9, s10, s11, s12, s13]) takes_ok rfl P2 b2 (by omega) (by decide) (by decide)
  obtain ⟨a3, P3, b3, c3⟩ := t3.pen
  obtain ⟨n, S4, e4, hn, t4⟩ := take_pick (C := ⟨BX K X, callN defs (BX K X) 19⟩) (f := 2) (am := 2) (i := 1) (σ := [s0, some (.loc p), s2, some w, some (.int i), some (.int j), s6, s7, s8, s9, s10, s11, s12, s13]) takes_ok rfl (a_cons (e_str (s := "a")) (a_cons (e_str (s := "zzzzzzzz")) a_nil)) P3 b3 (by omega) (by simp) (by simp) (by simp)
  obtain ⟨a4, P4, b4, c4⟩ := t4.pen
  obtain ⟨th, S5, e5, hth, t5⟩ := take_pick (C := ⟨BX K X, callN defs (BX K X) 19⟩) (f := 2) (am := 6) (i := 1) (σ := [s0, some (.loc p), s2, some w, some (.int i), some (.int j), s6, s7, s8, s9, s10, s11, s12, s13]) takes_ok rfl
    (a_cons e_non (a_cons (e_str (s := "")) (a_cons (e_lst (a_cons (e_str (s := "a")) a_nil) (Nat.le_of_ble_eq_true rfl)) (a_cons (e_tup (a_cons (e_str (s := "a")) (a_cons (e_int (i := 1)) a_nil)) (Nat.le_of_ble_eq_true rfl)) (a_cons (e_int (i := 7)) (a_cons (e_bl (b := true)) a_nil)))))) P4.app b4 (by omega) (by simp) (by simp) (by simp)
  obtain ⟨a5, P5, b5, c5⟩ := t5.pen
  obtain ⟨nm, rfl, nl, no⟩ : ∃ nm, n = .str nm ∧ nm.length ≤ 1000 ∧ PyData.strOk nm = true := by
    simp only [List.mem_cons, List.not_mem_nil, or_false] at hn
    rcases hn with rfl | rfl
    · exact ⟨_, rfl, by decide +kernel, by decide +kernel⟩
    · exact ⟨_, rfl, by decide +kernel, by decide +kernel⟩
  have hT : Sm S5 1 th th := by
    simp only [List.mem_cons, List.not_mem_nil, or_false] at hth
    rcases hth with rfl | rfl | rfl | rfl | rfl | rfl
    · exact Sm.flat rfl
    · exact Sm.flat (by decide +kernel)
    · have hx : S5[S4.length]? = some (.lst [.str "a"]) := t5.ex _ _ (by have := P4.lt; omega) at_new
      exact Sm.list hx hx (by simp) fun x hx => by
        simp only [List.mem_cons, List.not_mem_nil, or_false] at hx
        subst hx
        exact Sm.flat (by decide +kernel)
    · exact Sm.tup (by simp) fun x hx => by
        simp only [List.mem_cons, List.not_mem_nil, or_false] at hx
        rcases hx with rfl | rfl
        · exact Sm.flat (by decide +kernel)
        · exact Sm.flat rfl
    · exact Sm.flat rfl
    · exact Sm.flat rfl
  have oi : okI i = true := ok_small (by omega) (by omega)
  have oj : okI j = true := ok_small (by omega) (by omega)
  have oj1 : okI (j - 1) = true := ok_small (by omega) (by omega)
  have ob : okI (10 ^ Int.toNat 30 + i) = true := ok_big (by omega) (by omega)
  let A : List D := [.exc X.c_Empty ["row", "block"] [.int j, .int i], .exc X.c_Twin ["row", "block"] [.int i, .int j], .exc X.c_NoSet [] [], .exc X.c_NoNumber ["count"] [.int (10 ^ Int.toNat 30 + i)], .exc X.c_NoCode [] []]
  let B : List D := [.exc X.c_NoRoom ["room"] [.int (j - 1)], .exc X.c_Standing ["name"] [.str nm], .exc X.c_Full ["most"] [.int j], .exc X.c_NoName ["name"] [th], .exc X.c_NoHolder ["holder"] [th]]
  let D0 : List D := [.exc X.c_NoBlock [] [], .exc X.c_NoText [] []]
  let S6 : Store := S5 ++ [O.lst A]
  let S7 : Store := S6 ++ [O.lst B] ++ [O.lst (A ++ B)]
  let S8 : Store := S7 ++ [O.lst D0] ++ [O.lst (A ++ B ++ D0)]
  have hq : S8[(S7 ++ [O.lst D0]).length]? = some (.lst (xsome X i j nm th)) := at_new
  obtain ⟨T9, u, v, e9⟩ := walk_ok T (s0 := s0) (s1 := some (.loc p)) (s2 := s2) (s3 := some w) (s4 := some (.int i)) (s5 := some (.int j)) (s6 := some (.str nm)) (s7 := some th) (u := s9) (v := s10) (s11 := s11) (s12 := s12) (s13 := s13) hq
  let S9 : Store := S8 ++ T9
  have hq9 : S9[(S7 ++ [O.lst D0]).length]? = some (.lst (xsome X i j nm th)) := get_app hq
  let F1 : List D := [.int i, .int j, .int j, .int i, .int (10 ^ Int.toNat 30 + i), .int (j - 1), .str nm]
  let F2 : List D := [.int j, th, th]
  let S10 : Store := S9 ++ [O.lst F1]
  have hq10 : S10[(S7 ++ [O.lst D0]).length]? = some (.lst (xsome X i j nm th)) := get_app hq9
  let S11 : Store := S10 ++ [O.lst F2] ++ [O.lst (F1 ++ F2)]
  let S12 : Store := S11 ++ [O.lst (F1 ++ F2)]
  obtain ⟨T13, e13⟩ := same_ok (defs := defs) (B := BX K X) (i := 3) rfl 16 2 S12 (.loc (S10 ++ [O.lst F2]).length) (.loc S11.length) (Sm.list (get_app at_new) at_new (by simp [F1, F2]) (sm_xs no (by
    have h := hT.app (T := [O.lst A] ++ [O.lst B] ++ [O.lst (A ++ B)] ++ [O.lst D0] ++ [O.lst (A ++ B ++ D0)] ++ T9 ++ [O.lst F1] ++ [O.lst F2] ++ [O.lst (F1 ++ F2)] ++ [O.lst (F1 ++ F2)])
    simpa [S12, S11, S10, S9, S8, S7, S6] using h)))
  have f0b := fo_of (c := 0) (K := K) (X := X) (by decide) T.nf_Empty_block
  have f0r := fo_of (c := 0) (K := K) (X := X) (by decide) T.nf_Empty_row
  have f1b := fo_of (c := 1) (K := K) (X := X) (by decide) T.nf_Twin_block
  have f1r := fo_of (c := 1) (K := K) (X := X) (by decide) T.nf_Twin_row
  have f3 := fo_of (c := 3) (K := K) (X := X) (by decide) T.nf_NoNumber_count
  have f5 := fo_of (c := 5) (K := K) (X := X) (by decide) T.nf_NoRoom_room
  have f6 := fo_of (c := 6) (K := K) (X := X) (by decide) T.nf_Standing_name
  have f7 := fo_of (c := 7) (K := K) (X := X) (by decide) T.nf_Full_most
  have f8 := fo_of (c := 8) (K := K) (X := X) (by decide) T.nf_NoName_name
  have f9 := fo_of (c := 9) (K := K) (X := X) (by decide) T.nf_NoHolder_holder
  refine ⟨_, S12 ++ T13, a5, s_seq (s_asg e1) (s_seq (s_par e2 e3) (s_seq (s_par e4 e5)
    (s_seq (σ1 := [s0, some (.loc p), s2, some w, some (.int i), some (.int j), some (.str nm), some th, some (.loc S5.length), s9, s10, s11, s12, s13]) (S1 := S6) ?g1
    (s_seq (σ1 := [s0, some (.loc p), s2, some w, some (.int i), some (.int j), some (.str nm), some th, some (.loc (S6 ++ [O.lst B]).length), s9, s10, s11, s12, s13]) (S1 := S7) ?g2
    (s_seq (σ1 := [s0, some (.loc p), s2, some w, some (.int i), some (.int j), some (.str nm), some th, some (.loc (S7 ++ [O.lst D0]).length), s9, s10, s11, s12, s13]) (S1 := S8) ?g3
    (s_seq (s_for (i_enum (e_var rfl) hq) e9)
    (s_seq (σ1 := [s0, some (.loc p), s2, some w, some (.int i), some (.int j), some (.str nm), some th, some (.loc (S7 ++ [O.lst D0]).length), u, v, some (.loc S9.length), s12, s13]) (S1 := S10) ?g4
    (s_seq (σ1 := [s0, some (.loc p), s2, some w, some (.int i), some (.int j), some (.str nm), some th, some (.loc (S7 ++ [O.lst D0]).length), u, v, some (.loc (S10 ++ [O.lst F2]).length), s12, s13]) (S1 := S11) ?g5
    (s_seq (σ1 := [s0, some (.loc p), s2, some w, some (.int i), some (.int j), some (.str nm), some th, some (.loc (S7 ++ [O.lst D0]).length), u, v, some (.loc (S10 ++ [O.lst F2]).length), some (.loc S11.length), s13]) (S1 := S12) ?g6
    (s_if1 (e_not (z := true) (e_call (a_cons (e_var rfl) (a_cons (e_var rfl) a_nil)) e13)))))))))))), rfl, rfl, ?g7, b5, by omega⟩
  case g1 =>
    exact s_asg (e_lst (a_cons (e_mkx (r := (X.c_Empty, ["row", "block"], [.int j, .int i])) (a_cons (e_var rfl) (a_cons (e_var rfl) a_nil)) (mk_II (c := 0) oi oj rfl)) (a_cons (e_mkx (r := (X.c_Twin, ["row", "block"], [.int i, .int j])) (a_cons (e_var rfl) (a_cons (e_var rfl) a_nil)) (mk_II (c := 1) oj oi rfl)) (a_cons (e_mkx (r := (X.c_NoSet, [], [])) (a_cons (e_var rfl) a_nil) rfl) (a_cons (e_mkx (r := (X.c_NoNumber, ["count"], [.int (10 ^ Int.toNat 30 + i)])) (a_cons (e_add (e_pow (e_int (i := 10)) (e_int (i := 30)) (by decide) (by decide) (by decide)) (e_var rfl)) a_nil) (mk_I (c := 3) ob rfl)) (a_cons (e_mkx (r := (X.c_NoCode, [], [])) (a_cons (e_var rfl) a_nil) rfl) a_nil))))) (Nat.le_of_ble_eq_true rfl))
  case g2 =>
    exact s_asg (e_cat (e_var rfl) (e_lst (a_cons (e_mkx (r := (X.c_NoRoom, ["room"], [.int (j - 1)])) (a_cons (e_sub (e_var rfl) e_int) a_nil) (mk_I (c := 5) oj1 rfl)) (a_cons (e_mkx (r := (X.c_Standing, ["name"], [.str nm])) (a_cons (e_var rfl) a_nil) (mk_S (c := 6) nl rfl)) (a_cons (e_mkx (r := (X.c_Full, ["most"], [.int j])) (a_cons (e_var rfl) a_nil) (mk_I (c := 7) oj rfl)) (a_cons (e_mkx (r := (X.c_NoName, ["name"], [th])) (a_cons (e_var rfl) a_nil) rfl) (a_cons (e_mkx (r := (X.c_NoHolder, ["holder"], [th])) (a_cons (e_var rfl) a_nil) rfl) a_nil))))) (Nat.le_of_ble_eq_true rfl)) (xs := A) (ys := B) (get_app at_new) at_new (Nat.le_of_ble_eq_true rfl))
  case g3 =>
    exact s_asg (e_cat (e_var rfl) (e_lst (a_cons (e_mkx (r := (X.c_NoBlock, [], [])) (a_cons (e_var rfl) a_nil) rfl) (a_cons (e_mkx (r := (X.c_NoText, [], [])) (a_cons (e_var rfl) a_nil) rfl) a_nil)) (Nat.le_of_ble_eq_true rfl)) (xs := A ++ B) (ys := D0) (get_app at_new) at_new (Nat.le_of_ble_eq_true rfl))
  case g4 =>
    exact s_asg (e_lst (a_cons (e_fld (j := 1) (e_ixL (k := 0) (e_var rfl) hq9 rfl) f0b (by decide +kernel) rfl) (a_cons (e_fld (j := 0) (e_ixL (k := 0) (e_var rfl) hq9 rfl) f0r (by decide +kernel) rfl) (a_cons (e_fld (j := 1) (e_ixL (k := 1) (e_var rfl) hq9 rfl) f1b (by decide +kernel) rfl) (a_cons (e_fld (j := 0) (e_ixL (k := 1) (e_var rfl) hq9 rfl) f1r (by decide +kernel) rfl) (a_cons (e_fld (j := 0) (e_ixL (k := 3) (e_var rfl) hq9 rfl) f3 (by decide +kernel) rfl) (a_cons (e_fld (j := 0) (e_ixL (k := 5) (e_var rfl) hq9 rfl) f5 (by decide +kernel) rfl) (a_cons (e_fld (j := 0) (e_ixL (k := 6) (e_var rfl) hq9 rfl) f6 (by decide +kernel) rfl) a_nil))))))) (Nat.le_of_ble_eq_true rfl))
  case g5 =>
    exact s_asg (e_cat (e_var rfl) (e_lst (a_cons (e_fld (j := 0) (e_ixL (k := 7) (e_var rfl) hq10 rfl) f7 (by decide +kernel) rfl) (a_cons (e_fld (j := 0) (e_ixL (k := 8) (e_var rfl) hq10 rfl) f8 (by decide +kernel) rfl) (a_cons (e_fld (j := 0) (e_ixL (k := 9) (e_var rfl) hq10 rfl) f9 (by decide +kernel) rfl) a_nil))) (Nat.le_of_ble_eq_true rfl)) (xs := F1) (ys := F2) (get_app at_new) at_new (Nat.le_of_ble_eq_true rfl))
  case g6 =>
    exact s_asg (e_lst (a_cons (e_var rfl) (a_cons (e_var rfl) (a_cons (e_var rfl) (a_cons (e_var rfl) (a_cons (e_add (e_pow (e_int (i := 10)) (e_int (i := 30)) (by decide) (by decide) (by decide)) (e_var rfl)) (a_cons (e_sub (e_var rfl) e_int) (a_cons (e_var rfl) (a_cons (e_var rfl) (a_cons (e_var rfl) (a_cons (e_var rfl) a_nil)))))))))) (Nat.le_of_ble_eq_true rfl))
  case g7 =>
    have h := P5.app (T := [O.lst A] ++ [O.lst B] ++ [O.lst (A ++ B)] ++ [O.lst D0] ++ [O.lst (A ++ B ++ D0)] ++ T9 ++ [O.lst F1] ++ [O.lst F2] ++ [O.lst (F1 ++ F2)] ++ [O.lst (F1 ++ F2)] ++ T13)
    simpa [S12, S11, S10, S9, S8, S7, S6] using h
theorem LAWPURE (T : Txt K mg X) (ns : List Int) (hl : ns.length ≤ 63) : ∃ S', callN defs (BX K X) 20 5 [] [.rol (ns.map D.int)] = some (.bl true, S') := by
  obtain ⟨p, S1, e1, P1, _, _⟩ := open_ok (defs := defs) (B := BX K X) (i := 0) rfl 18 [] (ns := ns) (by omega)
  obtain ⟨σ', S', e2, I⟩ := forN_inv (src := .rng 0 3) (g := .name 2) (body := fun σ1 S1 => evS ⟨BX K X, callN defs (BX K X) 19⟩ bTurn σ1 S1) 3 (fun i σ St => σ.length = 14 ∧ σ[1]? = some (some (.loc p)) ∧ ∃ a, Pen St p a ∧ 0 ≤ a ∧ a ≤ 5 * i)
    (fun σ St _ => rfl)
    (fun i σ St hi ⟨h14, h1, a, hP, h0, h5⟩ => by
      match σ, h14 with
      | [s0, s1, s2, s3, s4, s5, s6, s7, s8, s9, s10, s11, s12, s13], _ =>
        simp only [List.getElem?_cons_zero, Option.some.injEq, List.getElem?_cons_succ] at h1
        subst h1
        obtain ⟨σ2, S2, a2, e, l, h, P, b, c⟩ := turn_ok T (s0 := s0) (s2 := some (.int (0 + (i : Nat)))) (s3 := s3) (s4 := s4) (s5 := s5) (s6 := s6) (s7 := s7) (s8 := s8) (s9 := s9) (s10 := s10) (s11 := s11) (s12 := s12) (s13 := s13) hP h0 (by omega)
        exact ⟨.int (0 + (i : Nat)), _, σ2, S2, by simp only [Src.at, if_pos hi], rfl, e, l, h, a2, P, b, by omega⟩)
    LIM 0 [some (.rol (ns.map D.int)), some (.loc p), none, none, none, none, none, none, none, none, none, none, none, none] S1 (by omega) (by decide) ⟨rfl, rfl, 0, P1, by omega, by omega⟩
  refine ⟨S', call_ret (p := 1) (s := 14) (b := b_p_law) rfl rfl ?_⟩
  rw [law_text]
  exact s_seq (s_asg (e_call (a_cons (e_var rfl) a_nil) e1)) (s_seq (s_for (r := .rng 0 3) (S1 := S1) rfl e2) (s_ret e_bl))
end
end G

namespace G
open PySem PySem.Spec PyProof.Rows L2 RZ IP
theorem kit_no {K : PySem.W.Frag} {A B : Addr} (h : PySem.W.subIn K (.ref A) (.ref B) = some false) (s : PySem.W.subIn K (.ref A) (.ref A) = some true) (i : PySem.W.isClsIn K B = true) (t : PySem.W.typeIn K (.ref B) = some (.type "type")) : PySem.W.kitOne K (.ref A) (.ref B) = some false := by
  have ne : ¬ ((Value.ref A == Value.ref B) = true) := fun z => by
    have e : A = B := Value.ref.inj (beq_iff_eq.mp z)
    subst e
    rw [s] at h
    cases h
  have i2 : (PySem.W.clsIn K B).isSome = true := i
  unfold PySem.W.kitOne
  rw [if_neg ne]
  show (if ((PySem.W.clsIn K B).isSome && PySem.W.typeIn K (.ref B) == some (.type "type")) = true then PySem.W.subIn K (.ref A) (.ref B) else none) = some false
  rw [i2, t, if_pos (by rfl)]
  exact h
theorem kit_self {K : PySem.W.Frag} {A : Addr} : PySem.W.kitOne K (.ref A) (.ref A) = some true := by
  unfold PySem.W.kitOne
  rw [if_pos (beq_self_eq_true _)]
theorem kit_yes {K : PySem.W.Frag} {A B : Addr} (h : PySem.W.subIn K (.ref A) (.ref B) = some true) (i : PySem.W.isClsIn K B = true) (t : PySem.W.typeIn K (.ref B) = some (.type "type")) : PySem.W.kitOne K (.ref A) (.ref B) = some true := by
  have i2 : (PySem.W.clsIn K B).isSome = true := i
  unfold PySem.W.kitOne
  split
  · rfl
  · show (if ((PySem.W.clsIn K B).isSome && PySem.W.typeIn K (.ref B) == some (.type "type")) = true then PySem.W.subIn K (.ref A) (.ref B) else none) = some true
    rw [i2, t, if_pos (by rfl)]
    exact h
theorem kit_ve {K : PySem.W.Frag} {A : Addr} (h : PySem.W.subIn K (.ref A) (.type "ValueError") = some true) : PySem.W.kitOne K (.ref A) (.type "ValueError") = some true := by
  unfold PySem.W.kitOne
  rw [if_neg (by intro z; cases (beq_iff_eq.mp z : Value.ref A = Value.type "ValueError"))]
  show (if PySem.W.kitMeta "ValueError" = true then PySem.W.subIn K (.ref A) (.type "ValueError") else none) = some true
  rw [if_pos (by decide +kernel)]
  exact h
theorem all_mk {K : PySem.W.Frag} {h : Heap} {mg : Str → Option Value} {fa : Addr} (KX : K.In h) (G : h.Ns mainGlobals mg) (hfa : mg "law" = some (.ref fa))
    {f_l_open : Addr} {od_l_open an_l_open : Option Addr} {sl_l_open : Array (Option Value)} {oc_l_open kV_l_open dc_l_open pm_l_open cd_l_open ct_l_open : Value}
    {f_l_spread : Addr} {od_l_spread an_l_spread : Option Addr} {sl_l_spread : Array (Option Value)} {oc_l_spread kV_l_spread dc_l_spread pm_l_spread cd_l_spread ct_l_spread : Value}
    {f_l_take : Addr} {od_l_take an_l_take : Option Addr} {sl_l_take : Array (Option Value)} {oc_l_take kV_l_take dc_l_take pm_l_take cd_l_take ct_l_take : Value}
    {f_l_same : Addr} {od_l_same an_l_same : Option Addr} {sl_l_same : Array (Option Value)} {oc_l_same kV_l_same dc_l_same pm_l_same cd_l_same ct_l_same : Value}
    {f_l_kinds : Addr} {od_l_kinds an_l_kinds : Option Addr} {sl_l_kinds : Array (Option Value)} {oc_l_kinds kV_l_kinds dc_l_kinds pm_l_kinds cd_l_kinds ct_l_kinds : Value}
    {f_p_law : Addr} {od_p_law an_p_law : Option Addr} {sl_p_law : Array (Option Value)} {oc_p_law kV_p_law dc_p_law pm_p_law cd_p_law ct_p_law : Value}
    {c_L : Addr}
    {c_Empty : Addr}
    {nm_Empty qn_Empty : Str} {N_Empty : Addr} {bs_Empty bm_Empty : List Value} {sn_Empty : List Str} {sub_Empty : List Value} {ab_Empty : Bool} {col_Empty : Option Bool} {dd_Empty : Option Addr} {m0_Empty m1_Empty m2_Empty m3_Empty m5_Empty : Option Value}
    {i_Empty : Addr} {od_i_Empty an_i_Empty : Option Addr} {sl_i_Empty : Array (Option Value)} {oc_i_Empty kV_i_Empty dc_i_Empty pm_i_Empty cd_i_Empty ct_i_Empty : Value}
    {c_Twin : Addr}
    {nm_Twin qn_Twin : Str} {N_Twin : Addr} {bs_Twin bm_Twin : List Value} {sn_Twin : List Str} {sub_Twin : List Value} {ab_Twin : Bool} {col_Twin : Option Bool} {dd_Twin : Option Addr} {m0_Twin m1_Twin m2_Twin m3_Twin m5_Twin : Option Value}
    {i_Twin : Addr} {od_i_Twin an_i_Twin : Option Addr} {sl_i_Twin : Array (Option Value)} {oc_i_Twin kV_i_Twin dc_i_Twin pm_i_Twin cd_i_Twin ct_i_Twin : Value}
    {c_NoSet : Addr}
    {c_NoNumber : Addr}
    {nm_NoNumber qn_NoNumber : Str} {N_NoNumber : Addr} {bs_NoNumber bm_NoNumber : List Value} {sn_NoNumber : List Str} {sub_NoNumber : List Value} {ab_NoNumber : Bool} {col_NoNumber : Option Bool} {dd_NoNumber : Option Addr} {m0_NoNumber m1_NoNumber m2_NoNumber m3_NoNumber m5_NoNumber : Option Value}
    {i_NoNumber : Addr} {od_i_NoNumber an_i_NoNumber : Option Addr} {sl_i_NoNumber : Array (Option Value)} {oc_i_NoNumber kV_i_NoNumber dc_i_NoNumber pm_i_NoNumber cd_i_NoNumber ct_i_NoNumber : Value}
    {c_NoCode : Addr}
    {c_NoRoom : Addr}
    {nm_NoRoom qn_NoRoom : Str} {N_NoRoom : Addr} {bs_NoRoom bm_NoRoom : List Value} {sn_NoRoom : List Str} {sub_NoRoom : List Value} {ab_NoRoom : Bool} {col_NoRoom : Option Bool} {dd_NoRoom : Option Addr} {m0_NoRoom m1_NoRoom m2_NoRoom m3_NoRoom m5_NoRoom : Option Value}
    {i_NoRoom : Addr} {od_i_NoRoom an_i_NoRoom : Option Addr} {sl_i_NoRoom : Array (Option Value)} {oc_i_NoRoom kV_i_NoRoom dc_i_NoRoom pm_i_NoRoom cd_i_NoRoom ct_i_NoRoom : Value}
    {c_Standing : Addr}
    {nm_Standing qn_Standing : Str} {N_Standing : Addr} {bs_Standing bm_Standing : List Value} {sn_Standing : List Str} {sub_Standing : List Value} {ab_Standing : Bool} {col_Standing : Option Bool} {dd_Standing : Option Addr} {m0_Standing m1_Standing m2_Standing m3_Standing m5_Standing : Option Value}
    {i_Standing : Addr} {od_i_Standing an_i_Standing : Option Addr} {sl_i_Standing : Array (Option Value)} {oc_i_Standing kV_i_Standing dc_i_Standing pm_i_Standing cd_i_Standing ct_i_Standing : Value}
    {c_Full : Addr}
    {nm_Full qn_Full : Str} {N_Full : Addr} {bs_Full bm_Full : List Value} {sn_Full : List Str} {sub_Full : List Value} {ab_Full : Bool} {col_Full : Option Bool} {dd_Full : Option Addr} {m0_Full m1_Full m2_Full m3_Full m5_Full : Option Value}
    {i_Full : Addr} {od_i_Full an_i_Full : Option Addr} {sl_i_Full : Array (Option Value)} {oc_i_Full kV_i_Full dc_i_Full pm_i_Full cd_i_Full ct_i_Full : Value}
    {c_NoName : Addr}
    {nm_NoName qn_NoName : Str} {N_NoName : Addr} {bs_NoName bm_NoName : List Value} {sn_NoName : List Str} {sub_NoName : List Value} {ab_NoName : Bool} {col_NoName : Option Bool} {dd_NoName : Option Addr} {m0_NoName m1_NoName m2_NoName m3_NoName m5_NoName : Option Value}
    {i_NoName : Addr} {od_i_NoName an_i_NoName : Option Addr} {sl_i_NoName : Array (Option Value)} {oc_i_NoName kV_i_NoName dc_i_NoName pm_i_NoName cd_i_NoName ct_i_NoName : Value}
    {c_NoHolder : Addr}
    {nm_NoHolder qn_NoHolder : Str} {N_NoHolder : Addr} {bs_NoHolder bm_NoHolder : List Value} {sn_NoHolder : List Str} {sub_NoHolder : List Value} {ab_NoHolder : Bool} {col_NoHolder : Option Bool} {dd_NoHolder : Option Addr} {m0_NoHolder m1_NoHolder m2_NoHolder m3_NoHolder m5_NoHolder : Option Value}
    {i_NoHolder : Addr} {od_i_NoHolder an_i_NoHolder : Option Addr} {sl_i_NoHolder : Array (Option Value)} {oc_i_NoHolder kV_i_NoHolder dc_i_NoHolder pm_i_NoHolder cd_i_NoHolder ct_i_NoHolder : Value}
    {c_NoBlock : Addr}
    {c_NoText : Addr}
    (a_l_open : PySem.W.nsIn K mainGlobals "_law_open" = some (some (.ref f_l_open)))
    (l_l_open : K.lookup f_l_open = some ⟨oc_l_open, od_l_open, .func (PySem.W.fnOf "_law_open" "_law_open" (defArgs s_l_open) (defBody s_l_open) (defScope s_l_open) .none kV_l_open dc_l_open pm_l_open an_l_open cd_l_open ct_l_open), sl_l_open⟩)
    (c_l_open : PySem.W.codeIn K cd_l_open "_law_open" = true)
    (k_l_open : PySem.W.keepIn K (.ref f_l_open) = true)
    (a_l_spread : PySem.W.nsIn K mainGlobals "_law_spread" = some (some (.ref f_l_spread)))
    (l_l_spread : K.lookup f_l_spread = some ⟨oc_l_spread, od_l_spread, .func (PySem.W.fnOf "_law_spread" "_law_spread" (defArgs s_l_spread) (defBody s_l_spread) (defScope s_l_spread) .none kV_l_spread dc_l_spread pm_l_spread an_l_spread cd_l_spread ct_l_spread), sl_l_spread⟩)
    (c_l_spread : PySem.W.codeIn K cd_l_spread "_law_spread" = true)
    (k_l_spread : PySem.W.keepIn K (.ref f_l_spread) = true)
    (a_l_take : PySem.W.nsIn K mainGlobals "_law_take" = some (some (.ref f_l_take)))
    (l_l_take : K.lookup f_l_take = some ⟨oc_l_take, od_l_take, .func (PySem.W.fnOf "_law_take" "_law_take" (defArgs s_l_take) (defBody s_l_take) (defScope s_l_take) .none kV_l_take dc_l_take pm_l_take an_l_take cd_l_take ct_l_take), sl_l_take⟩)
    (c_l_take : PySem.W.codeIn K cd_l_take "_law_take" = true)
    (k_l_take : PySem.W.keepIn K (.ref f_l_take) = true)
    (a_l_same : PySem.W.nsIn K mainGlobals "_law_same" = some (some (.ref f_l_same)))
    (l_l_same : K.lookup f_l_same = some ⟨oc_l_same, od_l_same, .func (PySem.W.fnOf "_law_same" "_law_same" (defArgs s_l_same) (defBody s_l_same) (defScope s_l_same) .none kV_l_same dc_l_same pm_l_same an_l_same cd_l_same ct_l_same), sl_l_same⟩)
    (c_l_same : PySem.W.codeIn K cd_l_same "_law_same" = true)
    (k_l_same : PySem.W.keepIn K (.ref f_l_same) = true)
    (a_l_kinds : PySem.W.nsIn K mainGlobals "_law_kinds" = some (some (.ref f_l_kinds)))
    (l_l_kinds : K.lookup f_l_kinds = some ⟨oc_l_kinds, od_l_kinds, .func (PySem.W.fnOf "_law_kinds" "_law_kinds" (defArgs s_l_kinds) (defBody s_l_kinds) (defScope s_l_kinds) .none kV_l_kinds dc_l_kinds pm_l_kinds an_l_kinds cd_l_kinds ct_l_kinds), sl_l_kinds⟩)
    (c_l_kinds : PySem.W.codeIn K cd_l_kinds "_law_kinds" = true)
    (k_l_kinds : PySem.W.keepIn K (.ref f_l_kinds) = true)
    (a_p_law : PySem.W.nsIn K mainGlobals "law" = some (some (.ref f_p_law)))
    (l_p_law : K.lookup f_p_law = some ⟨oc_p_law, od_p_law, .func (PySem.W.fnOf "law" "law" (defArgs s_p_law) (defBody s_p_law) (defScope s_p_law) .none kV_p_law dc_p_law pm_p_law an_p_law cd_p_law ct_p_law), sl_p_law⟩)
    (c_p_law : PySem.W.codeIn K cd_p_law "law" = true)
    (k_p_law : PySem.W.keepIn K (.ref f_p_law) = true)
    (z_ValueError : PySem.W.nsIn K mainGlobals "ValueError" = some none)
    (z_bool : PySem.W.nsIn K mainGlobals "bool" = some none)
    (z_enumerate : PySem.W.nsIn K mainGlobals "enumerate" = some none)
    (z_int : PySem.W.nsIn K mainGlobals "int" = some none)
    (z_isinstance : PySem.W.nsIn K mainGlobals "isinstance" = some none)
    (z_len : PySem.W.nsIn K mainGlobals "len" = some none)
    (z_list : PySem.W.nsIn K mainGlobals "list" = some none)
    (z_range : PySem.W.nsIn K mainGlobals "range" = some none)
    (z_str : PySem.W.nsIn K mainGlobals "str" = some none)
    (z_tuple : PySem.W.nsIn K mainGlobals "tuple" = some none)
    (z_zip : PySem.W.nsIn K mainGlobals "zip" = some none)
    (gL : PySem.W.nsIn K mainGlobals "LotError" = some (some (.ref c_L)))
    (gaL : PySem.W.specialIn K (.ref c_L) "__getattribute__" = some (some (.builtin "type.__getattribute__")))
    (rdL : PySem.W.readsIn K c_L (.type "type") = true)
    (vL : PySem.W.findCls K (.ref c_L) (.type "type") "__init__" = some (.val (.builtin "ValueError.__init__")))
    (iL : PySem.W.isClsIn K c_L = true)
    (tL : PySem.W.typeIn K (.ref c_L) = some (.type "type"))
    (hn : PySem.W.specialIn K (.builtin "object.__class__") "__get__" = some (some (.builtin "getset_descriptor.__get__")))
    (ht : PySem.W.takesIn K (.builtin "object.__class__") = some true)
    (gc_Empty : PySem.W.nsIn K mainGlobals "Empty" = some (some (.ref c_Empty)))
    (x1_Empty : PySem.W.findIn K (.ref c_Empty) "__getattribute__" = some (some (.builtin "BaseException.__getattribute__")))
    (x2_Empty : PySem.W.findIn K (.ref c_Empty) "__getattr__" = some none)
    (x3_Empty : PySem.W.subIn K (.ref c_Empty) (.type "BaseException") = some true)
    (x4_Empty : PySem.W.hasDictIn K c_Empty = true)
    (x5_Empty : PySem.W.findIn K (.ref c_Empty) "__class__" = some (some (.builtin "object.__class__")))
    (x6_Empty : PySem.W.mroIn K c_Empty (.type "object") = some true)
    (kc_Empty : PySem.W.keepIn K (.ref c_Empty) = true)
    (ty_Empty : PySem.W.typeIn K (.ref c_Empty) = some (.type "type"))
    (is_Empty : PySem.W.isClsIn K c_Empty = true)
    (xo_Empty : K.lookup c_Empty = some (excClassObj nm_Empty qn_Empty c_Empty N_Empty bs_Empty bm_Empty true sn_Empty sub_Empty ab_Empty col_Empty dd_Empty m0_Empty m1_Empty m2_Empty m3_Empty m5_Empty "ValueError.__new__"))
    (rv_Empty : PySem.HandSPX.refsVE bm_Empty = true)
    (sa_Empty : PySem.W.findIn K (.ref c_Empty) "__setattr__" = some (some (.builtin "object.__setattr__")))
    (ic_Empty : PySem.W.findIn K (.ref c_Empty) "__init__" = some (some (.ref i_Empty)))
    (ti_Empty : PySem.W.typeIn K (.ref i_Empty) = some (.type "function"))
    (li_Empty : K.lookup i_Empty = some ⟨oc_i_Empty, od_i_Empty, .func (PySem.W.fnOf "__init__" "Empty.__init__" (defArgs (inClass (topS 2) 0)) (defBody (inClass (topS 2) 0)) (defScope (inClass (topS 2) 0)) .none kV_i_Empty dc_i_Empty pm_i_Empty an_i_Empty cd_i_Empty ct_i_Empty), sl_i_Empty⟩)
    (ci_Empty : PySem.W.codeIn K cd_i_Empty "Empty.__init__" = true)
    (ki_Empty : PySem.W.keepIn K (.ref i_Empty) = true)
    (nf_Empty_block : PySem.W.findIn K (.ref c_Empty) "block" = some none)
    (nf_Empty_row : PySem.W.findIn K (.ref c_Empty) "row" = some none)
    (gc_Twin : PySem.W.nsIn K mainGlobals "Twin" = some (some (.ref c_Twin)))
    (x1_Twin : PySem.W.findIn K (.ref c_Twin) "__getattribute__" = some (some (.builtin "BaseException.__getattribute__")))
    (x2_Twin : PySem.W.findIn K (.ref c_Twin) "__getattr__" = some none)
    (x3_Twin : PySem.W.subIn K (.ref c_Twin) (.type "BaseException") = some true)
    (x4_Twin : PySem.W.hasDictIn K c_Twin = true)
    (x5_Twin : PySem.W.findIn K (.ref c_Twin) "__class__" = some (some (.builtin "object.__class__")))
    (x6_Twin : PySem.W.mroIn K c_Twin (.type "object") = some true)
    (kc_Twin : PySem.W.keepIn K (.ref c_Twin) = true)
    (ty_Twin : PySem.W.typeIn K (.ref c_Twin) = some (.type "type"))
    (is_Twin : PySem.W.isClsIn K c_Twin = true)
    (xo_Twin : K.lookup c_Twin = some (excClassObj nm_Twin qn_Twin c_Twin N_Twin bs_Twin bm_Twin true sn_Twin sub_Twin ab_Twin col_Twin dd_Twin m0_Twin m1_Twin m2_Twin m3_Twin m5_Twin "ValueError.__new__"))
    (rv_Twin : PySem.HandSPX.refsVE bm_Twin = true)
    (sa_Twin : PySem.W.findIn K (.ref c_Twin) "__setattr__" = some (some (.builtin "object.__setattr__")))
    (ic_Twin : PySem.W.findIn K (.ref c_Twin) "__init__" = some (some (.ref i_Twin)))
    (ti_Twin : PySem.W.typeIn K (.ref i_Twin) = some (.type "function"))
    (li_Twin : K.lookup i_Twin = some ⟨oc_i_Twin, od_i_Twin, .func (PySem.W.fnOf "__init__" "Twin.__init__" (defArgs (inClass (topS 3) 0)) (defBody (inClass (topS 3) 0)) (defScope (inClass (topS 3) 0)) .none kV_i_Twin dc_i_Twin pm_i_Twin an_i_Twin cd_i_Twin ct_i_Twin), sl_i_Twin⟩)
    (ci_Twin : PySem.W.codeIn K cd_i_Twin "Twin.__init__" = true)
    (ki_Twin : PySem.W.keepIn K (.ref i_Twin) = true)
    (nf_Twin_block : PySem.W.findIn K (.ref c_Twin) "block" = some none)
    (nf_Twin_row : PySem.W.findIn K (.ref c_Twin) "row" = some none)
    (gc_NoSet : PySem.W.nsIn K mainGlobals "NoSet" = some (some (.ref c_NoSet)))
    (x1_NoSet : PySem.W.findIn K (.ref c_NoSet) "__getattribute__" = some (some (.builtin "BaseException.__getattribute__")))
    (x2_NoSet : PySem.W.findIn K (.ref c_NoSet) "__getattr__" = some none)
    (x3_NoSet : PySem.W.subIn K (.ref c_NoSet) (.type "BaseException") = some true)
    (x4_NoSet : PySem.W.hasDictIn K c_NoSet = true)
    (x5_NoSet : PySem.W.findIn K (.ref c_NoSet) "__class__" = some (some (.builtin "object.__class__")))
    (x6_NoSet : PySem.W.mroIn K c_NoSet (.type "object") = some true)
    (kc_NoSet : PySem.W.keepIn K (.ref c_NoSet) = true)
    (ty_NoSet : PySem.W.typeIn K (.ref c_NoSet) = some (.type "type"))
    (is_NoSet : PySem.W.isClsIn K c_NoSet = true)
    (ex_NoSet : PySem.W.excIn K c_NoSet [.type "ValueError", .type "Exception", .type "BaseException", .type "object"] "ValueError.__new__" = true)
    (gc_NoNumber : PySem.W.nsIn K mainGlobals "NoNumber" = some (some (.ref c_NoNumber)))
    (x1_NoNumber : PySem.W.findIn K (.ref c_NoNumber) "__getattribute__" = some (some (.builtin "BaseException.__getattribute__")))
    (x2_NoNumber : PySem.W.findIn K (.ref c_NoNumber) "__getattr__" = some none)
    (x3_NoNumber : PySem.W.subIn K (.ref c_NoNumber) (.type "BaseException") = some true)
    (x4_NoNumber : PySem.W.hasDictIn K c_NoNumber = true)
    (x5_NoNumber : PySem.W.findIn K (.ref c_NoNumber) "__class__" = some (some (.builtin "object.__class__")))
    (x6_NoNumber : PySem.W.mroIn K c_NoNumber (.type "object") = some true)
    (kc_NoNumber : PySem.W.keepIn K (.ref c_NoNumber) = true)
    (ty_NoNumber : PySem.W.typeIn K (.ref c_NoNumber) = some (.type "type"))
    (is_NoNumber : PySem.W.isClsIn K c_NoNumber = true)
    (xo_NoNumber : K.lookup c_NoNumber = some (excClassObj nm_NoNumber qn_NoNumber c_NoNumber N_NoNumber bs_NoNumber bm_NoNumber true sn_NoNumber sub_NoNumber ab_NoNumber col_NoNumber dd_NoNumber m0_NoNumber m1_NoNumber m2_NoNumber m3_NoNumber m5_NoNumber "ValueError.__new__"))
    (rv_NoNumber : PySem.HandSPX.refsVE bm_NoNumber = true)
    (sa_NoNumber : PySem.W.findIn K (.ref c_NoNumber) "__setattr__" = some (some (.builtin "object.__setattr__")))
    (ic_NoNumber : PySem.W.findIn K (.ref c_NoNumber) "__init__" = some (some (.ref i_NoNumber)))
    (ti_NoNumber : PySem.W.typeIn K (.ref i_NoNumber) = some (.type "function"))
    (li_NoNumber : K.lookup i_NoNumber = some ⟨oc_i_NoNumber, od_i_NoNumber, .func (PySem.W.fnOf "__init__" "NoNumber.__init__" (defArgs (inClass (topS 5) 0)) (defBody (inClass (topS 5) 0)) (defScope (inClass (topS 5) 0)) .none kV_i_NoNumber dc_i_NoNumber pm_i_NoNumber an_i_NoNumber cd_i_NoNumber ct_i_NoNumber), sl_i_NoNumber⟩)
    (ci_NoNumber : PySem.W.codeIn K cd_i_NoNumber "NoNumber.__init__" = true)
    (ki_NoNumber : PySem.W.keepIn K (.ref i_NoNumber) = true)
    (nf_NoNumber_count : PySem.W.findIn K (.ref c_NoNumber) "count" = some none)
    (gc_NoCode : PySem.W.nsIn K mainGlobals "NoCode" = some (some (.ref c_NoCode)))
    (x1_NoCode : PySem.W.findIn K (.ref c_NoCode) "__getattribute__" = some (some (.builtin "BaseException.__getattribute__")))
    (x2_NoCode : PySem.W.findIn K (.ref c_NoCode) "__getattr__" = some none)
    (x3_NoCode : PySem.W.subIn K (.ref c_NoCode) (.type "BaseException") = some true)
    (x4_NoCode : PySem.W.hasDictIn K c_NoCode = true)
    (x5_NoCode : PySem.W.findIn K (.ref c_NoCode) "__class__" = some (some (.builtin "object.__class__")))
    (x6_NoCode : PySem.W.mroIn K c_NoCode (.type "object") = some true)
    (kc_NoCode : PySem.W.keepIn K (.ref c_NoCode) = true)
    (ty_NoCode : PySem.W.typeIn K (.ref c_NoCode) = some (.type "type"))
    (is_NoCode : PySem.W.isClsIn K c_NoCode = true)
    (ex_NoCode : PySem.W.excIn K c_NoCode [.type "ValueError", .type "Exception", .type "BaseException", .type "object"] "ValueError.__new__" = true)
    (gc_NoRoom : PySem.W.nsIn K mainGlobals "NoRoom" = some (some (.ref c_NoRoom)))
    (x1_NoRoom : PySem.W.findIn K (.ref c_NoRoom) "__getattribute__" = some (some (.builtin "BaseException.__getattribute__")))
    (x2_NoRoom : PySem.W.findIn K (.ref c_NoRoom) "__getattr__" = some none)
    (x3_NoRoom : PySem.W.subIn K (.ref c_NoRoom) (.type "BaseException") = some true)
    (x4_NoRoom : PySem.W.hasDictIn K c_NoRoom = true)
    (x5_NoRoom : PySem.W.findIn K (.ref c_NoRoom) "__class__" = some (some (.builtin "object.__class__")))
    (x6_NoRoom : PySem.W.mroIn K c_NoRoom (.type "object") = some true)
    (kc_NoRoom : PySem.W.keepIn K (.ref c_NoRoom) = true)
    (ty_NoRoom : PySem.W.typeIn K (.ref c_NoRoom) = some (.type "type"))
    (is_NoRoom : PySem.W.isClsIn K c_NoRoom = true)
    (xo_NoRoom : K.lookup c_NoRoom = some (excClassObj nm_NoRoom qn_NoRoom c_NoRoom N_NoRoom bs_NoRoom bm_NoRoom true sn_NoRoom sub_NoRoom ab_NoRoom col_NoRoom dd_NoRoom m0_NoRoom m1_NoRoom m2_NoRoom m3_NoRoom m5_NoRoom "ValueError.__new__"))
    (rv_NoRoom : PySem.HandSPX.refsVE bm_NoRoom = true)
    (sa_NoRoom : PySem.W.findIn K (.ref c_NoRoom) "__setattr__" = some (some (.builtin "object.__setattr__")))
    (ic_NoRoom : PySem.W.findIn K (.ref c_NoRoom) "__init__" = some (some (.ref i_NoRoom)))
    (ti_NoRoom : PySem.W.typeIn K (.ref i_NoRoom) = some (.type "function"))
    (li_NoRoom : K.lookup i_NoRoom = some ⟨oc_i_NoRoom, od_i_NoRoom, .func (PySem.W.fnOf "__init__" "NoRoom.__init__" (defArgs (inClass (topS 7) 0)) (defBody (inClass (topS 7) 0)) (defScope (inClass (topS 7) 0)) .none kV_i_NoRoom dc_i_NoRoom pm_i_NoRoom an_i_NoRoom cd_i_NoRoom ct_i_NoRoom), sl_i_NoRoom⟩)
    (ci_NoRoom : PySem.W.codeIn K cd_i_NoRoom "NoRoom.__init__" = true)
    (ki_NoRoom : PySem.W.keepIn K (.ref i_NoRoom) = true)
    (nf_NoRoom_room : PySem.W.findIn K (.ref c_NoRoom) "room" = some none)
    (gc_Standing : PySem.W.nsIn K mainGlobals "Standing" = some (some (.ref c_Standing)))
    (x1_Standing : PySem.W.findIn K (.ref c_Standing) "__getattribute__" = some (some (.builtin "BaseException.__getattribute__")))
    (x2_Standing : PySem.W.findIn K (.ref c_Standing) "__getattr__" = some none)
    (x3_Standing : PySem.W.subIn K (.ref c_Standing) (.type "BaseException") = some true)
    (x4_Standing : PySem.W.hasDictIn K c_Standing = true)
    (x5_Standing : PySem.W.findIn K (.ref c_Standing) "__class__" = some (some (.builtin "object.__class__")))
    (x6_Standing : PySem.W.mroIn K c_Standing (.type "object") = some true)
    (kc_Standing : PySem.W.keepIn K (.ref c_Standing) = true)
    (ty_Standing : PySem.W.typeIn K (.ref c_Standing) = some (.type "type"))
    (is_Standing : PySem.W.isClsIn K c_Standing = true)
    (xo_Standing : K.lookup c_Standing = some (excClassObj nm_Standing qn_Standing c_Standing N_Standing bs_Standing bm_Standing true sn_Standing sub_Standing ab_Standing col_Standing dd_Standing m0_Standing m1_Standing m2_Standing m3_Standing m5_Standing "ValueError.__new__"))
    (rv_Standing : PySem.HandSPX.refsVE bm_Standing = true)
    (sa_Standing : PySem.W.findIn K (.ref c_Standing) "__setattr__" = some (some (.builtin "object.__setattr__")))
    (ic_Standing : PySem.W.findIn K (.ref c_Standing) "__init__" = some (some (.ref i_Standing)))
    (ti_Standing : PySem.W.typeIn K (.ref i_Standing) = some (.type "function"))
    (li_Standing : K.lookup i_Standing = some ⟨oc_i_Standing, od_i_Standing, .func (PySem.W.fnOf "__init__" "Standing.__init__" (defArgs (inClass (topS 8) 0)) (defBody (inClass (topS 8) 0)) (defScope (inClass (topS 8) 0)) .none kV_i_Standing dc_i_Standing pm_i_Standing an_i_Standing cd_i_Standing ct_i_Standing), sl_i_Standing⟩)
    (ci_Standing : PySem.W.codeIn K cd_i_Standing "Standing.__init__" = true)
    (ki_Standing : PySem.W.keepIn K (.ref i_Standing) = true)
    (nf_Standing_name : PySem.W.findIn K (.ref c_Standing) "name" = some none)
    (gc_Full : PySem.W.nsIn K mainGlobals "Full" = some (some (.ref c_Full)))
    (x1_Full : PySem.W.findIn K (.ref c_Full) "__getattribute__" = some (some (.builtin "BaseException.__getattribute__")))
    (x2_Full : PySem.W.findIn K (.ref c_Full) "__getattr__" = some none)
    (x3_Full : PySem.W.subIn K (.ref c_Full) (.type "BaseException") = some true)
    (x4_Full : PySem.W.hasDictIn K c_Full = true)
    (x5_Full : PySem.W.findIn K (.ref c_Full) "__class__" = some (some (.builtin "object.__class__")))
    (x6_Full : PySem.W.mroIn K c_Full (.type "object") = some true)
    (kc_Full : PySem.W.keepIn K (.ref c_Full) = true)
    (ty_Full : PySem.W.typeIn K (.ref c_Full) = some (.type "type"))
    (is_Full : PySem.W.isClsIn K c_Full = true)
    (xo_Full : K.lookup c_Full = some (excClassObj nm_Full qn_Full c_Full N_Full bs_Full bm_Full true sn_Full sub_Full ab_Full col_Full dd_Full m0_Full m1_Full m2_Full m3_Full m5_Full "ValueError.__new__"))
    (rv_Full : PySem.HandSPX.refsVE bm_Full = true)
    (sa_Full : PySem.W.findIn K (.ref c_Full) "__setattr__" = some (some (.builtin "object.__setattr__")))
    (ic_Full : PySem.W.findIn K (.ref c_Full) "__init__" = some (some (.ref i_Full)))
    (ti_Full : PySem.W.typeIn K (.ref i_Full) = some (.type "function"))
    (li_Full : K.lookup i_Full = some ⟨oc_i_Full, od_i_Full, .func (PySem.W.fnOf "__init__" "Full.__init__" (defArgs (inClass (topS 9) 0)) (defBody (inClass (topS 9) 0)) (defScope (inClass (topS 9) 0)) .none kV_i_Full dc_i_Full pm_i_Full an_i_Full cd_i_Full ct_i_Full), sl_i_Full⟩)
    (ci_Full : PySem.W.codeIn K cd_i_Full "Full.__init__" = true)
    (ki_Full : PySem.W.keepIn K (.ref i_Full) = true)
    (nf_Full_most : PySem.W.findIn K (.ref c_Full) "most" = some none)
    (gc_NoName : PySem.W.nsIn K mainGlobals "NoName" = some (some (.ref c_NoName)))
    (x1_NoName : PySem.W.findIn K (.ref c_NoName) "__getattribute__" = some (some (.builtin "BaseException.__getattribute__")))
    (x2_NoName : PySem.W.findIn K (.ref c_NoName) "__getattr__" = some none)
    (x3_NoName : PySem.W.subIn K (.ref c_NoName) (.type "BaseException") = some true)
    (x4_NoName : PySem.W.hasDictIn K c_NoName = true)
    (x5_NoName : PySem.W.findIn K (.ref c_NoName) "__class__" = some (some (.builtin "object.__class__")))
    (x6_NoName : PySem.W.mroIn K c_NoName (.type "object") = some true)
    (kc_NoName : PySem.W.keepIn K (.ref c_NoName) = true)
    (ty_NoName : PySem.W.typeIn K (.ref c_NoName) = some (.type "type"))
    (is_NoName : PySem.W.isClsIn K c_NoName = true)
    (xo_NoName : K.lookup c_NoName = some (excClassObj nm_NoName qn_NoName c_NoName N_NoName bs_NoName bm_NoName true sn_NoName sub_NoName ab_NoName col_NoName dd_NoName m0_NoName m1_NoName m2_NoName m3_NoName m5_NoName "ValueError.__new__"))
    (rv_NoName : PySem.HandSPX.refsVE bm_NoName = true)
    (sa_NoName : PySem.W.findIn K (.ref c_NoName) "__setattr__" = some (some (.builtin "object.__setattr__")))
    (ic_NoName : PySem.W.findIn K (.ref c_NoName) "__init__" = some (some (.ref i_NoName)))
    (ti_NoName : PySem.W.typeIn K (.ref i_NoName) = some (.type "function"))
    (li_NoName : K.lookup i_NoName = some ⟨oc_i_NoName, od_i_NoName, .func (PySem.W.fnOf "__init__" "NoName.__init__" (defArgs (inClass (topS 10) 0)) (defBody (inClass (topS 10) 0)) (defScope (inClass (topS 10) 0)) .none kV_i_NoName dc_i_NoName pm_i_NoName an_i_NoName cd_i_NoName ct_i_NoName), sl_i_NoName⟩)
    (ci_NoName : PySem.W.codeIn K cd_i_NoName "NoName.__init__" = true)
    (ki_NoName : PySem.W.keepIn K (.ref i_NoName) = true)
    (nf_NoName_name : PySem.W.findIn K (.ref c_NoName) "name" = some none)
    (gc_NoHolder : PySem.W.nsIn K mainGlobals "NoHolder" = some (some (.ref c_NoHolder)))
    (x1_NoHolder : PySem.W.findIn K (.ref c_NoHolder) "__getattribute__" = some (some (.builtin "BaseException.__getattribute__")))
    (x2_NoHolder : PySem.W.findIn K (.ref c_NoHolder) "__getattr__" = some none)
    (x3_NoHolder : PySem.W.subIn K (.ref c_NoHolder) (.type "BaseException") = some true)
    (x4_NoHolder : PySem.W.hasDictIn K c_NoHolder = true)
    (x5_NoHolder : PySem.W.findIn K (.ref c_NoHolder) "__class__" = some (some (.builtin "object.__class__")))
    (x6_NoHolder : PySem.W.mroIn K c_NoHolder (.type "object") = some true)
    (kc_NoHolder : PySem.W.keepIn K (.ref c_NoHolder) = true)
    (ty_NoHolder : PySem.W.typeIn K (.ref c_NoHolder) = some (.type "type"))
    (is_NoHolder : PySem.W.isClsIn K c_NoHolder = true)
    (xo_NoHolder : K.lookup c_NoHolder = some (excClassObj nm_NoHolder qn_NoHolder c_NoHolder N_NoHolder bs_NoHolder bm_NoHolder true sn_NoHolder sub_NoHolder ab_NoHolder col_NoHolder dd_NoHolder m0_NoHolder m1_NoHolder m2_NoHolder m3_NoHolder m5_NoHolder "ValueError.__new__"))
    (rv_NoHolder : PySem.HandSPX.refsVE bm_NoHolder = true)
    (sa_NoHolder : PySem.W.findIn K (.ref c_NoHolder) "__setattr__" = some (some (.builtin "object.__setattr__")))
    (ic_NoHolder : PySem.W.findIn K (.ref c_NoHolder) "__init__" = some (some (.ref i_NoHolder)))
    (ti_NoHolder : PySem.W.typeIn K (.ref i_NoHolder) = some (.type "function"))
    (li_NoHolder : K.lookup i_NoHolder = some ⟨oc_i_NoHolder, od_i_NoHolder, .func (PySem.W.fnOf "__init__" "NoHolder.__init__" (defArgs (inClass (topS 11) 0)) (defBody (inClass (topS 11) 0)) (defScope (inClass (topS 11) 0)) .none kV_i_NoHolder dc_i_NoHolder pm_i_NoHolder an_i_NoHolder cd_i_NoHolder ct_i_NoHolder), sl_i_NoHolder⟩)
    (ci_NoHolder : PySem.W.codeIn K cd_i_NoHolder "NoHolder.__init__" = true)
    (ki_NoHolder : PySem.W.keepIn K (.ref i_NoHolder) = true)
    (nf_NoHolder_holder : PySem.W.findIn K (.ref c_NoHolder) "holder" = some none)
    (gc_NoBlock : PySem.W.nsIn K mainGlobals "NoBlock" = some (some (.ref c_NoBlock)))
    (x1_NoBlock : PySem.W.findIn K (.ref c_NoBlock) "__getattribute__" = some (some (.builtin "BaseException.__getattribute__")))
    (x2_NoBlock : PySem.W.findIn K (.ref c_NoBlock) "__getattr__" = some none)
    (x3_NoBlock : PySem.W.subIn K (.ref c_NoBlock) (.type "BaseException") = some true)
    (x4_NoBlock : PySem.W.hasDictIn K c_NoBlock = true)
    (x5_NoBlock : PySem.W.findIn K (.ref c_NoBlock) "__class__" = some (some (.builtin "object.__class__")))
    (x6_NoBlock : PySem.W.mroIn K c_NoBlock (.type "object") = some true)
    (kc_NoBlock : PySem.W.keepIn K (.ref c_NoBlock) = true)
    (ty_NoBlock : PySem.W.typeIn K (.ref c_NoBlock) = some (.type "type"))
    (is_NoBlock : PySem.W.isClsIn K c_NoBlock = true)
    (ex_NoBlock : PySem.W.excIn K c_NoBlock [.type "ValueError", .type "Exception", .type "BaseException", .type "object"] "ValueError.__new__" = true)
    (gc_NoText : PySem.W.nsIn K mainGlobals "NoText" = some (some (.ref c_NoText)))
    (x1_NoText : PySem.W.findIn K (.ref c_NoText) "__getattribute__" = some (some (.builtin "BaseException.__getattribute__")))
    (x2_NoText : PySem.W.findIn K (.ref c_NoText) "__getattr__" = some none)
    (x3_NoText : PySem.W.subIn K (.ref c_NoText) (.type "BaseException") = some true)
    (x4_NoText : PySem.W.hasDictIn K c_NoText = true)
    (x5_NoText : PySem.W.findIn K (.ref c_NoText) "__class__" = some (some (.builtin "object.__class__")))
    (x6_NoText : PySem.W.mroIn K c_NoText (.type "object") = some true)
    (kc_NoText : PySem.W.keepIn K (.ref c_NoText) = true)
    (ty_NoText : PySem.W.typeIn K (.ref c_NoText) = some (.type "type"))
    (is_NoText : PySem.W.isClsIn K c_NoText = true)
    (ex_NoText : PySem.W.excIn K c_NoText [.type "ValueError", .type "Exception", .type "BaseException", .type "object"] "ValueError.__new__" = true)
    (sb_0_0 : PySem.W.subIn K (.ref c_Empty) (.ref c_Empty) = some true)
    (sb_0_1 : PySem.W.subIn K (.ref c_Empty) (.ref c_Twin) = some false)
    (sb_0_2 : PySem.W.subIn K (.ref c_Empty) (.ref c_NoSet) = some false)
    (sb_0_3 : PySem.W.subIn K (.ref c_Empty) (.ref c_NoNumber) = some false)
    (sb_0_4 : PySem.W.subIn K (.ref c_Empty) (.ref c_NoCode) = some false)
    (sb_0_5 : PySem.W.subIn K (.ref c_Empty) (.ref c_NoRoom) = some false)
    (sb_0_6 : PySem.W.subIn K (.ref c_Empty) (.ref c_Standing) = some false)
    (sb_0_7 : PySem.W.subIn K (.ref c_Empty) (.ref c_Full) = some false)
    (sb_0_8 : PySem.W.subIn K (.ref c_Empty) (.ref c_NoName) = some false)
    (sb_0_9 : PySem.W.subIn K (.ref c_Empty) (.ref c_NoHolder) = some false)
    (sb_0_10 : PySem.W.subIn K (.ref c_Empty) (.ref c_NoBlock) = some false)
    (sb_0_11 : PySem.W.subIn K (.ref c_Empty) (.ref c_NoText) = some false)
    (sb_0_L : PySem.W.subIn K (.ref c_Empty) (.ref c_L) = some true)
    (sb_0_V : PySem.W.subIn K (.ref c_Empty) (.type "ValueError") = some true)
    (sb_1_0 : PySem.W.subIn K (.ref c_Twin) (.ref c_Empty) = some false)
    (sb_1_1 : PySem.W.subIn K (.ref c_Twin) (.ref c_Twin) = some true)
    (sb_1_2 : PySem.W.subIn K (.ref c_Twin) (.ref c_NoSet) = some false)
    (sb_1_3 : PySem.W.subIn K (.ref c_Twin) (.ref c_NoNumber) = some false)
    (sb_1_4 : PySem.W.subIn K (.ref c_Twin) (.ref c_NoCode) = some false)
    (sb_1_5 : PySem.W.subIn K (.ref c_Twin) (.ref c_NoRoom) = some false)
    (sb_1_6 : PySem.W.subIn K (.ref c_Twin) (.ref c_Standing) = some false)
    (sb_1_7 : PySem.W.subIn K (.ref c_Twin) (.ref c_Full) = some false)
    (sb_1_8 : PySem.W.subIn K (.ref c_Twin) (.ref c_NoName) = some false)
    (sb_1_9 : PySem.W.subIn K (.ref c_Twin) (.ref c_NoHolder) = some false)
    (sb_1_10 : PySem.W.subIn K (.ref c_Twin) (.ref c_NoBlock) = some false)
    (sb_1_11 : PySem.W.subIn K (.ref c_Twin) (.ref c_NoText) = some false)
    (sb_1_L : PySem.W.subIn K (.ref c_Twin) (.ref c_L) = some true)
    (sb_1_V : PySem.W.subIn K (.ref c_Twin) (.type "ValueError") = some true)
    (sb_2_0 : PySem.W.subIn K (.ref c_NoSet) (.ref c_Empty) = some false)
    (sb_2_1 : PySem.W.subIn K (.ref c_NoSet) (.ref c_Twin) = some false)
    (sb_2_2 : PySem.W.subIn K (.ref c_NoSet) (.ref c_NoSet) = some true)
    (sb_2_3 : PySem.W.subIn K (.ref c_NoSet) (.ref c_NoNumber) = some false)
    (sb_2_4 : PySem.W.subIn K (.ref c_NoSet) (.ref c_NoCode) = some false)
    (sb_2_5 : PySem.W.subIn K (.ref c_NoSet) (.ref c_NoRoom) = some false)
    (sb_2_6 : PySem.W.subIn K (.ref c_NoSet) (.ref c_Standing) = some false)
    (sb_2_7 : PySem.W.subIn K (.ref c_NoSet) (.ref c_Full) = some false)
    (sb_2_8 : PySem.W.subIn K (.ref c_NoSet) (.ref c_NoName) = some false)
    (sb_2_9 : PySem.W.subIn K (.ref c_NoSet) (.ref c_NoHolder) = some false)
    (sb_2_10 : PySem.W.subIn K (.ref c_NoSet) (.ref c_NoBlock) = some false)
    (sb_2_11 : PySem.W.subIn K (.ref c_NoSet) (.ref c_NoText) = some false)
    (sb_2_L : PySem.W.subIn K (.ref c_NoSet) (.ref c_L) = some true)
    (sb_2_V : PySem.W.subIn K (.ref c_NoSet) (.type "ValueError") = some true)
    (sb_3_0 : PySem.W.subIn K (.ref c_NoNumber) (.ref c_Empty) = some false)
    (sb_3_1 : PySem.W.subIn K (.ref c_NoNumber) (.ref c_Twin) = some false)
    (sb_3_2 : PySem.W.subIn K (.ref c_NoNumber) (.ref c_NoSet) = some false)
    (sb_3_3 : PySem.W.subIn K (.ref c_NoNumber) (.ref c_NoNumber) = some true)
    (sb_3_4 : PySem.W.subIn K (.ref c_NoNumber) (.ref c_NoCode) = some false)
    (sb_3_5 : PySem.W.subIn K (.ref c_NoNumber) (.ref c_NoRoom) = some false)
    (sb_3_6 : PySem.W.subIn K (.ref c_NoNumber) (.ref c_Standing) = some false)
    (sb_3_7 : PySem.W.subIn K (.ref c_NoNumber) (.ref c_Full) = some false)
    (sb_3_8 : PySem.W.subIn K (.ref c_NoNumber) (.ref c_NoName) = some false)
    (sb_3_9 : PySem.W.subIn K (.ref c_NoNumber) (.ref c_NoHolder) = some false)
    (sb_3_10 : PySem.W.subIn K (.ref c_NoNumber) (.ref c_NoBlock) = some false)
    (sb_3_11 : PySem.W.subIn K (.ref c_NoNumber) (.ref c_NoText) = some false)
    (sb_3_L : PySem.W.subIn K (.ref c_NoNumber) (.ref c_L) = some true)
    (sb_3_V : PySem.W.subIn K (.ref c_NoNumber) (.type "ValueError") = some true)
    (sb_4_0 : PySem.W.subIn K (.ref c_NoCode) (.ref c_Empty) = some false)
    (sb_4_1 : PySem.W.subIn K (.ref c_NoCode) (.ref c_Twin) = some false)
    (sb_4_2 : PySem.W.subIn K (.ref c_NoCode) (.ref c_NoSet) = some false)
    (sb_4_3 : PySem.W.subIn K (.ref c_NoCode) (.ref c_NoNumber) = some false)
    (sb_4_4 : PySem.W.subIn K (.ref c_NoCode) (.ref c_NoCode) = some true)
    (sb_4_5 : PySem.W.subIn K (.ref c_NoCode) (.ref c_NoRoom) = some false)
    (sb_4_6 : PySem.W.subIn K (.ref c_NoCode) (.ref c_Standing) = some false)
    (sb_4_7 : PySem.W.subIn K (.ref c_NoCode) (.ref c_Full) = some false)
    (sb_4_8 : PySem.W.subIn K (.ref c_NoCode) (.ref c_NoName) = some false)
    (sb_4_9 : PySem.W.subIn K (.ref c_NoCode) (.ref c_NoHolder) = some false)
    (sb_4_10 : PySem.W.subIn K (.ref c_NoCode) (.ref c_NoBlock) = some false)
    (sb_4_11 : PySem.W.subIn K (.ref c_NoCode) (.ref c_NoText) = some false)
    (sb_4_L : PySem.W.subIn K (.ref c_NoCode) (.ref c_L) = some true)
    (sb_4_V : PySem.W.subIn K (.ref c_NoCode) (.type "ValueError") = some true)
    (sb_5_0 : PySem.W.subIn K (.ref c_NoRoom) (.ref c_Empty) = some false)
    (sb_5_1 : PySem.W.subIn K (.ref c_NoRoom) (.ref c_Twin) = some false)
    (sb_5_2 : PySem.W.subIn K (.ref c_NoRoom) (.ref c_NoSet) = some false)
    (sb_5_3 : PySem.W.subIn K (.ref c_NoRoom) (.ref c_NoNumber) = some false)
    (sb_5_4 : PySem.W.subIn K (.ref c_NoRoom) (.ref c_NoCode) = some false)
    (sb_5_5 : PySem.W.subIn K (.ref c_NoRoom) (.ref c_NoRoom) = some true)
    (sb_5_6 : PySem.W.subIn K (.ref c_NoRoom) (.ref c_Standing) = some false)
    (sb_5_7 : PySem.W.subIn K (.ref c_NoRoom) (.ref c_Full) = some false)
    (sb_5_8 : PySem.W.subIn K (.ref c_NoRoom) (.ref c_NoName) = some false)
    (sb_5_9 : PySem.W.subIn K (.ref c_NoRoom) (.ref c_NoHolder) = some false)
    (sb_5_10 : PySem.W.subIn K (.ref c_NoRoom) (.ref c_NoBlock) = some false)
    (sb_5_11 : PySem.W.subIn K (.ref c_NoRoom) (.ref c_NoText) = some false)
    (sb_5_L : PySem.W.subIn K (.ref c_NoRoom) (.ref c_L) = some true)
    (sb_5_V : PySem.W.subIn K (.ref c_NoRoom) (.type "ValueError") = some true)
    (sb_6_0 : PySem.W.subIn K (.ref c_Standing) (.ref c_Empty) = some false)
    (sb_6_1 : PySem.W.subIn K (.ref c_Standing) (.ref c_Twin) = some false)
    (sb_6_2 : PySem.W.subIn K (.ref c_Standing) (.ref c_NoSet) = some false)
    (sb_6_3 : PySem.W.subIn K (.ref c_Standing) (.ref c_NoNumber) = some false)
    (sb_6_4 : PySem.W.subIn K (.ref c_Standing) (.ref c_NoCode) = some false)
    (sb_6_5 : PySem.W.subIn K (.ref c_Standing) (.ref c_NoRoom) = some false)
    (sb_6_6 : PySem.W.subIn K (.ref c_Standing) (.ref c_Standing) = some true)
    (sb_6_7 : PySem.W.subIn K (.ref c_Standing) (.ref c_Full) = some false)
    (sb_6_8 : PySem.W.subIn K (.ref c_Standing) (.ref c_NoName) = some false)
    (sb_6_9 : PySem.W.subIn K (.ref c_Standing) (.ref c_NoHolder) = some false)
    (sb_6_10 : PySem.W.subIn K (.ref c_Standing) (.ref c_NoBlock) = some false)
    (sb_6_11 : PySem.W.subIn K (.ref c_Standing) (.ref c_NoText) = some false)
    (sb_6_L : PySem.W.subIn K (.ref c_Standing) (.ref c_L) = some true)
    (sb_6_V : PySem.W.subIn K (.ref c_Standing) (.type "ValueError") = some true)
    (sb_7_0 : PySem.W.subIn K (.ref c_Full) (.ref c_Empty) = some false)
    (sb_7_1 : PySem.W.subIn K (.ref c_Full) (.ref c_Twin) = some false)
    (sb_7_2 : PySem.W.subIn K (.ref c_Full) (.ref c_NoSet) = some false)
    (sb_7_3 : PySem.W.subIn K (.ref c_Full) (.ref c_NoNumber) = some false)
    (sb_7_4 : PySem.W.subIn K (.ref c_Full) (.ref c_NoCode) = some false)
    (sb_7_5 : PySem.W.subIn K (.ref c_Full) (.ref c_NoRoom) = some false)
    (sb_7_6 : PySem.W.subIn K (.ref c_Full) (.ref c_Standing) = some false)
    (sb_7_7 : PySem.W.subIn K (.ref c_Full) (.ref c_Full) = some true)
    (sb_7_8 : PySem.W.subIn K (.ref c_Full) (.ref c_NoName) = some false)
    (sb_7_9 : PySem.W.subIn K (.ref c_Full) (.ref c_NoHolder) = some false)
    (sb_7_10 : PySem.W.subIn K (.ref c_Full) (.ref c_NoBlock) = some false)
    (sb_7_11 : PySem.W.subIn K (.ref c_Full) (.ref c_NoText) = some false)
    (sb_7_L : PySem.W.subIn K (.ref c_Full) (.ref c_L) = some true)
    (sb_7_V : PySem.W.subIn K (.ref c_Full) (.type "ValueError") = some true)
    (sb_8_0 : PySem.W.subIn K (.ref c_NoName) (.ref c_Empty) = some false)
    (sb_8_1 : PySem.W.subIn K (.ref c_NoName) (.ref c_Twin) = some false)
    (sb_8_2 : PySem.W.subIn K (.ref c_NoName) (.ref c_NoSet) = some false)
    (sb_8_3 : PySem.W.subIn K (.ref c_NoName) (.ref c_NoNumber) = some false)
    (sb_8_4 : PySem.W.subIn K (.ref c_NoName) (.ref c_NoCode) = some false)
    (sb_8_5 : PySem.W.subIn K (.ref c_NoName) (.ref c_NoRoom) = some false)
    (sb_8_6 : PySem.W.subIn K (.ref c_NoName) (.ref c_Standing) = some false)
    (sb_8_7 : PySem.W.subIn K (.ref c_NoName) (.ref c_Full) = some false)
    (sb_8_8 : PySem.W.subIn K (.ref c_NoName) (.ref c_NoName) = some true)
    (sb_8_9 : PySem.W.subIn K (.ref c_NoName) (.ref c_NoHolder) = some false)
    (sb_8_10 : PySem.W.subIn K (.ref c_NoName) (.ref c_NoBlock) = some false)
    (sb_8_11 : PySem.W.subIn K (.ref c_NoName) (.ref c_NoText) = some false)
    (sb_8_L : PySem.W.subIn K (.ref c_NoName) (.ref c_L) = some true)
    (sb_8_V : PySem.W.subIn K (.ref c_NoName) (.type "ValueError") = some true)
    (sb_9_0 : PySem.W.subIn K (.ref c_NoHolder) (.ref c_Empty) = some false)
    (sb_9_1 : PySem.W.subIn K (.ref c_NoHolder) (.ref c_Twin) = some false)
    (sb_9_2 : PySem.W.subIn K (.ref c_NoHolder) (.ref c_NoSet) = some false)
    (sb_9_3 : PySem.W.subIn K (.ref c_NoHolder) (.ref c_NoNumber) = some false)
    (sb_9_4 : PySem.W.subIn K (.ref c_NoHolder) (.ref c_NoCode) = some false)
    (sb_9_5 : PySem.W.subIn K (.ref c_NoHolder) (.ref c_NoRoom) = some false)
    (sb_9_6 : PySem.W.subIn K (.ref c_NoHolder) (.ref c_Standing) = some false)
    (sb_9_7 : PySem.W.subIn K (.ref c_NoHolder) (.ref c_Full) = some false)
    (sb_9_8 : PySem.W.subIn K (.ref c_NoHolder) (.ref c_NoName) = some false)
    (sb_9_9 : PySem.W.subIn K (.ref c_NoHolder) (.ref c_NoHolder) = some true)
    (sb_9_10 : PySem.W.subIn K (.ref c_NoHolder) (.ref c_NoBlock) = some false)
    (sb_9_11 : PySem.W.subIn K (.ref c_NoHolder) (.ref c_NoText) = some false)
    (sb_9_L : PySem.W.subIn K (.ref c_NoHolder) (.ref c_L) = some true)
    (sb_9_V : PySem.W.subIn K (.ref c_NoHolder) (.type "ValueError") = some true)
    (sb_10_0 : PySem.W.subIn K (.ref c_NoBlock) (.ref c_Empty) = some false)
    (sb_10_1 : PySem.W.subIn K (.ref c_NoBlock) (.ref c_Twin) = some false)
    (sb_10_2 : PySem.W.subIn K (.ref c_NoBlock) (.ref c_NoSet) = some false)
    (sb_10_3 : PySem.W.subIn K (.ref c_NoBlock) (.ref c_NoNumber) = some false)
    (sb_10_4 : PySem.W.subIn K (.ref c_NoBlock) (.ref c_NoCode) = some false)
    (sb_10_5 : PySem.W.subIn K (.ref c_NoBlock) (.ref c_NoRoom) = some false)
    (sb_10_6 : PySem.W.subIn K (.ref c_NoBlock) (.ref c_Standing) = some false)
    (sb_10_7 : PySem.W.subIn K (.ref c_NoBlock) (.ref c_Full) = some false)
    (sb_10_8 : PySem.W.subIn K (.ref c_NoBlock) (.ref c_NoName) = some false)
    (sb_10_9 : PySem.W.subIn K (.ref c_NoBlock) (.ref c_NoHolder) = some false)
    (sb_10_10 : PySem.W.subIn K (.ref c_NoBlock) (.ref c_NoBlock) = some true)
    (sb_10_11 : PySem.W.subIn K (.ref c_NoBlock) (.ref c_NoText) = some false)
    (sb_10_L : PySem.W.subIn K (.ref c_NoBlock) (.ref c_L) = some true)
    (sb_10_V : PySem.W.subIn K (.ref c_NoBlock) (.type "ValueError") = some true)
    (sb_11_0 : PySem.W.subIn K (.ref c_NoText) (.ref c_Empty) = some false)
    (sb_11_1 : PySem.W.subIn K (.ref c_NoText) (.ref c_Twin) = some false)
    (sb_11_2 : PySem.W.subIn K (.ref c_NoText) (.ref c_NoSet) = some false)
    (sb_11_3 : PySem.W.subIn K (.ref c_NoText) (.ref c_NoNumber) = some false)
    (sb_11_4 : PySem.W.subIn K (.ref c_NoText) (.ref c_NoCode) = some false)
    (sb_11_5 : PySem.W.subIn K (.ref c_NoText) (.ref c_NoRoom) = some false)
    (sb_11_6 : PySem.W.subIn K (.ref c_NoText) (.ref c_Standing) = some false)
    (sb_11_7 : PySem.W.subIn K (.ref c_NoText) (.ref c_Full) = some false)
    (sb_11_8 : PySem.W.subIn K (.ref c_NoText) (.ref c_NoName) = some false)
    (sb_11_9 : PySem.W.subIn K (.ref c_NoText) (.ref c_NoHolder) = some false)
    (sb_11_10 : PySem.W.subIn K (.ref c_NoText) (.ref c_NoBlock) = some false)
    (sb_11_11 : PySem.W.subIn K (.ref c_NoText) (.ref c_NoText) = some true)
    (sb_11_L : PySem.W.subIn K (.ref c_NoText) (.ref c_L) = some true)
    (sb_11_V : PySem.W.subIn K (.ref c_NoText) (.type "ValueError") = some true)
    : ∃ Y : Ad, Txt K mg Y ∧ Y.f_p_law = fa ∧ ∀ (s : Shared) (u : Value), BindsTo s Y.d_p_law ⟨[u], []⟩ [("script", u)] := by
  have e : f_p_law = fa := by have e := hfa.symm.trans (PySem.W.mg_of KX G a_p_law); cases e; rfl
  subst e
  refine ⟨{ f_l_open := f_l_open, d_l_open := PySem.W.fnOf "_law_open" "_law_open" (defArgs s_l_open) (defBody s_l_open) (defScope s_l_open) .none kV_l_open dc_l_open pm_l_open an_l_open cd_l_open ct_l_open, f_l_spread := f_l_spread, d_l_spread := PySem.W.fnOf "_law_spread" "_law_spread" (defArgs s_l_spread) (defBody s_l_spread) (defScope s_l_spread) .none kV_l_spread dc_l_spread pm_l_spread an_l_spread cd_l_spread ct_l_spread, f_l_take := f_l_take, d_l_take := PySem.W.fnOf "_law_take" "_law_take" (defArgs s_l_take) (defBody s_l_take) (defScope s_l_take) .none kV_l_take dc_l_take pm_l_take an_l_take cd_l_take ct_l_take, f_l_same := f_l_same, d_l_same := PySem.W.fnOf "_law_same" "_law_same" (defArgs s_l_same) (defBody s_l_same) (defScope s_l_same) .none kV_l_same dc_l_same pm_l_same an_l_same cd_l_same ct_l_same, f_l_kinds := f_l_kinds, d_l_kinds := PySem.W.fnOf "_law_kinds" "_law_kinds" (defArgs s_l_kinds) (defBody s_l_kinds) (defScope s_l_kinds) .none kV_l_kinds dc_l_kinds pm_l_kinds an_l_kinds cd_l_kinds ct_l_kinds, f_p_law := f_p_law, d_p_law := PySem.W.fnOf "law" "law" (defArgs s_p_law) (defBody s_p_law) (defScope s_p_law) .none kV_p_law dc_p_law pm_p_law an_p_law cd_p_law ct_p_law, c_Empty := c_Empty, i_Empty := i_Empty, di_Empty := PySem.W.fnOf "__init__" "Empty.__init__" (defArgs (inClass (topS 2) 0)) (defBody (inClass (topS 2) 0)) (defScope (inClass (topS 2) 0)) .none kV_i_Empty dc_i_Empty pm_i_Empty an_i_Empty cd_i_Empty ct_i_Empty, c_Twin := c_Twin, i_Twin := i_Twin, di_Twin := PySem.W.fnOf "__init__" "Twin.__init__" (defArgs (inClass (topS 3) 0)) (defBody (inClass (topS 3) 0)) (defScope (inClass (topS 3) 0)) .none kV_i_Twin dc_i_Twin pm_i_Twin an_i_Twin cd_i_Twin ct_i_Twin, c_NoSet := c_NoSet, c_NoNumber := c_NoNumber, i_NoNumber := i_NoNumber, di_NoNumber := PySem.W.fnOf "__init__" "NoNumber.__init__" (defArgs (inClass (topS 5) 0)) (defBody (inClass (topS 5) 0)) (defScope (inClass (topS 5) 0)) .none kV_i_NoNumber dc_i_NoNumber pm_i_NoNumber an_i_NoNumber cd_i_NoNumber ct_i_NoNumber, c_NoCode := c_NoCode, c_NoRoom := c_NoRoom, i_NoRoom := i_NoRoom, di_NoRoom := PySem.W.fnOf "__init__" "NoRoom.__init__" (defArgs (inClass (topS 7) 0)) (defBody (inClass (topS 7) 0)) (defScope (inClass (topS 7) 0)) .none kV_i_NoRoom dc_i_NoRoom pm_i_NoRoom an_i_NoRoom cd_i_NoRoom ct_i_NoRoom, c_Standing := c_Standing, i_Standing := i_Standing, di_Standing := PySem.W.fnOf "__init__" "Standing.__init__" (defArgs (inClass (topS 8) 0)) (defBody (inClass (topS 8) 0)) (defScope (inClass (topS 8) 0)) .none kV_i_Standing dc_i_Standing pm_i_Standing an_i_Standing cd_i_Standing ct_i_Standing, c_Full := c_Full, i_Full := i_Full, di_Full := PySem.W.fnOf "__init__" "Full.__init__" (defArgs (inClass (topS 9) 0)) (defBody (inClass (topS 9) 0)) (defScope (inClass (topS 9) 0)) .none kV_i_Full dc_i_Full pm_i_Full an_i_Full cd_i_Full ct_i_Full, c_NoName := c_NoName, i_NoName := i_NoName, di_NoName := PySem.W.fnOf "__init__" "NoName.__init__" (defArgs (inClass (topS 10) 0)) (defBody (inClass (topS 10) 0)) (defScope (inClass (topS 10) 0)) .none kV_i_NoName dc_i_NoName pm_i_NoName an_i_NoName cd_i_NoName ct_i_NoName, c_NoHolder := c_NoHolder, i_NoHolder := i_NoHolder, di_NoHolder := PySem.W.fnOf "__init__" "NoHolder.__init__" (defArgs (inClass (topS 11) 0)) (defBody (inClass (topS 11) 0)) (defScope (inClass (topS 11) 0)) .none kV_i_NoHolder dc_i_NoHolder pm_i_NoHolder an_i_NoHolder cd_i_NoHolder ct_i_NoHolder, c_NoBlock := c_NoBlock, c_NoText := c_NoText, c_L := c_L, none := () }, ?_, rfl, fun s u => .of_eq rfl⟩
  exact {
    g_l_open := PySem.W.mg_of KX G a_l_open
    F_l_open := fun_mk (st := s_l_open) l_l_open c_l_open k_l_open
    k_l_open := k_l_open
    b_l_open := (fun_mk (st := s_l_open) l_l_open c_l_open k_l_open).binds (ps := ["script"]) (fun _ _ _ _ _ _ us hl => match us, hl with | [_], _ => rfl)
    g_l_spread := PySem.W.mg_of KX G a_l_spread
    F_l_spread := fun_mk (st := s_l_spread) l_l_spread c_l_spread k_l_spread
    k_l_spread := k_l_spread
    b_l_spread := (fun_mk (st := s_l_spread) l_l_spread c_l_spread k_l_spread).binds (ps := ["cell", "at"]) (fun _ _ _ _ _ _ us hl => match us, hl with | [_, _], _ => rfl)
    g_l_take := PySem.W.mg_of KX G a_l_take
    F_l_take := fun_mk (st := s_l_take) l_l_take c_l_take k_l_take
    k_l_take := k_l_take
    b_l_take := (fun_mk (st := s_l_take) l_l_take c_l_take k_l_take).binds (ps := ["pen", "amount"]) (fun _ _ _ _ _ _ us hl => match us, hl with | [_, _], _ => rfl)
    g_l_same := PySem.W.mg_of KX G a_l_same
    F_l_same := fun_mk (st := s_l_same) l_l_same c_l_same k_l_same
    k_l_same := k_l_same
    b_l_same := (fun_mk (st := s_l_same) l_l_same c_l_same k_l_same).binds (ps := ["found", "due"]) (fun _ _ _ _ _ _ us hl => match us, hl with | [_, _], _ => rfl)
    g_l_kinds := PySem.W.mg_of KX G a_l_kinds
    F_l_kinds := fun_mk (st := s_l_kinds) l_l_kinds c_l_kinds k_l_kinds
    k_l_kinds := k_l_kinds
    b_l_kinds := (fun_mk (st := s_l_kinds) l_l_kinds c_l_kinds k_l_kinds).binds (ps := ["one"]) (fun _ _ _ _ _ _ us hl => match us, hl with | [_], _ => rfl)
    g_p_law := PySem.W.mg_of KX G a_p_law
    F_p_law := fun_mk (st := s_p_law) l_p_law c_p_law k_p_law
    k_p_law := k_p_law
    b_p_law := (fun_mk (st := s_p_law) l_p_law c_p_law k_p_law).binds (ps := ["script"]) (fun _ _ _ _ _ _ us hl => match us, hl with | [_], _ => rfl)
    n_ValueError := PySem.W.mg_none_of KX G z_ValueError
    n_bool := PySem.W.mg_none_of KX G z_bool
    n_enumerate := PySem.W.mg_none_of KX G z_enumerate
    n_int := PySem.W.mg_none_of KX G z_int
    n_isinstance := PySem.W.mg_none_of KX G z_isinstance
    n_len := PySem.W.mg_none_of KX G z_len
    n_list := PySem.W.mg_none_of KX G z_list
    n_range := PySem.W.mg_none_of KX G z_range
    n_str := PySem.W.mg_none_of KX G z_str
    n_tuple := PySem.W.mg_none_of KX G z_tuple
    n_zip := PySem.W.mg_none_of KX G z_zip
    gL := PySem.W.mg_of KX G gL
    gaL := gaL
    rdL := rdL
    vL := vL
    gc_Empty := PySem.W.mg_of KX G gc_Empty
    xc_Empty := ⟨x1_Empty, x2_Empty, x3_Empty, x4_Empty, x5_Empty, hn, ht, x6_Empty⟩
    kc_Empty := kc_Empty
    oex_Empty := ⟨⟨nm_Empty, qn_Empty, N_Empty, bs_Empty, bm_Empty, sn_Empty, sub_Empty, ab_Empty, col_Empty, dd_Empty, m0_Empty, m1_Empty, m2_Empty, m3_Empty, m5_Empty, xo_Empty, rv_Empty⟩, sa_Empty, x3_Empty, ty_Empty, kc_Empty⟩
    ic_Empty := ic_Empty
    ti_Empty := ti_Empty
    Fi_Empty := fun_mk (st := (inClass (topS 2) 0)) li_Empty ci_Empty ki_Empty
    bi_Empty := (fun_mk (st := (inClass (topS 2) 0)) li_Empty ci_Empty ki_Empty).binds (ps := ["self", "block", "row"]) (fun _ _ _ _ _ _ us hl => match us, hl with | [_, _, _], _ => rfl)
    nf_Empty_block := nf_Empty_block
    nf_Empty_row := nf_Empty_row
    gc_Twin := PySem.W.mg_of KX G gc_Twin
    xc_Twin := ⟨x1_Twin, x2_Twin, x3_Twin, x4_Twin, x5_Twin, hn, ht, x6_Twin⟩
    kc_Twin := kc_Twin
    oex_Twin := ⟨⟨nm_Twin, qn_Twin, N_Twin, bs_Twin, bm_Twin, sn_Twin, sub_Twin, ab_Twin, col_Twin, dd_Twin, m0_Twin, m1_Twin, m2_Twin, m3_Twin, m5_Twin, xo_Twin, rv_Twin⟩, sa_Twin, x3_Twin, ty_Twin, kc_Twin⟩
    ic_Twin := ic_Twin
    ti_Twin := ti_Twin
    Fi_Twin := fun_mk (st := (inClass (topS 3) 0)) li_Twin ci_Twin ki_Twin
    bi_Twin := (fun_mk (st := (inClass (topS 3) 0)) li_Twin ci_Twin ki_Twin).binds (ps := ["self", "block", "row"]) (fun _ _ _ _ _ _ us hl => match us, hl with | [_, _, _], _ => rfl)
    nf_Twin_block := nf_Twin_block
    nf_Twin_row := nf_Twin_row
    gc_NoSet := PySem.W.mg_of KX G gc_NoSet
    xc_NoSet := ⟨x1_NoSet, x2_NoSet, x3_NoSet, x4_NoSet, x5_NoSet, hn, ht, x6_NoSet⟩
    kc_NoSet := kc_NoSet
    ex0_NoSet := ex_NoSet
    gc_NoNumber := PySem.W.mg_of KX G gc_NoNumber
    xc_NoNumber := ⟨x1_NoNumber, x2_NoNumber, x3_NoNumber, x4_NoNumber, x5_NoNumber, hn, ht, x6_NoNumber⟩
    kc_NoNumber := kc_NoNumber
    oex_NoNumber := ⟨⟨nm_NoNumber, qn_NoNumber, N_NoNumber, bs_NoNumber, bm_NoNumber, sn_NoNumber, sub_NoNumber, ab_NoNumber, col_NoNumber, dd_NoNumber, m0_NoNumber, m1_NoNumber, m2_NoNumber, m3_NoNumber, m5_NoNumber, xo_NoNumber, rv_NoNumber⟩, sa_NoNumber, x3_NoNumber, ty_NoNumber, kc_NoNumber⟩
    ic_NoNumber := ic_NoNumber
    ti_NoNumber := ti_NoNumber
    Fi_NoNumber := fun_mk (st := (inClass (topS 5) 0)) li_NoNumber ci_NoNumber ki_NoNumber
    bi_NoNumber := (fun_mk (st := (inClass (topS 5) 0)) li_NoNumber ci_NoNumber ki_NoNumber).binds (ps := ["self", "count"]) (fun _ _ _ _ _ _ us hl => match us, hl with | [_, _], _ => rfl)
    nf_NoNumber_count := nf_NoNumber_count
    gc_NoCode := PySem.W.mg_of KX G gc_NoCode
    xc_NoCode := ⟨x1_NoCode, x2_NoCode, x3_NoCode, x4_NoCode, x5_NoCode, hn, ht, x6_NoCode⟩
    kc_NoCode := kc_NoCode
    ex0_NoCode := ex_NoCode
    gc_NoRoom := PySem.W.mg_of KX G gc_NoRoom
    xc_NoRoom := ⟨x1_NoRoom, x2_NoRoom, x3_NoRoom, x4_NoRoom, x5_NoRoom, hn, ht, x6_NoRoom⟩
    kc_NoRoom := kc_NoRoom
    oex_NoRoom := ⟨⟨nm_NoRoom, qn_NoRoom, N_NoRoom, bs_NoRoom, bm_NoRoom, sn_NoRoom, sub_NoRoom, ab_NoRoom, col_NoRoom, dd_NoRoom, m0_NoRoom, m1_NoRoom, m2_NoRoom, m3_NoRoom, m5_NoRoom, xo_NoRoom, rv_NoRoom⟩, sa_NoRoom, x3_NoRoom, ty_NoRoom, kc_NoRoom⟩
    ic_NoRoom := ic_NoRoom
    ti_NoRoom := ti_NoRoom
    Fi_NoRoom := fun_mk (st := (inClass (topS 7) 0)) li_NoRoom ci_NoRoom ki_NoRoom
    bi_NoRoom := (fun_mk (st := (inClass (topS 7) 0)) li_NoRoom ci_NoRoom ki_NoRoom).binds (ps := ["self", "room"]) (fun _ _ _ _ _ _ us hl => match us, hl with | [_, _], _ => rfl)
    nf_NoRoom_room := nf_NoRoom_room
    gc_Standing := PySem.W.mg_of KX G gc_Standing
    xc_Standing := ⟨x1_Standing, x2_Standing, x3_Standing, x4_Standing, x5_Standing, hn, ht, x6_Standing⟩
    kc_Standing := kc_Standing
    oex_Standing := ⟨⟨nm_Standing, qn_Standing, N_Standing, bs_Standing, bm_Standing, sn_Standing, sub_Standing, ab_Standing, col_Standing, dd_Standing, m0_Standing, m1_Standing, m2_Standing, m3_Standing, m5_Standing, xo_Standing, rv_Standing⟩, sa_Standing, x3_Standing, ty_Standing, kc_Standing⟩
    ic_Standing := ic_Standing
    ti_Standing := ti_Standing
    Fi_Standing := fun_mk (st := (inClass (topS 8) 0)) li_Standing ci_Standing ki_Standing
    bi_Standing := (fun_mk (st := (inClass (topS 8) 0)) li_Standing ci_Standing ki_Standing).binds (ps := ["self", "name"]) (fun _ _ _ _ _ _ us hl => match us, hl with | [_, _], _ => rfl)
    nf_Standing_name := nf_Standing_name
    gc_Full := PySem.W.mg_of KX G gc_Full
    xc_Full := ⟨x1_Full, x2_Full, x3_Full, x4_Full, x5_Full, hn, ht, x6_Full⟩
    kc_Full := kc_Full
    oex_Full := ⟨⟨nm_Full, qn_Full, N_Full, bs_Full, bm_Full, sn_Full, sub_Full, ab_Full, col_Full, dd_Full, m0_Full, m1_Full, m2_Full, m3_Full, m5_Full, xo_Full, rv_Full⟩, sa_Full, x3_Full, ty_Full, kc_Full⟩
    ic_Full := ic_Full
    ti_Full := ti_Full
    Fi_Full := fun_mk (st := (inClass (topS 9) 0)) li_Full ci_Full ki_Full
    bi_Full := (fun_mk (st := (inClass (topS 9) 0)) li_Full ci_Full ki_Full).binds (ps := ["self", "most"]) (fun _ _ _ _ _ _ us hl => match us, hl with | [_, _], _ => rfl)
    nf_Full_most := nf_Full_most
    gc_NoName := PySem.W.mg_of KX G gc_NoName
    xc_NoName := ⟨x1_NoName, x2_NoName, x3_NoName, x4_NoName, x5_NoName, hn, ht, x6_NoName⟩
    kc_NoName := kc_NoName
    oex_NoName := ⟨⟨nm_NoName, qn_NoName, N_NoName, bs_NoName, bm_NoName, sn_NoName, sub_NoName, ab_NoName, col_NoName, dd_NoName, m0_NoName, m1_NoName, m2_NoName, m3_NoName, m5_NoName, xo_NoName, rv_NoName⟩, sa_NoName, x3_NoName, ty_NoName, kc_NoName⟩
    ic_NoName := ic_NoName
    ti_NoName := ti_NoName
    Fi_NoName := fun_mk (st := (inClass (topS 10) 0)) li_NoName ci_NoName ki_NoName
    bi_NoName := (fun_mk (st := (inClass (topS 10) 0)) li_NoName ci_NoName ki_NoName).binds (ps := ["self", "name"]) (fun _ _ _ _ _ _ us hl => match us, hl with | [_, _], _ => rfl)
    nf_NoName_name := nf_NoName_name
    gc_NoHolder := PySem.W.mg_of KX G gc_NoHolder
    xc_NoHolder := ⟨x1_NoHolder, x2_NoHolder, x3_NoHolder, x4_NoHolder, x5_NoHolder, hn, ht, x6_NoHolder⟩
    kc_NoHolder := kc_NoHolder
    oex_NoHolder := ⟨⟨nm_NoHolder, qn_NoHolder, N_NoHolder, bs_NoHolder, bm_NoHolder, sn_NoHolder, sub_NoHolder, ab_NoHolder, col_NoHolder, dd_NoHolder, m0_NoHolder, m1_NoHolder, m2_NoHolder, m3_NoHolder, m5_NoHolder, xo_NoHolder, rv_NoHolder⟩, sa_NoHolder, x3_NoHolder, ty_NoHolder, kc_NoHolder⟩
    ic_NoHolder := ic_NoHolder
    ti_NoHolder := ti_NoHolder
    Fi_NoHolder := fun_mk (st := (inClass (topS 11) 0)) li_NoHolder ci_NoHolder ki_NoHolder
    bi_NoHolder := (fun_mk (st := (inClass (topS 11) 0)) li_NoHolder ci_NoHolder ki_NoHolder).binds (ps := ["self", "holder"]) (fun _ _ _ _ _ _ us hl => match us, hl with | [_, _], _ => rfl)
    nf_NoHolder_holder := nf_NoHolder_holder
    gc_NoBlock := PySem.W.mg_of KX G gc_NoBlock
    xc_NoBlock := ⟨x1_NoBlock, x2_NoBlock, x3_NoBlock, x4_NoBlock, x5_NoBlock, hn, ht, x6_NoBlock⟩
    kc_NoBlock := kc_NoBlock
    ex0_NoBlock := ex_NoBlock
    gc_NoText := PySem.W.mg_of KX G gc_NoText
    xc_NoText := ⟨x1_NoText, x2_NoText, x3_NoText, x4_NoText, x5_NoText, hn, ht, x6_NoText⟩
    kc_NoText := kc_NoText
    ex0_NoText := ex_NoText
    kit_0_0 := kit_self
    kit_0_1 := kit_no sb_0_1 sb_0_0 is_Twin ty_Twin
    kit_0_2 := kit_no sb_0_2 sb_0_0 is_NoSet ty_NoSet
    kit_0_3 := kit_no sb_0_3 sb_0_0 is_NoNumber ty_NoNumber
    kit_0_4 := kit_no sb_0_4 sb_0_0 is_NoCode ty_NoCode
    kit_0_5 := kit_no sb_0_5 sb_0_0 is_NoRoom ty_NoRoom
    kit_0_6 := kit_no sb_0_6 sb_0_0 is_Standing ty_Standing
    kit_0_7 := kit_no sb_0_7 sb_0_0 is_Full ty_Full
    kit_0_8 := kit_no sb_0_8 sb_0_0 is_NoName ty_NoName
    kit_0_9 := kit_no sb_0_9 sb_0_0 is_NoHolder ty_NoHolder
    kit_0_10 := kit_no sb_0_10 sb_0_0 is_NoBlock ty_NoBlock
    kit_0_11 := kit_no sb_0_11 sb_0_0 is_NoText ty_NoText
    kit_0_12 := kit_yes sb_0_L iL tL
    kit_0_13 := kit_ve sb_0_V
    kit_1_0 := kit_no sb_1_0 sb_1_1 is_Empty ty_Empty
    kit_1_1 := kit_self
    kit_1_2 := kit_no sb_1_2 sb_1_1 is_NoSet ty_NoSet
    kit_1_3 := kit_no sb_1_3 sb_1_1 is_NoNumber ty_NoNumber
    kit_1_4 := kit_no sb_1_4 sb_1_1 is_NoCode ty_NoCode
    kit_1_5 := kit_no sb_1_5 sb_1_1 is_NoRoom ty_NoRoom
    kit_1_6 := kit_no sb_1_6 sb_1_1 is_Standing ty_Standing
    kit_1_7 := kit_no sb_1_7 sb_1_1 is_Full ty_Full
    kit_1_8 := kit_no sb_1_8 sb_1_1 is_NoName ty_NoName
    kit_1_9 := kit_no sb_1_9 sb_1_1 is_NoHolder ty_NoHolder
    kit_1_10 := kit_no sb_1_10 sb_1_1 is_NoBlock ty_NoBlock
    kit_1_11 := kit_no sb_1_11 sb_1_1 is_NoText ty_NoText
    kit_1_12 := kit_yes sb_1_L iL tL
    kit_1_13 := kit_ve sb_1_V
    kit_2_0 := kit_no sb_2_0 sb_2_2 is_Empty ty_Empty
    kit_2_1 := kit_no sb_2_1 sb_2_2 is_Twin ty_Twin
    kit_2_2 := kit_self
    kit_2_3 := kit_no sb_2_3 sb_2_2 is_NoNumber ty_NoNumber
    kit_2_4 := kit_no sb_2_4 sb_2_2 is_NoCode ty_NoCode
    kit_2_5 := kit_no sb_2_5 sb_2_2 is_NoRoom ty_NoRoom
    kit_2_6 := kit_no sb_2_6 sb_2_2 is_Standing ty_Standing
    kit_2_7 := kit_no sb_2_7 sb_2_2 is_Full ty_Full
    kit_2_8 := kit_no sb_2_8 sb_2_2 is_NoName ty_NoName
    kit_2_9 := kit_no sb_2_9 sb_2_2 is_NoHolder ty_NoHolder
    kit_2_10 := kit_no sb_2_10 sb_2_2 is_NoBlock ty_NoBlock
    kit_2_11 := kit_no sb_2_11 sb_2_2 is_NoText ty_NoText
    kit_2_12 := kit_yes sb_2_L iL tL
    kit_2_13 := kit_ve sb_2_V
    kit_3_0 := kit_no sb_3_0 sb_3_3 is_Empty ty_Empty
    kit_3_1 := kit_no sb_3_1 sb_3_3 is_Twin ty_Twin
    kit_3_2 := kit_no sb_3_2 sb_3_3 is_NoSet ty_NoSet
    kit_3_3 := kit_self
    kit_3_4 := kit_no sb_3_4 sb_3_3 is_NoCode ty_NoCode
    kit_3_5 := kit_no sb_3_5 sb_3_3 is_NoRoom ty_NoRoom
    kit_3_6 := kit_no sb_3_6 sb_3_3 is_Standing ty_Standing
    kit_3_7 := kit_no sb_3_7 sb_3_3 is_Full ty_Full
    kit_3_8 := kit_no sb_3_8 sb_3_3 is_NoName ty_NoName
    kit_3_9 := kit_no sb_3_9 sb_3_3 is_NoHolder ty_NoHolder
    kit_3_10 := kit_no sb_3_10 sb_3_3 is_NoBlock ty_NoBlock
    kit_3_11 := kit_no sb_3_11 sb_3_3 is_NoText ty_NoText
    kit_3_12 := kit_yes sb_3_L iL tL
    kit_3_13 := kit_ve sb_3_V
    kit_4_0 := kit_no sb_4_0 sb_4_4 is_Empty ty_Empty
    kit_4_1 := kit_no sb_4_1 sb_4_4 is_Twin ty_Twin
    kit_4_2 := kit_no sb_4_2 sb_4_4 is_NoSet ty_NoSet
    kit_4_3 := kit_no sb_4_3 sb_4_4 is_NoNumber ty_NoNumber
    kit_4_4 := kit_self
    kit_4_5 := kit_no sb_4_5 sb_4_4 is_NoRoom ty_NoRoom
    kit_4_6 := kit_no sb_4_6 sb_4_4 is_Standing ty_Standing
    kit_4_7 := kit_no sb_4_7 sb_4_4 is_Full ty_Full
    kit_4_8 := kit_no sb_4_8 sb_4_4 is_NoName ty_NoName
    kit_4_9 := kit_no sb_4_9 sb_4_4 is_NoHolder ty_NoHolder
    kit_4_10 := kit_no sb_4_10 sb_4_4 is_NoBlock ty_NoBlock
    kit_4_11 := kit_no sb_4_11 sb_4_4 is_NoText ty_NoText
    kit_4_12 := kit_yes sb_4_L iL tL
    kit_4_13 := kit_ve sb_4_V
    kit_5_0 := kit_no sb_5_0 sb_5_5 is_Empty ty_Empty
    kit_5_1 := kit_no sb_5_1 sb_5_5 is_Twin ty_Twin
    kit_5_2 := kit_no sb_5_2 sb_5_5 is_NoSet ty_NoSet
    kit_5_3 := kit_no sb_5_3 sb_5_5 is_NoNumber ty_NoNumber
    kit_5_4 := kit_no sb_5_4 sb_5_5 is_NoCode ty_NoCode
    kit_5_5 := kit_self
    kit_5_6 := kit_no sb_5_6 sb_5_5 is_Standing ty_Standing
    kit_5_7 := kit_no sb_5_7 sb_5_5 is_Full ty_Full
    kit_5_8 := kit_no sb_5_8 sb_5_5 is_NoName ty_NoName
    kit_5_9 := kit_no sb_5_9 sb_5_5 is_NoHolder ty_NoHolder
    kit_5_10 := kit_no sb_5_10 sb_5_5 is_NoBlock ty_NoBlock
    kit_5_11 := kit_no sb_5_11 sb_5_5 is_NoText ty_NoText
    kit_5_12 := kit_yes sb_5_L iL tL
    kit_5_13 := kit_ve sb_5_V
    kit_6_0 := kit_no sb_6_0 sb_6_6 is_Empty ty_Empty
    kit_6_1 := kit_no sb_6_1 sb_6_6 is_Twin ty_Twin
    kit_6_2 := kit_no sb_6_2 sb_6_6 is_NoSet ty_NoSet
    kit_6_3 := kit_no sb_6_3 sb_6_6 is_NoNumber ty_NoNumber
    kit_6_4 := kit_no sb_6_4 sb_6_6 is_NoCode ty_NoCode
    kit_6_5 := kit_no sb_6_5 sb_6_6 is_NoRoom ty_NoRoom
    kit_6_6 := kit_self
    kit_6_7 := kit_no sb_6_7 sb_6_6 is_Full ty_Full
    kit_6_8 := kit_no sb_6_8 sb_6_6 is_NoName ty_NoName
    kit_6_9 := kit_no sb_6_9 sb_6_6 is_NoHolder ty_NoHolder
    kit_6_10 := kit_no sb_6_10 sb_6_6 is_NoBlock ty_NoBlock
    kit_6_11 := kit_no sb_6_11 sb_6_6 is_NoText ty_NoText
    kit_6_12 := kit_yes sb_6_L iL tL
    kit_6_13 := kit_ve sb_6_V
    kit_7_0 := kit_no sb_7_0 sb_7_7 is_Empty ty_Empty
    kit_7_1 := kit_no sb_7_1 sb_7_7 is_Twin ty_Twin
    kit_7_2 := kit_no sb_7_2 sb_7_7 is_NoSet ty_NoSet
    kit_7_3 := kit_no sb_7_3 sb_7_7 is_NoNumber ty_NoNumber
    kit_7_4 := kit_no sb_7_4 sb_7_7 is_NoCode ty_NoCode
    kit_7_5 := kit_no sb_7_5 sb_7_7 is_NoRoom ty_NoRoom
    kit_7_6 := kit_no sb_7_6 sb_7_7 is_Standing ty_Standing
    kit_7_7 := kit_self
    kit_7_8 := kit_no sb_7_8 sb_7_7 is_NoName ty_NoName
    kit_7_9 := kit_no sb_7_9 sb_7_7 is_NoHolder ty_NoHolder
    kit_7_10 := kit_no sb_7_10 sb_7_7 is_NoBlock ty_NoBlock
    kit_7_11 := kit_no sb_7_11 sb_7_7 is_NoText ty_NoText
    kit_7_12 := kit_yes sb_7_L iL tL
    kit_7_13 := kit_ve sb_7_V
    kit_8_0 := kit_no sb_8_0 sb_8_8 is_Empty ty_Empty
    kit_8_1 := kit_no sb_8_1 sb_8_8 is_Twin ty_Twin
    kit_8_2 := kit_no sb_8_2 sb_8_8 is_NoSet ty_NoSet
    kit_8_3 := kit_no sb_8_3 sb_8_8 is_NoNumber ty_NoNumber
    kit_8_4 := kit_no sb_8_4 sb_8_8 is_NoCode ty_NoCode
    kit_8_5 := kit_no sb_8_5 sb_8_8 is_NoRoom ty_NoRoom
    kit_8_6 := kit_no sb_8_6 sb_8_8 is_Standing ty_Standing
    kit_8_7 := kit_no sb_8_7 sb_8_8 is_Full ty_Full
    kit_8_8 := kit_self
    kit_8_9 := kit_no sb_8_9 sb_8_8 is_NoHolder ty_NoHolder
    kit_8_10 := kit_no sb_8_10 sb_8_8 is_NoBlock ty_NoBlock
    kit_8_11 := kit_no sb_8_11 sb_8_8 is_NoText ty_NoText
    kit_8_12 := kit_yes sb_8_L iL tL
    kit_8_13 := kit_ve sb_8_V
    kit_9_0 := kit_no sb_9_0 sb_9_9 is_Empty ty_Empty
    kit_9_1 := kit_no sb_9_1 sb_9_9 is_Twin ty_Twin
    kit_9_2 := kit_no sb_9_2 sb_9_9 is_NoSet ty_NoSet
    kit_9_3 := kit_no sb_9_3 sb_9_9 is_NoNumber ty_NoNumber
    kit_9_4 := kit_no sb_9_4 sb_9_9 is_NoCode ty_NoCode
    kit_9_5 := kit_no sb_9_5 sb_9_9 is_NoRoom ty_NoRoom
    kit_9_6 := kit_no sb_9_6 sb_9_9 is_Standing ty_Standing
    kit_9_7 := kit_no sb_9_7 sb_9_9 is_Full ty_Full
    kit_9_8 := kit_no sb_9_8 sb_9_9 is_NoName ty_NoName
    kit_9_9 := kit_self
    kit_9_10 := kit_no sb_9_10 sb_9_9 is_NoBlock ty_NoBlock
    kit_9_11 := kit_no sb_9_11 sb_9_9 is_NoText ty_NoText
    kit_9_12 := kit_yes sb_9_L iL tL
    kit_9_13 := kit_ve sb_9_V
    kit_10_0 := kit_no sb_10_0 sb_10_10 is_Empty ty_Empty
    kit_10_1 := kit_no sb_10_1 sb_10_10 is_Twin ty_Twin
    kit_10_2 := kit_no sb_10_2 sb_10_10 is_NoSet ty_NoSet
    kit_10_3 := kit_no sb_10_3 sb_10_10 is_NoNumber ty_NoNumber
    kit_10_4 := kit_no sb_10_4 sb_10_10 is_NoCode ty_NoCode
    kit_10_5 := kit_no sb_10_5 sb_10_10 is_NoRoom ty_NoRoom
    kit_10_6 := kit_no sb_10_6 sb_10_10 is_Standing ty_Standing
    kit_10_7 := kit_no sb_10_7 sb_10_10 is_Full ty_Full
    kit_10_8 := kit_no sb_10_8 sb_10_10 is_NoName ty_NoName
    kit_10_9 := kit_no sb_10_9 sb_10_10 is_NoHolder ty_NoHolder
    kit_10_10 := kit_self
    kit_10_11 := kit_no sb_10_11 sb_10_10 is_NoText ty_NoText
    kit_10_12 := kit_yes sb_10_L iL tL
    kit_10_13 := kit_ve sb_10_V
    kit_11_0 := kit_no sb_11_0 sb_11_11 is_Empty ty_Empty
    kit_11_1 := kit_no sb_11_1 sb_11_11 is_Twin ty_Twin
    kit_11_2 := kit_no sb_11_2 sb_11_11 is_NoSet ty_NoSet
    kit_11_3 := kit_no sb_11_3 sb_11_11 is_NoNumber ty_NoNumber
    kit_11_4 := kit_no sb_11_4 sb_11_11 is_NoCode ty_NoCode
    kit_11_5 := kit_no sb_11_5 sb_11_11 is_NoRoom ty_NoRoom
    kit_11_6 := kit_no sb_11_6 sb_11_11 is_Standing ty_Standing
    kit_11_7 := kit_no sb_11_7 sb_11_11 is_Full ty_Full
    kit_11_8 := kit_no sb_11_8 sb_11_11 is_NoName ty_NoName
    kit_11_9 := kit_no sb_11_9 sb_11_11 is_NoHolder ty_NoHolder
    kit_11_10 := kit_no sb_11_10 sb_11_11 is_NoBlock ty_NoBlock
    kit_11_11 := kit_self
    kit_11_12 := kit_yes sb_11_L iL tL
    kit_11_13 := kit_ve sb_11_V }
def spLaw (K : PySem.W.Frag) : Sp := fun vs H Q _ => ∃ (a : Addr) (ns : List Int), vs = [.ref a] ∧ Only H ∧ SqL K H a (ns.map V.int) ∧ ns.length ≤ 63 ∧ ∀ H', Q (.bl true) H'
theorem reps_ints {K : PySem.W.Frag} {H : Hp} : ∀ ns : List Int, Reps K H [] (ns.map D.int) (ns.map V.int)
  | [] => .nil
  | n :: ns => .cons (.int n) (reps_ints ns)
theorem law_sp {K : PySem.W.Frag} {mg : Str → Option Value} {X : Ad} (T : Txt K mg X) (vs : List V) (H : Hp) (Q : VK) (E : XK) (h : spLaw K vs H Q E) : spOf K (Cn K X 20) 5 vs H Q E := by
  obtain ⟨a, ns, rfl, hO, hS, hl, q⟩ := h
  obtain ⟨S', e⟩ := LAWPURE T ns hl
  have hR : RoL K H [] a (ns.map V.int) := by
    rcases hS with (z | ⟨u, z⟩) | z
    · rcases hO a with y | ⟨u, xs, y⟩
      · rw [y] at z; cases z
      · rw [y] at z; cases z
    · exact .inl ⟨u, z⟩
    · exact .inr z
  refine ⟨[], [], [.rol (ns.map D.int)], .bl true, S', ⟨rfl, List.nodup_nil, fun n a o e1 _ => by simp at e1⟩, .cons (.rol hR (reps_ints ns)) .nil, e, fun v H' ms' _ _ r => ?_⟩
  cases r
  exact q H'
theorem law_fn {P : Program} {w : World} {K : PySem.W.Frag} {mg : Str → Option Value} {base : Heap} {X : Ad} (T : Txt K mg X) : FnOk P w K mg base CX0 23 X.f_p_law X.d_p_law ["script"] (spLaw K) :=
  ((all_ok T 20).o_p_law).imp (law_sp T)
theorem law_fin {P : Program} {w : World} {K : PySem.W.Frag} {h : Heap} {mg : Str → Option Value} {fa : Addr} (KX : K.In h) (G : h.Ns mainGlobals mg) (hfa : mg "law" = some (.ref fa))
    {f_l_open : Addr} {od_l_open an_l_open : Option Addr} {sl_l_open : Array (Option Value)} {oc_l_open kV_l_open dc_l_open pm_l_open cd_l_open ct_l_open : Value}
    {f_l_spread : Addr} {od_l_spread an_l_spread : Option Addr} {sl_l_spread : Array (Option Value)} {oc_l_spread kV_l_spread dc_l_spread pm_l_spread cd_l_spread ct_l_spread : Value}
    {f_l_take : Addr} {od_l_take an_l_take : Option Addr} {sl_l_take : Array (Option Value)} {oc_l_take kV_l_take dc_l_take pm_l_take cd_l_take ct_l_take : Value}
    {f_l_same : Addr} {od_l_same an_l_same : Option Addr} {sl_l_same : Array (Option Value)} {oc_l_same kV_l_same dc_l_same pm_l_same cd_l_same ct_l_same : Value}
    {f_l_kinds : Addr} {od_l_kinds an_l_kinds : Option Addr} {sl_l_kinds : Array (Option Value)} {oc_l_kinds kV_l_kinds dc_l_kinds pm_l_kinds cd_l_kinds ct_l_kinds : Value}
    {f_p_law : Addr} {od_p_law an_p_law : Option Addr} {sl_p_law : Array (Option Value)} {oc_p_law kV_p_law dc_p_law pm_p_law cd_p_law ct_p_law : Value}
    {c_L : Addr}
    {c_Empty : Addr}
    {nm_Empty qn_Empty : Str} {N_Empty : Addr} {bs_Empty bm_Empty : List Value} {sn_Empty : List Str} {sub_Empty : List Value} {ab_Empty : Bool} {col_Empty : Option Bool} {dd_Empty : Option Addr} {m0_Empty m1_Empty m2_Empty m3_Empty m5_Empty : Option Value}
    {i_Empty : Addr} {od_i_Empty an_i_Empty : Option Addr} {sl_i_Empty : Array (Option Value)} {oc_i_Empty kV_i_Empty dc_i_Empty pm_i_Empty cd_i_Empty ct_i_Empty : Value}
    {c_Twin : Addr}
    {nm_Twin qn_Twin : Str} {N_Twin : Addr} {bs_Twin bm_Twin : List Value} {sn_Twin : List Str} {sub_Twin : List Value} {ab_Twin : Bool} {col_Twin : Option Bool} {dd_Twin : Option Addr} {m0_Twin m1_Twin m2_Twin m3_Twin m5_Twin : Option Value}
    {i_Twin : Addr} {od_i_Twin an_i_Twin : Option Addr} {sl_i_Twin : Array (Option Value)} {oc_i_Twin kV_i_Twin dc_i_Twin pm_i_Twin cd_i_Twin ct_i_Twin : Value}
    {c_NoSet : Addr}
    {c_NoNumber : Addr}
    {nm_NoNumber qn_NoNumber : Str} {N_NoNumber : Addr} {bs_NoNumber bm_NoNumber : List Value} {sn_NoNumber : List Str} {sub_NoNumber : List Value} {ab_NoNumber : Bool} {col_NoNumber : Option Bool} {dd_NoNumber : Option Addr} {m0_NoNumber m1_NoNumber m2_NoNumber m3_NoNumber m5_NoNumber : Option Value}
    {i_NoNumber : Addr} {od_i_NoNumber an_i_NoNumber : Option Addr} {sl_i_NoNumber : Array (Option Value)} {oc_i_NoNumber kV_i_NoNumber dc_i_NoNumber pm_i_NoNumber cd_i_NoNumber ct_i_NoNumber : Value}
    {c_NoCode : Addr}
    {c_NoRoom : Addr}
    {nm_NoRoom qn_NoRoom : Str} {N_NoRoom : Addr} {bs_NoRoom bm_NoRoom : List Value} {sn_NoRoom : List Str} {sub_NoRoom : List Value} {ab_NoRoom : Bool} {col_NoRoom : Option Bool} {dd_NoRoom : Option Addr} {m0_NoRoom m1_NoRoom m2_NoRoom m3_NoRoom m5_NoRoom : Option Value}
    {i_NoRoom : Addr} {od_i_NoRoom an_i_NoRoom : Option Addr} {sl_i_NoRoom : Array (Option Value)} {oc_i_NoRoom kV_i_NoRoom dc_i_NoRoom pm_i_NoRoom cd_i_NoRoom ct_i_NoRoom : Value}
    {c_Standing : Addr}
    {nm_Standing qn_Standing : Str} {N_Standing : Addr} {bs_Standing bm_Standing : List Value} {sn_Standing : List Str} {sub_Standing : List Value} {ab_Standing : Bool} {col_Standing : Option Bool} {dd_Standing : Option Addr} {m0_Standing m1_Standing m2_Standing m3_Standing m5_Standing : Option Value}
    {i_Standing : Addr} {od_i_Standing an_i_Standing : Option Addr} {sl_i_Standing : Array (Option Value)} {oc_i_Standing kV_i_Standing dc_i_Standing pm_i_Standing cd_i_Standing ct_i_Standing : Value}
    {c_Full : Addr}
    {nm_Full qn_Full : Str} {N_Full : Addr} {bs_Full bm_Full : List Value} {sn_Full : List Str} {sub_Full : List Value} {ab_Full : Bool} {col_Full : Option Bool} {dd_Full : Option Addr} {m0_Full m1_Full m2_Full m3_Full m5_Full : Option Value}
    {i_Full : Addr} {od_i_Full an_i_Full : Option Addr} {sl_i_Full : Array (Option Value)} {oc_i_Full kV_i_Full dc_i_Full pm_i_Full cd_i_Full ct_i_Full : Value}
    {c_NoName : Addr}
    {nm_NoName qn_NoName : Str} {N_NoName : Addr} {bs_NoName bm_NoName : List Value} {sn_NoName : List Str} {sub_NoName : List Value} {ab_NoName : Bool} {col_NoName : Option Bool} {dd_NoName : Option Addr} {m0_NoName m1_NoName m2_NoName m3_NoName m5_NoName : Option Value}
    {i_NoName : Addr} {od_i_NoName an_i_NoName : Option Addr} {sl_i_NoName : Array (Option Value)} {oc_i_NoName kV_i_NoName dc_i_NoName pm_i_NoName cd_i_NoName ct_i_NoName : Value}
    {c_NoHolder : Addr}
    {nm_NoHolder qn_NoHolder : Str} {N_NoHolder : Addr} {bs_NoHolder bm_NoHolder : List Value} {sn_NoHolder : List Str} {sub_NoHolder : List Value} {ab_NoHolder : Bool} {col_NoHolder : Option Bool} {dd_NoHolder : Option Addr} {m0_NoHolder m1_NoHolder m2_NoHolder m3_NoHolder m5_NoHolder : Option Value}
    {i_NoHolder : Addr} {od_i_NoHolder an_i_NoHolder : Option Addr} {sl_i_NoHolder : Array (Option Value)} {oc_i_NoHolder kV_i_NoHolder dc_i_NoHolder pm_i_NoHolder cd_i_NoHolder ct_i_NoHolder : Value}
    {c_NoBlock : Addr}
    {c_NoText : Addr}
    (a_l_open : PySem.W.nsIn K mainGlobals "_law_open" = some (some (.ref f_l_open)))
    (l_l_open : K.lookup f_l_open = some ⟨oc_l_open, od_l_open, .func (PySem.W.fnOf "_law_open" "_law_open" (defArgs s_l_open) (defBody s_l_open) (defScope s_l_open) .none kV_l_open dc_l_open pm_l_open an_l_open cd_l_open ct_l_open), sl_l_open⟩)
    (c_l_open : PySem.W.codeIn K cd_l_open "_law_open" = true)
    (k_l_open : PySem.W.keepIn K (.ref f_l_open) = true)
    (a_l_spread : PySem.W.nsIn K mainGlobals "_law_spread" = some (some (.ref f_l_spread)))
    (l_l_spread : K.lookup f_l_spread = some ⟨oc_l_spread, od_l_spread, .func (PySem.W.fnOf "_law_spread" "_law_spread" (defArgs s_l_spread) (defBody s_l_spread) (defScope s_l_spread) .none kV_l_spread dc_l_spread pm_l_spread an_l_spread cd_l_spread ct_l_spread), sl_l_spread⟩)
    (c_l_spread : PySem.W.codeIn K cd_l_spread "_law_spread" = true)
    (k_l_spread : PySem.W.keepIn K (.ref f_l_spread) = true)
    (a_l_take : PySem.W.nsIn K mainGlobals "_law_take" = some (some (.ref f_l_take)))
    (l_l_take : K.lookup f_l_take = some ⟨oc_l_take, od_l_take, .func (PySem.W.fnOf "_law_take" "_law_take" (defArgs s_l_take) (defBody s_l_take) (defScope s_l_take) .none kV_l_take dc_l_take pm_l_take an_l_take cd_l_take ct_l_take), sl_l_take⟩)
    (c_l_take : PySem.W.codeIn K cd_l_take "_law_take" = true)
    (k_l_take : PySem.W.keepIn K (.ref f_l_take) = true)
    (a_l_same : PySem.W.nsIn K mainGlobals "_law_same" = some (some (.ref f_l_same)))
    (l_l_same : K.lookup f_l_same = some ⟨oc_l_same, od_l_same, .func (PySem.W.fnOf "_law_same" "_law_same" (defArgs s_l_same) (defBody s_l_same) (defScope s_l_same) .none kV_l_same dc_l_same pm_l_same an_l_same cd_l_same ct_l_same), sl_l_same⟩)
    (c_l_same : PySem.W.codeIn K cd_l_same "_law_same" = true)
    (k_l_same : PySem.W.keepIn K (.ref f_l_same) = true)
    (a_l_kinds : PySem.W.nsIn K mainGlobals "_law_kinds" = some (some (.ref f_l_kinds)))
    (l_l_kinds : K.lookup f_l_kinds = some ⟨oc_l_kinds, od_l_kinds, .func (PySem.W.fnOf "_law_kinds" "_law_kinds" (defArgs s_l_kinds) (defBody s_l_kinds) (defScope s_l_kinds) .none kV_l_kinds dc_l_kinds pm_l_kinds an_l_kinds cd_l_kinds ct_l_kinds), sl_l_kinds⟩)
    (c_l_kinds : PySem.W.codeIn K cd_l_kinds "_law_kinds" = true)
    (k_l_kinds : PySem.W.keepIn K (.ref f_l_kinds) = true)
    (a_p_law : PySem.W.nsIn K mainGlobals "law" = some (some (.ref f_p_law)))
    (l_p_law : K.lookup f_p_law = some ⟨oc_p_law, od_p_law, .func (PySem.W.fnOf "law" "law" (defArgs s_p_law) (defBody s_p_law) (defScope s_p_law) .none kV_p_law dc_p_law pm_p_law an_p_law cd_p_law ct_p_law), sl_p_law⟩)
    (c_p_law : PySem.W.codeIn K cd_p_law "law" = true)
    (k_p_law : PySem.W.keepIn K (.ref f_p_law) = true)
    (z_ValueError : PySem.W.nsIn K mainGlobals "ValueError" = some none)
    (z_bool : PySem.W.nsIn K mainGlobals "bool" = some none)
    (z_enumerate : PySem.W.nsIn K mainGlobals "enumerate" = some none)
    (z_int : PySem.W.nsIn K mainGlobals "int" = some none)
    (z_isinstance : PySem.W.nsIn K mainGlobals "isinstance" = some none)
    (z_len : PySem.W.nsIn K mainGlobals "len" = some none)
    (z_list : PySem.W.nsIn K mainGlobals "list" = some none)
    (z_range : PySem.W.nsIn K mainGlobals "range" = some none)
    (z_str : PySem.W.nsIn K mainGlobals "str" = some none)
    (z_tuple : PySem.W.nsIn K mainGlobals "tuple" = some none)
    (z_zip : PySem.W.nsIn K mainGlobals "zip" = some none)
    (gL : PySem.W.nsIn K mainGlobals "LotError" = some (some (.ref c_L)))
    (gaL : PySem.W.specialIn K (.ref c_L) "__getattribute__" = some (some (.builtin "type.__getattribute__")))
    (rdL : PySem.W.readsIn K c_L (.type "type") = true)
    (vL : PySem.W.findCls K (.ref c_L) (.type "type") "__init__" = some (.val (.builtin "ValueError.__init__")))
    (iL : PySem.W.isClsIn K c_L = true)
    (tL : PySem.W.typeIn K (.ref c_L) = some (.type "type"))
    (hn : PySem.W.specialIn K (.builtin "object.__class__") "__get__" = some (some (.builtin "getset_descriptor.__get__")))
    (ht : PySem.W.takesIn K (.builtin "object.__class__") = some true)
    (gc_Empty : PySem.W.nsIn K mainGlobals "Empty" = some (some (.ref c_Empty)))
    (x1_Empty : PySem.W.findIn K (.ref c_Empty) "__getattribute__" = some (some (.builtin "BaseException.__getattribute__")))
    (x2_Empty : PySem.W.findIn K (.ref c_Empty) "__getattr__" = some none)
    (x3_Empty : PySem.W.subIn K (.ref c_Empty) (.type "BaseException") = some true)
    (x4_Empty : PySem.W.hasDictIn K c_Empty = true)
    (x5_Empty : PySem.W.findIn K (.ref c_Empty) "__class__" = some (some (.builtin "object.__class__")))
    (x6_Empty : PySem.W.mroIn K c_Empty (.type "object") = some true)
    (kc_Empty : PySem.W.keepIn K (.ref c_Empty) = true)
    (ty_Empty : PySem.W.typeIn K (.ref c_Empty) = some (.type "type"))
    (is_Empty : PySem.W.isClsIn K c_Empty = true)
    (xo_Empty : K.lookup c_Empty = some (excClassObj nm_Empty qn_Empty c_Empty N_Empty bs_Empty bm_Empty true sn_Empty sub_Empty ab_Empty col_Empty dd_Empty m0_Empty m1_Empty m2_Empty m3_Empty m5_Empty "ValueError.__new__"))
    (rv_Empty : PySem.HandSPX.refsVE bm_Empty = true)
    (sa_Empty : PySem.W.findIn K (.ref c_Empty) "__setattr__" = some (some (.builtin "object.__setattr__")))
    (ic_Empty : PySem.W.findIn K (.ref c_Empty) "__init__" = some (some (.ref i_Empty)))
    (ti_Empty : PySem.W.typeIn K (.ref i_Empty) = some (.type "function"))
    (li_Empty : K.lookup i_Empty = some ⟨oc_i_Empty, od_i_Empty, .func (PySem.W.fnOf "__init__" "Empty.__init__" (defArgs (inClass (topS 2) 0)) (defBody (inClass (topS 2) 0)) (defScope (inClass (topS 2) 0)) .none kV_i_Empty dc_i_Empty pm_i_Empty an_i_Empty cd_i_Empty ct_i_Empty), sl_i_Empty⟩)
    (ci_Empty : PySem.W.codeIn K cd_i_Empty "Empty.__init__" = true)
    (ki_Empty : PySem.W.keepIn K (.ref i_Empty) = true)
    (nf_Empty_block : PySem.W.findIn K (.ref c_Empty) "block" = some none)
    (nf_Empty_row : PySem.W.findIn K (.ref c_Empty) "row" = some none)
    (gc_Twin : PySem.W.nsIn K mainGlobals "Twin" = some (some (.ref c_Twin)))
    (x1_Twin : PySem.W.findIn K (.ref c_Twin) "__getattribute__" = some (some (.builtin "BaseException.__getattribute__")))
    (x2_Twin : PySem.W.findIn K (.ref c_Twin) "__getattr__" = some none)
    (x3_Twin : PySem.W.subIn K (.ref c_Twin) (.type "BaseException") = some true)
    (x4_Twin : PySem.W.hasDictIn K c_Twin = true)
    (x5_Twin : PySem.W.findIn K (.ref c_Twin) "__class__" = some (some (.builtin "object.__class__")))
    (x6_Twin : PySem.W.mroIn K c_Twin (.type "object") = some true)
    (kc_Twin : PySem.W.keepIn K (.ref c_Twin) = true)
    (ty_Twin : PySem.W.typeIn K (.ref c_Twin) = some (.type "type"))
    (is_Twin : PySem.W.isClsIn K c_Twin = true)
    (xo_Twin : K.lookup c_Twin = some (excClassObj nm_Twin qn_Twin c_Twin N_Twin bs_Twin bm_Twin true sn_Twin sub_Twin ab_Twin col_Twin dd_Twin m0_Twin m1_Twin m2_Twin m3_Twin m5_Twin "ValueError.__new__"))
    (rv_Twin : PySem.HandSPX.refsVE bm_Twin = true)
    (sa_Twin : PySem.W.findIn K (.ref c_Twin) "__setattr__" = some (some (.builtin "object.__setattr__")))
    (ic_Twin : PySem.W.findIn K (.ref c_Twin) "__init__" = some (some (.ref i_Twin)))
    (ti_Twin : PySem.W.typeIn K (.ref i_Twin) = some (.type "function"))
    (li_Twin : K.lookup i_Twin = some ⟨oc_i_Twin, od_i_Twin, .func (PySem.W.fnOf "__init__" "Twin.__init__" (defArgs (inClass (topS 3) 0)) (defBody (inClass (topS 3) 0)) (defScope (inClass (topS 3) 0)) .none kV_i_Twin dc_i_Twin pm_i_Twin an_i_Twin cd_i_Twin ct_i_Twin), sl_i_Twin⟩)
    (ci_Twin : PySem.W.codeIn K cd_i_Twin "Twin.__init__" = true)
    (ki_Twin : PySem.W.keepIn K (.ref i_Twin) = true)
    (nf_Twin_block : PySem.W.findIn K (.ref c_Twin) "block" = some none)
    (nf_Twin_row : PySem.W.findIn K (.ref c_Twin) "row" = some none)
    (gc_NoSet : PySem.W.nsIn K mainGlobals "NoSet" = some (some (.ref c_NoSet)))
    (x1_NoSet : PySem.W.findIn K (.ref c_NoSet) "__getattribute__" = some (some (.builtin "BaseException.__getattribute__")))
    (x2_NoSet : PySem.W.findIn K (.ref c_NoSet) "__getattr__" = some none)
    (x3_NoSet : PySem.W.subIn K (.ref c_NoSet) (.type "BaseException") = some true)
    (x4_NoSet : PySem.W.hasDictIn K c_NoSet = true)
    (x5_NoSet : PySem.W.findIn K (.ref c_NoSet) "__class__" = some (some (.builtin "object.__class__")))
    (x6_NoSet : PySem.W.mroIn K c_NoSet (.type "object") = some true)
    (kc_NoSet : PySem.W.keepIn K (.ref c_NoSet) = true)
    (ty_NoSet : PySem.W.typeIn K (.ref c_NoSet) = some (.type "type"))
    (is_NoSet : PySem.W.isClsIn K c_NoSet = true)
    (ex_NoSet : PySem.W.excIn K c_NoSet [.type "ValueError", .type "Exception", .type "BaseException", .type "object"] "ValueError.__new__" = true)
    (gc_NoNumber : PySem.W.nsIn K mainGlobals "NoNumber" = some (some (.ref c_NoNumber)))
    (x1_NoNumber : PySem.W.findIn K (.ref c_NoNumber) "__getattribute__" = some (some (.builtin "BaseException.__getattribute__")))
    (x2_NoNumber : PySem.W.findIn K (.ref c_NoNumber) "__getattr__" = some none)
    (x3_NoNumber : PySem.W.subIn K (.ref c_NoNumber) (.type "BaseException") = some true)
    (x4_NoNumber : PySem.W.hasDictIn K c_NoNumber = true)
    (x5_NoNumber : PySem.W.findIn K (.ref c_NoNumber) "__class__" = some (some (.builtin "object.__class__")))
    (x6_NoNumber : PySem.W.mroIn K c_NoNumber (.type "object") = some true)
    (kc_NoNumber : PySem.W.keepIn K (.ref c_NoNumber) = true)
    (ty_NoNumber : PySem.W.typeIn K (.ref c_NoNumber) = some (.type "type"))
    (is_NoNumber : PySem.W.isClsIn K c_NoNumber = true)
    (xo_NoNumber : K.lookup c_NoNumber = some (excClassObj nm_NoNumber qn_NoNumber c_NoNumber N_NoNumber bs_NoNumber bm_NoNumber true sn_NoNumber sub_NoNumber ab_NoNumber col_NoNumber dd_NoNumber m0_NoNumber m1_NoNumber m2_NoNumber m3_NoNumber m5_NoNumber "ValueError.__new__"))
    (rv_NoNumber : PySem.HandSPX.refsVE bm_NoNumber = true)
    (sa_NoNumber : PySem.W.findIn K (.ref c_NoNumber) "__setattr__" = some (some (.builtin "object.__setattr__")))
    (ic_NoNumber : PySem.W.findIn K (.ref c_NoNumber) "__init__" = some (some (.ref i_NoNumber)))
    (ti_NoNumber : PySem.W.typeIn K (.ref i_NoNumber) = some (.type "function"))
    (li_NoNumber : K.lookup i_NoNumber = some ⟨oc_i_NoNumber, od_i_NoNumber, .func (PySem.W.fnOf "__init__" "NoNumber.__init__" (defArgs (inClass (topS 5) 0)) (defBody (inClass (topS 5) 0)) (defScope (inClass (topS 5) 0)) .none kV_i_NoNumber dc_i_NoNumber pm_i_NoNumber an_i_NoNumber cd_i_NoNumber ct_i_NoNumber), sl_i_NoNumber⟩)
    (ci_NoNumber : PySem.W.codeIn K cd_i_NoNumber "NoNumber.__init__" = true)
    (ki_NoNumber : PySem.W.keepIn K (.ref i_NoNumber) = true)
    (nf_NoNumber_count : PySem.W.findIn K (.ref c_NoNumber) "count" = some none)
    (gc_NoCode : PySem.W.nsIn K mainGlobals "NoCode" = some (some (.ref c_NoCode)))
    (x1_NoCode : PySem.W.findIn K (.ref c_NoCode) "__getattribute__" = some (some (.builtin "BaseException.__getattribute__")))
    (x2_NoCode : PySem.W.findIn K (.ref c_NoCode) "__getattr__" = some none)
    (x3_NoCode : PySem.W.subIn K (.ref c_NoCode) (.type "BaseException") = some true)
    (x4_NoCode : PySem.W.hasDictIn K c_NoCode = true)
    (x5_NoCode : PySem.W.findIn K (.ref c_NoCode) "__class__" = some (some (.builtin "object.__class__")))
    (x6_NoCode : PySem.W.mroIn K c_NoCode (.type "object") = some true)
    (kc_NoCode : PySem.W.keepIn K (.ref c_NoCode) = true)
    (ty_NoCode : PySem.W.typeIn K (.ref c_NoCode) = some (.type "type"))
    (is_NoCode : PySem.W.isClsIn K c_NoCode = true)
    (ex_NoCode : PySem.W.excIn K c_NoCode [.type "ValueError", .type "Exception", .type "BaseException", .type "object"] "ValueError.__new__" = true)
    (gc_NoRoom : PySem.W.nsIn K mainGlobals "NoRoom" = some (some (.ref c_NoRoom)))
    (x1_NoRoom : PySem.W.findIn K (.ref c_NoRoom) "__getattribute__" = some (some (.builtin "BaseException.__getattribute__")))
    (x2_NoRoom : PySem.W.findIn K (.ref c_NoRoom) "__getattr__" = some none)
    (x3_NoRoom : PySem.W.subIn K (.ref c_NoRoom) (.type "BaseException") = some true)
    (x4_NoRoom : PySem.W.hasDictIn K c_NoRoom = true)
    (x5_NoRoom : PySem.W.findIn K (.ref c_NoRoom) "__class__" = some (some (.builtin "object.__class__")))
    (x6_NoRoom : PySem.W.mroIn K c_NoRoom (.type "object") = some true)
    (kc_NoRoom : PySem.W.keepIn K (.ref c_NoRoom) = true)
    (ty_NoRoom : PySem.W.typeIn K (.ref c_NoRoom) = some (.type "type"))
    (is_NoRoom : PySem.W.isClsIn K c_NoRoom = true)
    (xo_NoRoom : K.lookup c_NoRoom = some (excClassObj nm_NoRoom qn_NoRoom c_NoRoom N_NoRoom bs_NoRoom bm_NoRoom true sn_NoRoom sub_NoRoom ab_NoRoom col_NoRoom dd_NoRoom m0_NoRoom m1_NoRoom m2_NoRoom m3_NoRoom m5_NoRoom "ValueError.__new__"))
    (rv_NoRoom : PySem.HandSPX.refsVE bm_NoRoom = true)
    (sa_NoRoom : PySem.W.findIn K (.ref c_NoRoom) "__setattr__" = some (some (.builtin "object.__setattr__")))
    (ic_NoRoom : PySem.W.findIn K (.ref c_NoRoom) "__init__" = some (some (.ref i_NoRoom)))
    (ti_NoRoom : PySem.W.typeIn K (.ref i_NoRoom) = some (.type "function"))
    (li_NoRoom : K.lookup i_NoRoom = some ⟨oc_i_NoRoom, od_i_NoRoom, .func (PySem.W.fnOf "__init__" "NoRoom.__init__" (defArgs (inClass (topS 7) 0)) (defBody (inClass (topS 7) 0)) (defScope (inClass (topS 7) 0)) .none kV_i_NoRoom dc_i_NoRoom pm_i_NoRoom an_i_NoRoom cd_i_NoRoom ct_i_NoRoom), sl_i_NoRoom⟩)
    (ci_NoRoom : PySem.W.codeIn K cd_i_NoRoom "NoRoom.__init__" = true)
    (ki_NoRoom : PySem.W.keepIn K (.ref i_NoRoom) = true)
    (nf_NoRoom_room : PySem.W.findIn K (.ref c_NoRoom) "room" = some none)
    (gc_Standing : PySem.W.nsIn K mainGlobals "Standing" = some (some (.ref c_Standing)))
    (x1_Standing : PySem.W.findIn K (.ref c_Standing) "__getattribute__" = some (some (.builtin "BaseException.__getattribute__")))
    (x2_Standing : PySem.W.findIn K (.ref c_Standing) "__getattr__" = some none)
    (x3_Standing : PySem.W.subIn K (.ref c_Standing) (.type "BaseException") = some true)
    (x4_Standing : PySem.W.hasDictIn K c_Standing = true)
    (x5_Standing : PySem.W.findIn K (.ref c_Standing) "__class__" = some (some (.builtin "object.__class__")))
    (x6_Standing : PySem.W.mroIn K c_Standing (.type "object") = some true)
    (kc_Standing : PySem.W.keepIn K (.ref c_Standing) = true)
    (ty_Standing : PySem.W.typeIn K (.ref c_Standing) = some (.type "type"))
    (is_Standing : PySem.W.isClsIn K c_Standing = true)
    (xo_Standing : K.lookup c_Standing = some (excClassObj nm_Standing qn_Standing c_Standing N_Standing bs_Standing bm_Standing true sn_Standing sub_Standing ab_Standing col_Standing dd_Standing m0_Standing m1_Standing m2_Standing m3_Standing m5_Standing "ValueError.__new__"))
    (rv_Standing : PySem.HandSPX.refsVE bm_Standing = true)
    (sa_Standing : PySem.W.findIn K (.ref c_Standing) "__setattr__" = some (some (.builtin "object.__setattr__")))
    (ic_Standing : PySem.W.findIn K (.ref c_Standing) "__init__" = some (some (.ref i_Standing)))
    (ti_Standing : PySem.W.typeIn K (.ref i_Standing) = some (.type "function"))
    (li_Standing : K.lookup i_Standing = some ⟨oc_i_Standing, od_i_Standing, .func (PySem.W.fnOf "__init__" "Standing.__init__" (defArgs (inClass (topS 8) 0)) (defBody (inClass (topS 8) 0)) (defScope (inClass (topS 8) 0)) .none kV_i_Standing dc_i_Standing pm_i_Standing an_i_Standing cd_i_Standing ct_i_Standing), sl_i_Standing⟩)
    (ci_Standing : PySem.W.codeIn K cd_i_Standing "Standing.__init__" = true)
    (ki_Standing : PySem.W.keepIn K (.ref i_Standing) = true)
    (nf_Standing_name : PySem.W.findIn K (.ref c_Standing) "name" = some none)
    (gc_Full : PySem.W.nsIn K mainGlobals "Full" = some (some (.ref c_Full)))
    (x1_Full : PySem.W.findIn K (.ref c_Full) "__getattribute__" = some (some (.builtin "BaseException.__getattribute__")))
    (x2_Full : PySem.W.findIn K (.ref c_Full) "__getattr__" = some none)
    (x3_Full : PySem.W.subIn K (.ref c_Full) (.type "BaseException") = some true)
    (x4_Full : PySem.W.hasDictIn K c_Full = true)
    (x5_Full : PySem.W.findIn K (.ref c_Full) "__class__" = some (some (.builtin "object.__class__")))
    (x6_Full : PySem.W.mroIn K c_Full (.type "object") = some true)
    (kc_Full : PySem.W.keepIn K (.ref c_Full) = true)
    (ty_Full : PySem.W.typeIn K (.ref c_Full) = some (.type "type"))
    (is_Full : PySem.W.isClsIn K c_Full = true)
    (xo_Full : K.lookup c_Full = some (excClassObj nm_Full qn_Full c_Full N_Full bs_Full bm_Full true sn_Full sub_Full ab_Full col_Full dd_Full m0_Full m1_Full m2_Full m3_Full m5_Full "ValueError.__new__"))
    (rv_Full : PySem.HandSPX.refsVE bm_Full = true)
    (sa_Full : PySem.W.findIn K (.ref c_Full) "__setattr__" = some (some (.builtin "object.__setattr__")))
    (ic_Full : PySem.W.findIn K (.ref c_Full) "__init__" = some (some (.ref i_Full)))
    (ti_Full : PySem.W.typeIn K (.ref i_Full) = some (.type "function"))
    (li_Full : K.lookup i_Full = some ⟨oc_i_Full, od_i_Full, .func (PySem.W.fnOf "__init__" "Full.__init__" (defArgs (inClass (topS 9) 0)) (defBody (inClass (topS 9) 0)) (defScope (inClass (topS 9) 0)) .none kV_i_Full dc_i_Full pm_i_Full an_i_Full cd_i_Full ct_i_Full), sl_i_Full⟩)
    (ci_Full : PySem.W.codeIn K cd_i_Full "Full.__init__" = true)
    (ki_Full : PySem.W.keepIn K (.ref i_Full) = true)
    (nf_Full_most : PySem.W.findIn K (.ref c_Full) "most" = some none)
    (gc_NoName : PySem.W.nsIn K mainGlobals "NoName" = some (some (.ref c_NoName)))
    (x1_NoName : PySem.W.findIn K (.ref c_NoName) "__getattribute__" = some (some (.builtin "BaseException.__getattribute__")))
    (x2_NoName : PySem.W.findIn K (.ref c_NoName) "__getattr__" = some none)
    (x3_NoName : PySem.W.subIn K (.ref c_NoName) (.type "BaseException") = some true)
    (x4_NoName : PySem.W.hasDictIn K c_NoName = true)
    (x5_NoName : PySem.W.findIn K (.ref c_NoName) "__class__" = some (some (.builtin "object.__class__")))
    (x6_NoName : PySem.W.mroIn K c_NoName (.type "object") = some true)
    (kc_NoName : PySem.W.keepIn K (.ref c_NoName) = true)
    (ty_NoName : PySem.W.typeIn K (.ref c_NoName) = some (.type "type"))
    (is_NoName : PySem.W.isClsIn K c_NoName = true)
    (xo_NoName : K.lookup c_NoName = some (excClassObj nm_NoName qn_NoName c_NoName N_NoName bs_NoName bm_NoName true sn_NoName sub_NoName ab_NoName col_NoName dd_NoName m0_NoName m1_NoName m2_NoName m3_NoName m5_NoName "ValueError.__new__"))
    (rv_NoName : PySem.HandSPX.refsVE bm_NoName = true)
    (sa_NoName : PySem.W.findIn K (.ref c_NoName) "__setattr__" = some (some (.builtin "object.__setattr__")))
    (ic_NoName : PySem.W.findIn K (.ref c_NoName) "__init__" = some (some (.ref i_NoName)))
    (ti_NoName : PySem.W.typeIn K (.ref i_NoName) = some (.type "function"))
    (li_NoName : K.lookup i_NoName = some ⟨oc_i_NoName, od_i_NoName, .func (PySem.W.fnOf "__init__" "NoName.__init__" (defArgs (inClass (topS 10) 0)) (defBody (inClass (topS 10) 0)) (defScope (inClass (topS 10) 0)) .none kV_i_NoName dc_i_NoName pm_i_NoName an_i_NoName cd_i_NoName ct_i_NoName), sl_i_NoName⟩)
    (ci_NoName : PySem.W.codeIn K cd_i_NoName "NoName.__init__" = true)
    (ki_NoName : PySem.W.keepIn K (.ref i_NoName) = true)
    (nf_NoName_name : PySem.W.findIn K (.ref c_NoName) "name" = some none)
    (gc_NoHolder : PySem.W.nsIn K mainGlobals "NoHolder" = some (some (.ref c_NoHolder)))
    (x1_NoHolder : PySem.W.findIn K (.ref c_NoHolder) "__getattribute__" = some (some (.builtin "BaseException.__getattribute__")))
    (x2_NoHolder : PySem.W.findIn K (.ref c_NoHolder) "__getattr__" = some none)
    (x3_NoHolder : PySem.W.subIn K (.ref c_NoHolder) (.type "BaseException") = some true)
    (x4_NoHolder : PySem.W.hasDictIn K c_NoHolder = true)
    (x5_NoHolder : PySem.W.findIn K (.ref c_NoHolder) "__class__" = some (some (.builtin "object.__class__")))
    (x6_NoHolder : PySem.W.mroIn K c_NoHolder (.type "object") = some true)
    (kc_NoHolder : PySem.W.keepIn K (.ref c_NoHolder) = true)
    (ty_NoHolder : PySem.W.typeIn K (.ref c_NoHolder) = some (.type "type"))
    (is_NoHolder : PySem.W.isClsIn K c_NoHolder = true)
    (xo_NoHolder : K.lookup c_NoHolder = some (excClassObj nm_NoHolder qn_NoHolder c_NoHolder N_NoHolder bs_NoHolder bm_NoHolder true sn_NoHolder sub_NoHolder ab_NoHolder col_NoHolder dd_NoHolder m0_NoHolder m1_NoHolder m2_NoHolder m3_NoHolder m5_NoHolder "ValueError.__new__"))
    (rv_NoHolder : PySem.HandSPX.refsVE bm_NoHolder = true)
    (sa_NoHolder : PySem.W.findIn K (.ref c_NoHolder) "__setattr__" = some (some (.builtin "object.__setattr__")))
    (ic_NoHolder : PySem.W.findIn K (.ref c_NoHolder) "__init__" = some (some (.ref i_NoHolder)))
    (ti_NoHolder : PySem.W.typeIn K (.ref i_NoHolder) = some (.type "function"))
    (li_NoHolder : K.lookup i_NoHolder = some ⟨oc_i_NoHolder, od_i_NoHolder, .func (PySem.W.fnOf "__init__" "NoHolder.__init__" (defArgs (inClass (topS 11) 0)) (defBody (inClass (topS 11) 0)) (defScope (inClass (topS 11) 0)) .none kV_i_NoHolder dc_i_NoHolder pm_i_NoHolder an_i_NoHolder cd_i_NoHolder ct_i_NoHolder), sl_i_NoHolder⟩)
    (ci_NoHolder : PySem.W.codeIn K cd_i_NoHolder "NoHolder.__init__" = true)
    (ki_NoHolder : PySem.W.keepIn K (.ref i_NoHolder) = true)
    (nf_NoHolder_holder : PySem.W.findIn K (.ref c_NoHolder) "holder" = some none)
    (gc_NoBlock : PySem.W.nsIn K mainGlobals "NoBlock" = some (some (.ref c_NoBlock)))
    (x1_NoBlock : PySem.W.findIn K (.ref c_NoBlock) "__getattribute__" = some (some (.builtin "BaseException.__getattribute__")))
    (x2_NoBlock : PySem.W.findIn K (.ref c_NoBlock) "__getattr__" = some none)
    (x3_NoBlock : PySem.W.subIn K (.ref c_NoBlock) (.type "BaseException") = some true)
    (x4_NoBlock : PySem.W.hasDictIn K c_NoBlock = true)
    (x5_NoBlock : PySem.W.findIn K (.ref c_NoBlock) "__class__" = some (some (.builtin "object.__class__")))
    (x6_NoBlock : PySem.W.mroIn K c_NoBlock (.type "object") = some true)
    (kc_NoBlock : PySem.W.keepIn K (.ref c_NoBlock) = true)
    (ty_NoBlock : PySem.W.typeIn K (.ref c_NoBlock) = some (.type "type"))
    (is_NoBlock : PySem.W.isClsIn K c_NoBlock = true)
    (ex_NoBlock : PySem.W.excIn K c_NoBlock [.type "ValueError", .type "Exception", .type "BaseException", .type "object"] "ValueError.__new__" = true)
    (gc_NoText : PySem.W.nsIn K mainGlobals "NoText" = some (some (.ref c_NoText)))
    (x1_NoText : PySem.W.findIn K (.ref c_NoText) "__getattribute__" = some (some (.builtin "BaseException.__getattribute__")))
    (x2_NoText : PySem.W.findIn K (.ref c_NoText) "__getattr__" = some none)
    (x3_NoText : PySem.W.subIn K (.ref c_NoText) (.type "BaseException") = some true)
    (x4_NoText : PySem.W.hasDictIn K c_NoText = true)
    (x5_NoText : PySem.W.findIn K (.ref c_NoText) "__class__" = some (some (.builtin "object.__class__")))
    (x6_NoText : PySem.W.mroIn K c_NoText (.type "object") = some true)
    (kc_NoText : PySem.W.keepIn K (.ref c_NoText) = true)
    (ty_NoText : PySem.W.typeIn K (.ref c_NoText) = some (.type "type"))
    (is_NoText : PySem.W.isClsIn K c_NoText = true)
    (ex_NoText : PySem.W.excIn K c_NoText [.type "ValueError", .type "Exception", .type "BaseException", .type "object"] "ValueError.__new__" = true)
    (sb_0_0 : PySem.W.subIn K (.ref c_Empty) (.ref c_Empty) = some true)
    (sb_0_1 : PySem.W.subIn K (.ref c_Empty) (.ref c_Twin) = some false)
    (sb_0_2 : PySem.W.subIn K (.ref c_Empty) (.ref c_NoSet) = some false)
    (sb_0_3 : PySem.W.subIn K (.ref c_Empty) (.ref c_NoNumber) = some false)
    (sb_0_4 : PySem.W.subIn K (.ref c_Empty) (.ref c_NoCode) = some false)
    (sb_0_5 : PySem.W.subIn K (.ref c_Empty) (.ref c_NoRoom) = some false)
    (sb_0_6 : PySem.W.subIn K (.ref c_Empty) (.ref c_Standing) = some false)
    (sb_0_7 : PySem.W.subIn K (.ref c_Empty) (.ref c_Full) = some false)
    (sb_0_8 : PySem.W.subIn K (.ref c_Empty) (.ref c_NoName) = some false)
    (sb_0_9 : PySem.W.subIn K (.ref c_Empty) (.ref c_NoHolder) = some false)
    (sb_0_10 : PySem.W.subIn K (.ref c_Empty) (.ref c_NoBlock) = some false)
    (sb_0_11 : PySem.W.subIn K (.ref c_Empty) (.ref c_NoText) = some false)
    (sb_0_L : PySem.W.subIn K (.ref c_Empty) (.ref c_L) = some true)
    (sb_0_V : PySem.W.subIn K (.ref c_Empty) (.type "ValueError") = some true)
    (sb_1_0 : PySem.W.subIn K (.ref c_Twin) (.ref c_Empty) = some false)
    (sb_1_1 : PySem.W.subIn K (.ref c_Twin) (.ref c_Twin) = some true)
    (sb_1_2 : PySem.W.subIn K (.ref c_Twin) (.ref c_NoSet) = some false)
    (sb_1_3 : PySem.W.subIn K (.ref c_Twin) (.ref c_NoNumber) = some false)
    (sb_1_4 : PySem.W.subIn K (.ref c_Twin) (.ref c_NoCode) = some false)
    (sb_1_5 : PySem.W.subIn K (.ref c_Twin) (.ref c_NoRoom) = some false)
    (sb_1_6 : PySem.W.subIn K (.ref c_Twin) (.ref c_Standing) = some false)
    (sb_1_7 : PySem.W.subIn K (.ref c_Twin) (.ref c_Full) = some false)
    (sb_1_8 : PySem.W.subIn K (.ref c_Twin) (.ref c_NoName) = some false)
    (sb_1_9 : PySem.W.subIn K (.ref c_Twin) (.ref c_NoHolder) = some false)
    (sb_1_10 : PySem.W.subIn K (.ref c_Twin) (.ref c_NoBlock) = some false)
    (sb_1_11 : PySem.W.subIn K (.ref c_Twin) (.ref c_NoText) = some false)
    (sb_1_L : PySem.W.subIn K (.ref c_Twin) (.ref c_L) = some true)
    (sb_1_V : PySem.W.subIn K (.ref c_Twin) (.type "ValueError") = some true)
    (sb_2_0 : PySem.W.subIn K (.ref c_NoSet) (.ref c_Empty) = some false)
    (sb_2_1 : PySem.W.subIn K (.ref c_NoSet) (.ref c_Twin) = some false)
    (sb_2_2 : PySem.W.subIn K (.ref c_NoSet) (.ref c_NoSet) = some true)
    (sb_2_3 : PySem.W.subIn K (.ref c_NoSet) (.ref c_NoNumber) = some false)
    (sb_2_4 : PySem.W.subIn K (.ref c_NoSet) (.ref c_NoCode) = some false)
    (sb_2_5 : PySem.W.subIn K (.ref c_NoSet) (.ref c_NoRoom) = some false)
    (sb_2_6 : PySem.W.subIn K (.ref c_NoSet) (.ref c_Standing) = some false)
    (sb_2_7 : PySem.W.subIn K (.ref c_NoSet) (.ref c_Full) = some false)
    (sb_2_8 : PySem.W.subIn K (.ref c_NoSet) (.ref c_NoName) = some false)
    (sb_2_9 : PySem.W.subIn K (.ref c_NoSet) (.ref c_NoHolder) = some false)
    (sb_2_10 : PySem.W.subIn K (.ref c_NoSet) (.ref c_NoBlock) = some false)
    (sb_2_11 : PySem.W.subIn K (.ref c_NoSet) (.ref c_NoText) = some false)
    (sb_2_L : PySem.W.subIn K (.ref c_NoSet) (.ref c_L) = some true)
    (sb_2_V : PySem.W.subIn K (.ref c_NoSet) (.type "ValueError") = some true)
    (sb_3_0 : PySem.W.subIn K (.ref c_NoNumber) (.ref c_Empty) = some false)
    (sb_3_1 : PySem.W.subIn K (.ref c_NoNumber) (.ref c_Twin) = some false)
    (sb_3_2 : PySem.W.subIn K (.ref c_NoNumber) (.ref c_NoSet) = some false)
    (sb_3_3 : PySem.W.subIn K (.ref c_NoNumber) (.ref c_NoNumber) = some true)
    (sb_3_4 : PySem.W.subIn K (.ref c_NoNumber) (.ref c_NoCode) = some false)
    (sb_3_5 : PySem.W.subIn K (.ref c_NoNumber) (.ref c_NoRoom) = some false)
    (sb_3_6 : PySem.W.subIn K (.ref c_NoNumber) (.ref c_Standing) = some false)
    (sb_3_7 : PySem.W.subIn K (.ref c_NoNumber) (.ref c_Full) = some false)
    (sb_3_8 : PySem.W.subIn K (.ref c_NoNumber) (.ref c_NoName) = some false)
    (sb_3_9 : PySem.W.subIn K (.ref c_NoNumber) (.ref c_NoHolder) = some false)
    (sb_3_10 : PySem.W.subIn K (.ref c_NoNumber) (.ref c_NoBlock) = some false)
    (sb_3_11 : PySem.W.subIn K (.ref c_NoNumber) (.ref c_NoText) = some false)
    (sb_3_L : PySem.W.subIn K (.ref c_NoNumber) (.ref c_L) = some true)
    (sb_3_V : PySem.W.subIn K (.ref c_NoNumber) (.type "ValueError") = some true)
    (sb_4_0 : PySem.W.subIn K (.ref c_NoCode) (.ref c_Empty) = some false)
    (sb_4_1 : PySem.W.subIn K (.ref c_NoCode) (.ref c_Twin) = some false)
    (sb_4_2 : PySem.W.subIn K (.ref c_NoCode) (.ref c_NoSet) = some false)
    (sb_4_3 : PySem.W.subIn K (.ref c_NoCode) (.ref c_NoNumber) = some false)
    (sb_4_4 : PySem.W.subIn K (.ref c_NoCode) (.ref c_NoCode) = some true)
    (sb_4_5 : PySem.W.subIn K (.ref c_NoCode) (.ref c_NoRoom) = some false)
    (sb_4_6 : PySem.W.subIn K (.ref c_NoCode) (.ref c_Standing) = some false)
    (sb_4_7 : PySem.W.subIn K (.ref c_NoCode) (.ref c_Full) = some false)
    (sb_4_8 : PySem.W.subIn K (.ref c_NoCode) (.ref c_NoName) = some false)
    (sb_4_9 : PySem.W.subIn K (.ref c_NoCode) (.ref c_NoHolder) = some false)
    (sb_4_10 : PySem.W.subIn K (.ref c_NoCode) (.ref c_NoBlock) = some false)
    (sb_4_11 : PySem.W.subIn K (.ref c_NoCode) (.ref c_NoText) = some false)
    (sb_4_L : PySem.W.subIn K (.ref c_NoCode) (.ref c_L) = some true)
    (sb_4_V : PySem.W.subIn K (.ref c_NoCode) (.type "ValueError") = some true)
    (sb_5_0 : PySem.W.subIn K (.ref c_NoRoom) (.ref c_Empty) = some false)
    (sb_5_1 : PySem.W.subIn K (.ref c_NoRoom) (.ref c_Twin) = some false)
    (sb_5_2 : PySem.W.subIn K (.ref c_NoRoom) (.ref c_NoSet) = some false)
    (sb_5_3 : PySem.W.subIn K (.ref c_NoRoom) (.ref c_NoNumber) = some false)
    (sb_5_4 : PySem.W.subIn K (.ref c_NoRoom) (.ref c_NoCode) = some false)
    (sb_5_5 : PySem.W.subIn K (.ref c_NoRoom) (.ref c_NoRoom) = some true)
    (sb_5_6 : PySem.W.subIn K (.ref c_NoRoom) (.ref c_Standing) = some false)
    (sb_5_7 : PySem.W.subIn K (.ref c_NoRoom) (.ref c_Full) = some false)
    (sb_5_8 : PySem.W.subIn K (.ref c_NoRoom) (.ref c_NoName) = some false)
    (sb_5_9 : PySem.W.subIn K (.ref c_NoRoom) (.ref c_NoHolder) = some false)
    (sb_5_10 : PySem.W.subIn K (.ref c_NoRoom) (.ref c_NoBlock) = some false)
    (sb_5_11 : PySem.W.subIn K (.ref c_NoRoom) (.ref c_NoText) = some false)
    (sb_5_L : PySem.W.subIn K (.ref c_NoRoom) (.ref c_L) = some true)
    (sb_5_V : PySem.W.subIn K (.ref c_NoRoom) (.type "ValueError") = some true)
    (sb_6_0 : PySem.W.subIn K (.ref c_Standing) (.ref c_Empty) = some false)
    (sb_6_1 : PySem.W.subIn K (.ref c_Standing) (.ref c_Twin) = some false)
    (sb_6_2 : PySem.W.subIn K (.ref c_Standing) (.ref c_NoSet) = some false)
    (sb_6_3 : PySem.W.subIn K (.ref c_Standing) (.ref c_NoNumber) = some false)
    (sb_6_4 : PySem.W.subIn K (.ref c_Standing) (.ref c_NoCode) = some false)
    (sb_6_5 : PySem.W.subIn K (.ref c_Standing) (.ref c_NoRoom) = some false)
    (sb_6_6 : PySem.W.subIn K (.ref c_Standing) (.ref c_Standing) = some true)
    (sb_6_7 : PySem.W.subIn K (.ref c_Standing) (.ref c_Full) = some false)
    (sb_6_8 : PySem.W.subIn K (.ref c_Standing) (.ref c_NoName) = some false)
    (sb_6_9 : PySem.W.subIn K (.ref c_Standing) (.ref c_NoHolder) = some false)
    (sb_6_10 : PySem.W.subIn K (.ref c_Standing) (.ref c_NoBlock) = some false)
    (sb_6_11 : PySem.W.subIn K (.ref c_Standing) (.ref c_NoText) = some false)
    (sb_6_L : PySem.W.subIn K (.ref c_Standing) (.ref c_L) = some true)
    (sb_6_V : PySem.W.subIn K (.ref c_Standing) (.type "ValueError") = some true)
    (sb_7_0 : PySem.W.subIn K (.ref c_Full) (.ref c_Empty) = some false)
    (sb_7_1 : PySem.W.subIn K (.ref c_Full) (.ref c_Twin) = some false)
    (sb_7_2 : PySem.W.subIn K (.ref c_Full) (.ref c_NoSet) = some false)
    (sb_7_3 : PySem.W.subIn K (.ref c_Full) (.ref c_NoNumber) = some false)
    (sb_7_4 : PySem.W.subIn K (.ref c_Full) (.ref c_NoCode) = some false)
    (sb_7_5 : PySem.W.subIn K (.ref c_Full) (.ref c_NoRoom) = some false)
    (sb_7_6 : PySem.W.subIn K (.ref c_Full) (.ref c_Standing) = some false)
    (sb_7_7 : PySem.W.subIn K (.ref c_Full) (.ref c_Full) = some true)
    (sb_7_8 : PySem.W.subIn K (.ref c_Full) (.ref c_NoName) = some false)
    (sb_7_9 : PySem.W.subIn K (.ref c_Full) (.ref c_NoHolder) = some false)
    (sb_7_10 : PySem.W.subIn K (.ref c_Full) (.ref c_NoBlock) = some false)
    (sb_7_11 : PySem.W.subIn K (.ref c_Full) (.ref c_NoText) = some false)
    (sb_7_L : PySem.W.subIn K (.ref c_Full) (.ref c_L) = some true)
    (sb_7_V : PySem.W.subIn K (.ref c_Full) (.type "ValueError") = some true)
    (sb_8_0 : PySem.W.subIn K (.ref c_NoName) (.ref c_Empty) = some false)
    (sb_8_1 : PySem.W.subIn K (.ref c_NoName) (.ref c_Twin) = some false)
    (sb_8_2 : PySem.W.subIn K (.ref c_NoName) (.ref c_NoSet) = some false)
    (sb_8_3 : PySem.W.subIn K (.ref c_NoName) (.ref c_NoNumber) = some false)
    (sb_8_4 : PySem.W.subIn K (.ref c_NoName) (.ref c_NoCode) = some false)
    (sb_8_5 : PySem.W.subIn K (.ref c_NoName) (.ref c_NoRoom) = some false)
    (sb_8_6 : PySem.W.subIn K (.ref c_NoName) (.ref c_Standing) = some false)
    (sb_8_7 : PySem.W.subIn K (.ref c_NoName) (.ref c_Full) = some false)
    (sb_8_8 : PySem.W.subIn K (.ref c_NoName) (.ref c_NoName) = some true)
    (sb_8_9 : PySem.W.subIn K (.ref c_NoName) (.ref c_NoHolder) = some false)
    (sb_8_10 : PySem.W.subIn K (.ref c_NoName) (.ref c_NoBlock) = some false)
    (sb_8_11 : PySem.W.subIn K (.ref c_NoName) (.ref c_NoText) = some false)
    (sb_8_L : PySem.W.subIn K (.ref c_NoName) (.ref c_L) = some true)
    (sb_8_V : PySem.W.subIn K (.ref c_NoName) (.type "ValueError") = some true)
    (sb_9_0 : PySem.W.subIn K (.ref c_NoHolder) (.ref c_Empty) = some false)
    (sb_9_1 : PySem.W.subIn K (.ref c_NoHolder) (.ref c_Twin) = some false)
    (sb_9_2 : PySem.W.subIn K (.ref c_NoHolder) (.ref c_NoSet) = some false)
    (sb_9_3 : PySem.W.subIn K (.ref c_NoHolder) (.ref c_NoNumber) = some false)
    (sb_9_4 : PySem.W.subIn K (.ref c_NoHolder) (.ref c_NoCode) = some false)
    (sb_9_5 : PySem.W.subIn K (.ref c_NoHolder) (.ref c_NoRoom) = some false)
    (sb_9_6 : PySem.W.subIn K (.ref c_NoHolder) (.ref c_Standing) = some false)
    (sb_9_7 : PySem.W.subIn K (.ref c_NoHolder) (.ref c_Full) = some false)
    (sb_9_8 : PySem.W.subIn K (.ref c_NoHolder) (.ref c_NoName) = some false)
    (sb_9_9 : PySem.W.subIn K (.ref c_NoHolder) (.ref c_NoHolder) = some true)
    (sb_9_10 : PySem.W.subIn K (.ref c_NoHolder) (.ref c_NoBlock) = some false)
    (sb_9_11 : PySem.W.subIn K (.ref c_NoHolder) (.ref c_NoText) = some false)
    (sb_9_L : PySem.W.subIn K (.ref c_NoHolder) (.ref c_L) = some true)
    (sb_9_V : PySem.W.subIn K (.ref c_NoHolder) (.type "ValueError") = some true)
    (sb_10_0 : PySem.W.subIn K (.ref c_NoBlock) (.ref c_Empty) = some false)
    (sb_10_1 : PySem.W.subIn K (.ref c_NoBlock) (.ref c_Twin) = some false)
    (sb_10_2 : PySem.W.subIn K (.ref c_NoBlock) (.ref c_NoSet) = some false)
    (sb_10_3 : PySem.W.subIn K (.ref c_NoBlock) (.ref c_NoNumber) = some false)
    (sb_10_4 : PySem.W.subIn K (.ref c_NoBlock) (.ref c_NoCode) = some false)
    (sb_10_5 : PySem.W.subIn K (.ref c_NoBlock) (.ref c_NoRoom) = some false)
    (sb_10_6 : PySem.W.subIn K (.ref c_NoBlock) (.ref c_Standing) = some false)
    (sb_10_7 : PySem.W.subIn K (.ref c_NoBlock) (.ref c_Full) = some false)
    (sb_10_8 : PySem.W.subIn K (.ref c_NoBlock) (.ref c_NoName) = some false)
    (sb_10_9 : PySem.W.subIn K (.ref c_NoBlock) (.ref c_NoHolder) = some false)
    (sb_10_10 : PySem.W.subIn K (.ref c_NoBlock) (.ref c_NoBlock) = some true)
    (sb_10_11 : PySem.W.subIn K (.ref c_NoBlock) (.ref c_NoText) = some false)
    (sb_10_L : PySem.W.subIn K (.ref c_NoBlock) (.ref c_L) = some true)
    (sb_10_V : PySem.W.subIn K (.ref c_NoBlock) (.type "ValueError") = some true)
    (sb_11_0 : PySem.W.subIn K (.ref c_NoText) (.ref c_Empty) = some false)
    (sb_11_1 : PySem.W.subIn K (.ref c_NoText) (.ref c_Twin) = some false)
    (sb_11_2 : PySem.W.subIn K (.ref c_NoText) (.ref c_NoSet) = some false)
    (sb_11_3 : PySem.W.subIn K (.ref c_NoText) (.ref c_NoNumber) = some false)
    (sb_11_4 : PySem.W.subIn K (.ref c_NoText) (.ref c_NoCode) = some false)
    (sb_11_5 : PySem.W.subIn K (.ref c_NoText) (.ref c_NoRoom) = some false)
    (sb_11_6 : PySem.W.subIn K (.ref c_NoText) (.ref c_Standing) = some false)
    (sb_11_7 : PySem.W.subIn K (.ref c_NoText) (.ref c_Full) = some false)
    (sb_11_8 : PySem.W.subIn K (.ref c_NoText) (.ref c_NoName) = some false)
    (sb_11_9 : PySem.W.subIn K (.ref c_NoText) (.ref c_NoHolder) = some false)
    (sb_11_10 : PySem.W.subIn K (.ref c_NoText) (.ref c_NoBlock) = some false)
    (sb_11_11 : PySem.W.subIn K (.ref c_NoText) (.ref c_NoText) = some true)
    (sb_11_L : PySem.W.subIn K (.ref c_NoText) (.ref c_L) = some true)
    (sb_11_V : PySem.W.subIn K (.ref c_NoText) (.type "ValueError") = some true)
    : ∃ fd : FuncData, (∀ (s : Shared) (u : Value), BindsTo s fd ⟨[u], []⟩ [("script", u)]) ∧ ∀ base : Heap, K.In base → base.Ns mainGlobals mg → FnOk P w K mg base CX0 23 fa fd ["script"] (spLaw K) := by
  obtain ⟨Y, T, rfl, hb⟩ := all_mk KX G hfa a_l_open l_l_open c_l_open k_l_open a_l_spread l_l_spread c_l_spread k_l_spread a_l_take l_l_take c_l_take k_l_take a_l_same l_l_same c_l_same k_l_same a_l_kinds l_l_kinds c_l_kinds k_l_kinds a_p_law l_p_law c_p_law k_p_law z_ValueError z_bool z_enumerate z_int z_isinstance z_len z_list z_range z_str z_tuple z_zip gL gaL rdL vL iL tL hn ht gc_Empty x1_Empty x2_Empty x3_Empty x4_Empty x5_Empty x6_Empty kc_Empty ty_Empty is_Empty xo_Empty rv_Empty sa_Empty ic_Empty ti_Empty li_Empty ci_Empty ki_Empty nf_Empty_block nf_Empty_row gc_Twin x1_Twin x2_Twin x3_Twin x4_Twin x5_Twin x6_Twin kc_Twin ty_Twin is_Twin xo_Twin rv_Twin sa_Twin ic_Twin ti_Twin li_Twin ci_Twin ki_Twin nf_Twin_block nf_Twin_row gc_NoSet x1_NoSet x2_NoSet x3_NoSet x4_NoSet x5_NoSet x6_NoSet kc_NoSet ty_NoSet is_NoSet ex_NoSet gc_NoNumber x1_NoNumber x2_NoNumber x3_NoNumber x4_NoNumber x5_NoNumber x6_NoNumber kc_NoNumber ty_NoNumber is_NoNumber xo_NoNumber rv_NoNumber sa_NoNumber ic_NoNumber ti_NoNumber li_NoNumber ci_NoNumber ki_NoNumber nf_NoNumber_count gc_NoCode x1_NoCode x2_NoCode x3_NoCode x4_NoCode x5_NoCode x6_NoCode kc_NoCode ty_NoCode is_NoCode ex_NoCode gc_NoRoom x1_NoRoom x2_NoRoom x3_NoRoom x4_NoRoom x5_NoRoom x6_NoRoom kc_NoRoom ty_NoRoom is_NoRoom xo_NoRoom rv_NoRoom sa_NoRoom ic_NoRoom ti_NoRoom li_NoRoom ci_NoRoom ki_NoRoom nf_NoRoom_room gc_Standing x1_Standing x2_Standing x3_Standing x4_Standing x5_Standing x6_Standing kc_Standing ty_Standing is_Standing xo_Standing rv_Standing sa_Standing ic_Standing ti_Standing li_Standing ci_Standing ki_Standing nf_Standing_name gc_Full x1_Full x2_Full x3_Full x4_Full x5_Full x6_Full kc_Full ty_Full is_Full xo_Full rv_Full sa_Full ic_Full ti_Full li_Full ci_Full ki_Full nf_Full_most gc_NoName x1_NoName x2_NoName x3_NoName x4_NoName x5_NoName x6_NoName kc_NoName ty_NoName is_NoName xo_NoName rv_NoName sa_NoName ic_NoName ti_NoName li_NoName ci_NoName ki_NoName nf_NoName_name gc_NoHolder x1_NoHolder x2_NoHolder x3_NoHolder x4_NoHolder x5_NoHolder x6_NoHolder kc_NoHolder ty_NoHolder is_NoHolder xo_NoHolder rv_NoHolder sa_NoHolder ic_NoHolder ti_NoHolder li_NoHolder ci_NoHolder ki_NoHolder nf_NoHolder_holder gc_NoBlock x1_NoBlock x2_NoBlock x3_NoBlock x4_NoBlock x5_NoBlock x6_NoBlock kc_NoBlock ty_NoBlock is_NoBlock ex_NoBlock gc_NoText x1_NoText x2_NoText x3_NoText x4_NoText x5_NoText x6_NoText kc_NoText ty_NoText is_NoText ex_NoText sb_0_0 sb_0_1 sb_0_2 sb_0_3 sb_0_4 sb_0_5 sb_0_6 sb_0_7 sb_0_8 sb_0_9 sb_0_10 sb_0_11 sb_0_L sb_0_V sb_1_0 sb_1_1 sb_1_2 sb_1_3 sb_1_4 sb_1_5 sb_1_6 sb_1_7 sb_1_8 sb_1_9 sb_1_10 sb_1_11 sb_1_L sb_1_V sb_2_0 sb_2_1 sb_2_2 sb_2_3 sb_2_4 sb_2_5 sb_2_6 sb_2_7 sb_2_8 sb_2_9 sb_2_10 sb_2_11 sb_2_L sb_2_V sb_3_0 sb_3_1 sb_3_2 sb_3_3 sb_3_4 sb_3_5 sb_3_6 sb_3_7 sb_3_8 sb_3_9 sb_3_10 sb_3_11 sb_3_L sb_3_V sb_4_0 sb_4_1 sb_4_2 sb_4_3 sb_4_4 sb_4_5 sb_4_6 sb_4_7 sb_4_8 sb_4_9 sb_4_10 sb_4_11 sb_4_L sb_4_V sb_5_0 sb_5_1 sb_5_2 sb_5_3 sb_5_4 sb_5_5 sb_5_6 sb_5_7 sb_5_8 sb_5_9 sb_5_10 sb_5_11 sb_5_L sb_5_V sb_6_0 sb_6_1 sb_6_2 sb_6_3 sb_6_4 sb_6_5 sb_6_6 sb_6_7 sb_6_8 sb_6_9 sb_6_10 sb_6_11 sb_6_L sb_6_V sb_7_0 sb_7_1 sb_7_2 sb_7_3 sb_7_4 sb_7_5 sb_7_6 sb_7_7 sb_7_8 sb_7_9 sb_7_10 sb_7_11 sb_7_L sb_7_V sb_8_0 sb_8_1 sb_8_2 sb_8_3 sb_8_4 sb_8_5 sb_8_6 sb_8_7 sb_8_8 sb_8_9 sb_8_10 sb_8_11 sb_8_L sb_8_V sb_9_0 sb_9_1 sb_9_2 sb_9_3 sb_9_4 sb_9_5 sb_9_6 sb_9_7 sb_9_8 sb_9_9 sb_9_10 sb_9_11 sb_9_L sb_9_V sb_10_0 sb_10_1 sb_10_2 sb_10_3 sb_10_4 sb_10_5 sb_10_6 sb_10_7 sb_10_8 sb_10_9 sb_10_10 sb_10_11 sb_10_L sb_10_V sb_11_0 sb_11_1 sb_11_2 sb_11_3 sb_11_4 sb_11_5 sb_11_6 sb_11_7 sb_11_8 sb_11_9 sb_11_10 sb_11_11 sb_11_L sb_11_V
  exact ⟨Y.d_p_law, hb, fun base KB nb => law_fn T⟩
end G
open PySem PySem.W PyProof.Rows in
set_option maxRecDepth 100000 in
set_option maxHeartbeats 0 in
theorem PySem.Challenge.cw_codelots_k08_refusals_made_by_hand_holds : PySem.Challenge.rw_codelots_k08_refusals_made_by_hand.Holds := by
  w_on; o_law; k_head; (case hw => w_witness2)
  k_fill
  refine L2.walk_ofK (l := PySem.Challenge.rw_codelots_k08_refusals_made_by_hand) (n := 63) (k := 23) (x := "script") (CX := L2.CX0) (sp := G.spLaw) rfl (by decide) rfl ⟨rfl, by decide, by decide⟩ (fun w h Y => PySem.W.kIn_of Y) ?F (fun K H a ns hl hO hS => ⟨a, ns, rfl, hO, hS, hl, fun _ => rfl⟩) (fun _ _ _ _ z => z)
  case F =>
    intro w mg fa h KX Gm hmg
    refine' G.law_fin KX Gm hmg ?a_l_open ?l_l_open ?c_l_open ?k_l_open ?a_l_spread ?l_l_spread ?c_l_spread ?k_l_spread ?a_l_take ?l_l_take ?c_l_take ?k_l_take ?a_l_same ?l_l_same ?c_l_same ?k_l_same ?a_l_kinds ?l_l_kinds ?c_l_kinds ?k_l_kinds ?a_p_law ?l_p_law ?c_p_law ?k_p_law ?z_ValueError ?z_bool ?z_enumerate ?z_int ?z_isinstance ?z_len ?z_list ?z_range ?z_str ?z_tuple ?z_zip ?gL ?gaL ?rdL ?vL ?iL ?tL ?hn ?ht ?gc_Empty ?x1_Empty ?x2_Empty ?x3_Empty ?x4_Empty ?x5_Empty ?x6_Empty ?kc_Empty ?ty_Empty ?is_Empty ?xo_Empty ?rv_Empty ?sa_Empty ?ic_Empty ?ti_Empty ?li_Empty ?ci_Empty ?ki_Empty ?nf_Empty_block ?nf_Empty_row ?gc_Twin ?x1_Twin ?x2_Twin ?x3_Twin ?x4_Twin ?x5_Twin ?x6_Twin ?kc_Twin ?ty_Twin ?is_Twin ?xo_Twin ?rv_Twin ?sa_Twin ?ic_Twin ?ti_Twin ?li_Twin ?ci_Twin ?ki_Twin ?nf_Twin_block ?nf_Twin_row ?gc_NoSet ?x1_NoSet ?x2_NoSet ?x3_NoSet ?x4_NoSet ?x5_NoSet ?x6_NoSet ?kc_NoSet ?ty_NoSet ?is_NoSet ?ex_NoSet ?gc_NoNumber ?x1_NoNumber ?x2_NoNumber ?x3_NoNumber ?x4_NoNumber ?x5_NoNumber ?x6_NoNumber ?kc_NoNumber ?ty_NoNumber ?is_NoNumber ?xo_NoNumber ?rv_NoNumber ?sa_NoNumber ?ic_NoNumber ?ti_NoNumber ?li_NoNumber ?ci_NoNumber ?ki_NoNumber ?nf_NoNumber_count ?gc_NoCode ?x1_NoCode ?x2_NoCode ?x3_NoCode ?x4_NoCode ?x5_NoCode ?x6_NoCode ?kc_NoCode ?ty_NoCode ?is_NoCode ?ex_NoCode ?gc_NoRoom ?x1_NoRoom ?x2_NoRoom ?x3_NoRoom ?x4_NoRoom ?x5_NoRoom ?x6_NoRoom ?kc_NoRoom ?ty_NoRoom ?is_NoRoom ?xo_NoRoom ?rv_NoRoom ?sa_NoRoom ?ic_NoRoom ?ti_NoRoom ?li_NoRoom ?ci_NoRoom ?ki_NoRoom ?nf_NoRoom_room ?gc_Standing ?x1_Standing ?x2_Standing ?x3_Standing ?x4_Standing ?x5_Standing ?x6_Standing ?kc_Standing ?ty_Standing ?is_Standing ?xo_Standing ?rv_Standing ?sa_Standing ?ic_Standing ?ti_Standing ?li_Standing ?ci_Standing ?ki_Standing ?nf_Standing_name ?gc_Full ?x1_Full ?x2_Full ?x3_Full ?x4_Full ?x5_Full ?x6_Full ?kc_Full ?ty_Full ?is_Full ?xo_Full ?rv_Full ?sa_Full ?ic_Full ?ti_Full ?li_Full ?ci_Full ?ki_Full ?nf_Full_most ?gc_NoName ?x1_NoName ?x2_NoName ?x3_NoName ?x4_NoName ?x5_NoName ?x6_NoName ?kc_NoName ?ty_NoName ?is_NoName ?xo_NoName ?rv_NoName ?sa_NoName ?ic_NoName ?ti_NoName ?li_NoName ?ci_NoName ?ki_NoName ?nf_NoName_name ?gc_NoHolder ?x1_NoHolder ?x2_NoHolder ?x3_NoHolder ?x4_NoHolder ?x5_NoHolder ?x6_NoHolder ?kc_NoHolder ?ty_NoHolder ?is_NoHolder ?xo_NoHolder ?rv_NoHolder ?sa_NoHolder ?ic_NoHolder ?ti_NoHolder ?li_NoHolder ?ci_NoHolder ?ki_NoHolder ?nf_NoHolder_holder ?gc_NoBlock ?x1_NoBlock ?x2_NoBlock ?x3_NoBlock ?x4_NoBlock ?x5_NoBlock ?x6_NoBlock ?kc_NoBlock ?ty_NoBlock ?is_NoBlock ?ex_NoBlock ?gc_NoText ?x1_NoText ?x2_NoText ?x3_NoText ?x4_NoText ?x5_NoText ?x6_NoText ?kc_NoText ?ty_NoText ?is_NoText ?ex_NoText ?sb_0_0 ?sb_0_1 ?sb_0_2 ?sb_0_3 ?sb_0_4 ?sb_0_5 ?sb_0_6 ?sb_0_7 ?sb_0_8 ?sb_0_9 ?sb_0_10 ?sb_0_11 ?sb_0_L ?sb_0_V ?sb_1_0 ?sb_1_1 ?sb_1_2 ?sb_1_3 ?sb_1_4 ?sb_1_5 ?sb_1_6 ?sb_1_7 ?sb_1_8 ?sb_1_9 ?sb_1_10 ?sb_1_11 ?sb_1_L ?sb_1_V ?sb_2_0 ?sb_2_1 ?sb_2_2 ?sb_2_3 ?sb_2_4 ?sb_2_5 ?sb_2_6 ?sb_2_7 ?sb_2_8 ?sb_2_9 ?sb_2_10 ?sb_2_11 ?sb_2_L ?sb_2_V ?sb_3_0 ?sb_3_1 ?sb_3_2 ?sb_3_3 ?sb_3_4 ?sb_3_5 ?sb_3_6 ?sb_3_7 ?sb_3_8 ?sb_3_9 ?sb_3_10 ?sb_3_11 ?sb_3_L ?sb_3_V ?sb_4_0 ?sb_4_1 ?sb_4_2 ?sb_4_3 ?sb_4_4 ?sb_4_5 ?sb_4_6 ?sb_4_7 ?sb_4_8 ?sb_4_9 ?sb_4_10 ?sb_4_11 ?sb_4_L ?sb_4_V ?sb_5_0 ?sb_5_1 ?sb_5_2 ?sb_5_3 ?sb_5_4 ?sb_5_5 ?sb_5_6 ?sb_5_7 ?sb_5_8 ?sb_5_9 ?sb_5_10 ?sb_5_11 ?sb_5_L ?sb_5_V ?sb_6_0 ?sb_6_1 ?sb_6_2 ?sb_6_3 ?sb_6_4 ?sb_6_5 ?sb_6_6 ?sb_6_7 ?sb_6_8 ?sb_6_9 ?sb_6_10 ?sb_6_11 ?sb_6_L ?sb_6_V ?sb_7_0 ?sb_7_1 ?sb_7_2 ?sb_7_3 ?sb_7_4 ?sb_7_5 ?sb_7_6 ?sb_7_7 ?sb_7_8 ?sb_7_9 ?sb_7_10 ?sb_7_11 ?sb_7_L ?sb_7_V ?sb_8_0 ?sb_8_1 ?sb_8_2 ?sb_8_3 ?sb_8_4 ?sb_8_5 ?sb_8_6 ?sb_8_7 ?sb_8_8 ?sb_8_9 ?sb_8_10 ?sb_8_11 ?sb_8_L ?sb_8_V ?sb_9_0 ?sb_9_1 ?sb_9_2 ?sb_9_3 ?sb_9_4 ?sb_9_5 ?sb_9_6 ?sb_9_7 ?sb_9_8 ?sb_9_9 ?sb_9_10 ?sb_9_11 ?sb_9_L ?sb_9_V ?sb_10_0 ?sb_10_1 ?sb_10_2 ?sb_10_3 ?sb_10_4 ?sb_10_5 ?sb_10_6 ?sb_10_7 ?sb_10_8 ?sb_10_9 ?sb_10_10 ?sb_10_11 ?sb_10_L ?sb_10_V ?sb_11_0 ?sb_11_1 ?sb_11_2 ?sb_11_3 ?sb_11_4 ?sb_11_5 ?sb_11_6 ?sb_11_7 ?sb_11_8 ?sb_11_9 ?sb_11_10 ?sb_11_11 ?sb_11_L ?sb_11_V
    (case a_l_open => k_is)
    (case l_l_open => k_is)
    (case c_l_open => k_is)
    (case k_l_open => k_is)
    (case a_l_spread => k_is)
    (case l_l_spread => k_is)
    (case c_l_spread => k_is)
    (case k_l_spread => k_is)
    (case a_l_take => k_is)
    (case l_l_take => k_is)
    (case c_l_take => k_is)
    (case k_l_take => k_is)
    (case a_l_same => k_is)
    (case l_l_same => k_is)
    (case c_l_same => k_is)
    (case k_l_same => k_is)
    (case a_l_kinds => k_is)
    (case l_l_kinds => k_is)
    (case c_l_kinds => k_is)
    (case k_l_kinds => k_is)
    (case a_p_law => k_is)
    (case l_p_law => k_is)
    (case c_p_law => k_is)
    (case k_p_law => k_is)
    (case z_ValueError => k_is)
    (case z_bool => k_is)
    (case z_enumerate => k_is)
    (case z_int => k_is)
    (case z_isinstance => k_is)
    (case z_len => k_is)
    (case z_list => k_is)
    (case z_range => k_is)
    (case z_str => k_is)
    (case z_tuple => k_is)
    (case z_zip => k_is)
    (case gL => k_is)
    (case gaL => k_is)
    (case rdL => k_is)
    (case vL => k_is)
    (case iL => k_is)
    (case tL => k_is)
    (case hn => k_is)
    (case ht => k_is)
    (case gc_Empty => k_is)
    (case x1_Empty => k_is)
    (case x2_Empty => k_is)
    (case x3_Empty => k_is)
    (case x4_Empty => k_is)
    (case x5_Empty => k_is)
    (case x6_Empty => k_is)
    (case kc_Empty => k_is)
    (case ty_Empty => k_is)
    (case is_Empty => k_is)
    (case xo_Empty => k_is)
    (case rv_Empty => decide +kernel)
    (case sa_Empty => k_is)
    (case ic_Empty => k_is)
    (case ti_Empty => k_is)
    (case li_Empty => k_is)
    (case ci_Empty => k_is)
    (case ki_Empty => k_is)
    (case nf_Empty_block => k_is)
    (case nf_Empty_row => k_is)
    (case gc_Twin => k_is)
    (case x1_Twin => k_is)
    (case x2_Twin => k_is)
    (case x3_Twin => k_is)
    (case x4_Twin => k_is)
    (case x5_Twin => k_is)
    (case x6_Twin => k_is)
    (case kc_Twin => k_is)
    (case ty_Twin => k_is)
    (case is_Twin => k_is)
    (case xo_Twin => k_is)
    (case rv_Twin => decide +kernel)
    (case sa_Twin => k_is)
    (case ic_Twin => k_is)
    (case ti_Twin => k_is)
    (case li_Twin => k_is)
    (case ci_Twin => k_is)
    (case ki_Twin => k_is)
    (case nf_Twin_block => k_is)
    (case nf_Twin_row => k_is)
    (case gc_NoSet => k_is)
    (case x1_NoSet => k_is)
    (case x2_NoSet => k_is)
    (case x3_NoSet => k_is)
    (case x4_NoSet => k_is)
    (case x5_NoSet => k_is)
    (case x6_NoSet => k_is)
    (case kc_NoSet => k_is)
    (case ty_NoSet => k_is)
    (case is_NoSet => k_is)
    (case ex_NoSet => k_exc)
    (case gc_NoNumber => k_is)
    (case x1_NoNumber => k_is)
    (case x2_NoNumber => k_is)
    (case x3_NoNumber => k_is)
    (case x4_NoNumber => k_is)
    (case x5_NoNumber => k_is)
    (case x6_NoNumber => k_is)
    (case kc_NoNumber => k_is)
    (case ty_NoNumber => k_is)
    (case is_NoNumber => k_is)
    (case xo_NoNumber => k_is)
    (case rv_NoNumber => decide +kernel)
    (case sa_NoNumber => k_is)
    (case ic_NoNumber => k_is)
    (case ti_NoNumber => k_is)
    (case li_NoNumber => k_is)
    (case ci_NoNumber => k_is)
    (case ki_NoNumber => k_is)
    (case nf_NoNumber_count => k_is)
    (case gc_NoCode => k_is)
    (case x1_NoCode => k_is)
    (case x2_NoCode => k_is)
    (case x3_NoCode => k_is)
    (case x4_NoCode => k_is)
    (case x5_NoCode => k_is)
    (case x6_NoCode => k_is)
    (case kc_NoCode => k_is)
    (case ty_NoCode => k_is)
    (case is_NoCode => k_is)
    (case ex_NoCode => k_exc)
    (case gc_NoRoom => k_is)
    (case x1_NoRoom => k_is)
    (case x2_NoRoom => k_is)
    (case x3_NoRoom => k_is)
    (case x4_NoRoom => k_is)
    (case x5_NoRoom => k_is)
    (case x6_NoRoom => k_is)
    (case kc_NoRoom => k_is)
    (case ty_NoRoom => k_is)
    (case is_NoRoom => k_is)
    (case xo_NoRoom => k_is)
    (case rv_NoRoom => decide +kernel)
    (case sa_NoRoom => k_is)
    (case ic_NoRoom => k_is)
    (case ti_NoRoom => k_is)
    (case li_NoRoom => k_is)
    (case ci_NoRoom => k_is)
    (case ki_NoRoom => k_is)
    (case nf_NoRoom_room => k_is)
    (case gc_Standing => k_is)
    (case x1_Standing => k_is)
    (case x2_Standing => k_is)
    (case x3_Standing => k_is)
    (case x4_Standing => k_is)
    (case x5_Standing => k_is)
    (case x6_Standing => k_is)
    (case kc_Standing => k_is)
    (case ty_Standing => k_is)
    (case is_Standing => k_is)
    (case xo_Standing => k_is)
    (case rv_Standing => decide +kernel)
    (case sa_Standing => k_is)
    (case ic_Standing => k_is)
    (case ti_Standing => k_is)
    (case li_Standing => k_is)
    (case ci_Standing => k_is)
    (case ki_Standing => k_is)
    (case nf_Standing_name => k_is)
    (case gc_Full => k_is)
    (case x1_Full => k_is)
    (case x2_Full => k_is)
    (case x3_Full => k_is)
    (case x4_Full => k_is)
    (case x5_Full => k_is)
    (case x6_Full => k_is)
    (case kc_Full => k_is)
    (case ty_Full => k_is)
    (case is_Full => k_is)
    (case xo_Full => k_is)
    (case rv_Full => decide +kernel)
    (case sa_Full => k_is)
    (case ic_Full => k_is)
    (case ti_Full => k_is)
    (case li_Full => k_is)
    (case ci_Full => k_is)
    (case ki_Full => k_is)
    (case nf_Full_most => k_is)
    (case gc_NoName => k_is)
    (case x1_NoName => k_is)
    (case x2_NoName => k_is)
    (case x3_NoName => k_is)
    (case x4_NoName => k_is)
    (case x5_NoName => k_is)
    (case x6_NoName => k_is)
    (case kc_NoName => k_is)
    (case ty_NoName => k_is)
    (case is_NoName => k_is)
    (case xo_NoName => k_is)
    (case rv_NoName => decide +kernel)
    (case sa_NoName => k_is)
    (case ic_NoName => k_is)
    (case ti_NoName => k_is)
    (case li_NoName => k_is)
    (case ci_NoName => k_is)
    (case ki_NoName => k_is)
    (case nf_NoName_name => k_is)
    (case gc_NoHolder => k_is)
    (case x1_NoHolder => k_is)
    (case x2_NoHolder => k_is)
    (case x3_NoHolder => k_is)
    (case x4_NoHolder => k_is)
    (case x5_NoHolder => k_is)
    (case x6_NoHolder => k_is)
    (case kc_NoHolder => k_is)
    (case ty_NoHolder => k_is)
    (case is_NoHolder => k_is)
    (case xo_NoHolder => k_is)
    (case rv_NoHolder => decide +kernel)
    (case sa_NoHolder => k_is)
    (case ic_NoHolder => k_is)
    (case ti_NoHolder => k_is)
    (case li_NoHolder => k_is)
    (case ci_NoHolder => k_is)
    (case ki_NoHolder => k_is)
    (case nf_NoHolder_holder => k_is)
    (case gc_NoBlock => k_is)
    (case x1_NoBlock => k_is)
    (case x2_NoBlock => k_is)
    (case x3_NoBlock => k_is)
    (case x4_NoBlock => k_is)
    (case x5_NoBlock => k_is)
    (case x6_NoBlock => k_is)
    (case kc_NoBlock => k_is)
    (case ty_NoBlock => k_is)
    (case is_NoBlock => k_is)
    (case ex_NoBlock => k_exc)
    (case gc_NoText => k_is)
    (case x1_NoText => k_is)
    (case x2_NoText => k_is)
    (case x3_NoText => k_is)
    (case x4_NoText => k_is)
    (case x5_NoText => k_is)
    (case x6_NoText => k_is)
    (case kc_NoText => k_is)
    (case ty_NoText => k_is)
    (case is_NoText => k_is)
    (case ex_NoText => k_exc)
    (case sb_0_0 => k_is)
    (case sb_0_1 => k_is)
    (case sb_0_2 => k_is)
    (case sb_0_3 => k_is)
    (case sb_0_4 => k_is)
    (case sb_0_5 => k_is)
    (case sb_0_6 => k_is)
    (case sb_0_7 => k_is)
    (case sb_0_8 => k_is)
    (case sb_0_9 => k_is)
    (case sb_0_10 => k_is)
    (case sb_0_11 => k_is)
    (case sb_0_L => k_is)
    (case sb_0_V => k_is)
    (case sb_1_0 => k_is)
    (case sb_1_1 => k_is)
    (case sb_1_2 => k_is)
    (case sb_1_3 => k_is)
    (case sb_1_4 => k_is)
    (case sb_1_5 => k_is)
    (case sb_1_6 => k_is)
    (case sb_1_7 => k_is)
    (case sb_1_8 => k_is)
    (case sb_1_9 => k_is)
    (case sb_1_10 => k_is)
    (case sb_1_11 => k_is)
    (case sb_1_L => k_is)
    (case sb_1_V => k_is)
    (case sb_2_0 => k_is)
    (case sb_2_1 => k_is)
    (case sb_2_2 => k_is)
    (case sb_2_3 => k_is)
    (case sb_2_4 => k_is)
    (case sb_2_5 => k_is)
    (case sb_2_6 => k_is)
    (case sb_2_7 => k_is)
    (case sb_2_8 => k_is)
    (case sb_2_9 => k_is)
    (case sb_2_10 => k_is)
    (case sb_2_11 => k_is)
    (case sb_2_L => k_is)
    (case sb_2_V => k_is)
    (case sb_3_0 => k_is)
    (case sb_3_1 => k_is)
    (case sb_3_2 => k_is)
    (case sb_3_3 => k_is)
    (case sb_3_4 => k_is)
    (case sb_3_5 => k_is)
    (case sb_3_6 => k_is)
    (case sb_3_7 => k_is)
    (case sb_3_8 => k_is)
    (case sb_3_9 => k_is)
    (case sb_3_10 => k_is)
    (case sb_3_11 => k_is)
    (case sb_3_L => k_is)
    (case sb_3_V => k_is)
    (case sb_4_0 => k_is)
    (case sb_4_1 => k_is)
    (case sb_4_2 => k_is)
    (case sb_4_3 => k_is)
    (case sb_4_4 => k_is)
    (case sb_4_5 => k_is)
    (case sb_4_6 => k_is)
    (case sb_4_7 => k_is)
    (case sb_4_8 => k_is)
    (case sb_4_9 => k_is)
    (case sb_4_10 => k_is)
    (case sb_4_11 => k_is)
    (case sb_4_L => k_is)
    (case sb_4_V => k_is)
    (case sb_5_0 => k_is)
    (case sb_5_1 => k_is)
    (case sb_5_2 => k_is)
    (case sb_5_3 => k_is)
    (case sb_5_4 => k_is)
    (case sb_5_5 => k_is)
    (case sb_5_6 => k_is)
    (case sb_5_7 => k_is)
    (case sb_5_8 => k_is)
    (case sb_5_9 => k_is)
    (case sb_5_10 => k_is)
    (case sb_5_11 => k_is)
    (case sb_5_L => k_is)
    (case sb_5_V => k_is)
    (case sb_6_0 => k_is)
    (case sb_6_1 => k_is)
    (case sb_6_2 => k_is)
    (case sb_6_3 => k_is)
    (case sb_6_4 => k_is)
    (case sb_6_5 => k_is)
    (case sb_6_6 => k_is)
    (case sb_6_7 => k_is)
    (case sb_6_8 => k_is)
    (case sb_6_9 => k_is)
    (case sb_6_10 => k_is)
    (case sb_6_11 => k_is)
    (case sb_6_L => k_is)
    (case sb_6_V => k_is)
    (case sb_7_0 => k_is)
    (case sb_7_1 => k_is)
    (case sb_7_2 => k_is)
    (case sb_7_3 => k_is)
    (case sb_7_4 => k_is)
    (case sb_7_5 => k_is)
    (case sb_7_6 => k_is)
    (case sb_7_7 => k_is)
    (case sb_7_8 => k_is)
    (case sb_7_9 => k_is)
    (case sb_7_10 => k_is)
    (case sb_7_11 => k_is)
    (case sb_7_L => k_is)
    (case sb_7_V => k_is)
    (case sb_8_0 => k_is)
    (case sb_8_1 => k_is)
    (case sb_8_2 => k_is)
    (case sb_8_3 => k_is)
    (case sb_8_4 => k_is)
    (case sb_8_5 => k_is)
    (case sb_8_6 => k_is)
    (case sb_8_7 => k_is)
    (case sb_8_8 => k_is)
    (case sb_8_9 => k_is)
    (case sb_8_10 => k_is)
    (case sb_8_11 => k_is)
    (case sb_8_L => k_is)
    (case sb_8_V => k_is)
    (case sb_9_0 => k_is)
    (case sb_9_1 => k_is)
    (case sb_9_2 => k_is)
    (case sb_9_3 => k_is)
    (case sb_9_4 => k_is)
    (case sb_9_5 => k_is)
    (case sb_9_6 => k_is)
    (case sb_9_7 => k_is)
    (case sb_9_8 => k_is)
    (case sb_9_9 => k_is)
    (case sb_9_10 => k_is)
    (case sb_9_11 => k_is)
    (case sb_9_L => k_is)
    (case sb_9_V => k_is)
    (case sb_10_0 => k_is)
    (case sb_10_1 => k_is)
    (case sb_10_2 => k_is)
    (case sb_10_3 => k_is)
    (case sb_10_4 => k_is)
    (case sb_10_5 => k_is)
    (case sb_10_6 => k_is)
    (case sb_10_7 => k_is)
    (case sb_10_8 => k_is)
    (case sb_10_9 => k_is)
    (case sb_10_10 => k_is)
    (case sb_10_11 => k_is)
    (case sb_10_L => k_is)
    (case sb_10_V => k_is)
    (case sb_11_0 => k_is)
    (case sb_11_1 => k_is)
    (case sb_11_2 => k_is)
    (case sb_11_3 => k_is)
    (case sb_11_4 => k_is)
    (case sb_11_5 => k_is)
    (case sb_11_6 => k_is)
    (case sb_11_7 => k_is)
    (case sb_11_8 => k_is)
    (case sb_11_9 => k_is)
    (case sb_11_10 => k_is)
    (case sb_11_11 => k_is)
    (case sb_11_L => k_is)
    (case sb_11_V => k_is)
