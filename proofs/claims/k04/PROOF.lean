import PyProof.Rows.All
import Wide.All
import OpenK.AllK
import Wide.FinOn
import HandS.ForMost
import HandS.Walk
import HandS.TupAny
import HandS.Conv
import HandS.Deep
import HandS.SortInts
import HandS.IsInst
import HandS.SetKeys
import HandS.Wide
import KE.DataEq
import KE.SortData
import KE.LtData
import KE.KDictItemsList
import HandS.More
import HandS.StrMore
import HandS.Flow
import KE.GoesEnum
import PySem.Challenge.RW_nochaingains_k04_buys_and_sells
set_option Elab.async false
set_option linter.all false
set_option maxRecDepth 100000
set_option autoImplicit false
/-! AB: an abstract machine over the hand layer. Tuples are plain values (PyData); lists, dicts and sets stand in a ledger by their places. -/
namespace AB
open PySem L2
variable {K : PySem.W.Frag}

abbrev D := PyData

/-! ### plain data in the heap: tuples all the way down, and lists that are read alone (the script) -/
/-- a list that nobody changes: locked, or an object of the module -/
def SqF (K : PySem.W.Frag) (H : Hp) (a : Addr) (vs : List V) : Prop := (∃ o, H a = some (.frz o (.lst vs))) ∨
  ∃ (o : Obj) (its : Array Value) (n : Nat), K.lookup a = some o ∧ o.cls = .type "list" ∧ o.dict = none ∧ o.data = .seq its n ∧ its.size ≤ sizeLine ∧ Vals vs its.toList
theorem SqF.sq {K : PySem.W.Frag} {H : Hp} {a : Addr} {vs : List V} (h : SqF K H a vs) : SqL K H a vs := by
  rcases h with h | h
  · exact .inl (.inr h)
  · exact .inr h
mutual
def R (K : PySem.W.Frag) (H : Hp) : D → V → Prop
  | .none, v => v = .non
  | .bool b, v => v = .bl b
  | .int i, v => v = .int i
  | .str s, v => v = .str s
  | .tuple ds, v => ∃ a vs, v = .ref a ∧ H a = some (.tup vs) ∧ Rs K H ds vs
  | .list ds, v => ∃ a vs, v = .ref a ∧ SqF K H a vs ∧ Rs K H ds vs
  | .dict _, _ => False
def Rs (K : PySem.W.Frag) (H : Hp) : List D → List V → Prop
  | [], vs => vs = []
  | d :: ds, vs => ∃ v r, vs = v :: r ∧ R K H d v ∧ Rs K H ds r
end
/-- tuples and locked objects of H stand in H' -/
def Im (H H' : Hp) : Prop := (∀ a xs, H a = some (.tup xs) → H' a = some (.tup xs)) ∧ ∀ a o u, H a = some (.frz o u) → H' a = some (.frz o u)
theorem SqF.mono {K : PySem.W.Frag} {H H' : Hp} (im : Im H H') {a : Addr} {vs : List V} (h : SqF K H a vs) : SqF K H' a vs := by
  rcases h with ⟨o, h⟩ | h
  · exact .inl ⟨o, im.2 _ _ _ h⟩
  · exact .inr h
mutual
theorem R.mono {H H' : Hp} (im : Im H H') : ∀ (d : D) (v : V), R K H d v → R K H' d v
  | .none, _, h => h
  | .bool _, _, h => h
  | .int _, _, h => h
  | .str _, _, h => h
  | .tuple ds, v, h => by
    obtain ⟨a, vs, e, ha, hs⟩ := h
    exact ⟨a, vs, e, im.1 a vs ha, Rs.mono im ds vs hs⟩
  | .list ds, v, h => by
    obtain ⟨a, vs, e, ha, hs⟩ := h
    exact ⟨a, vs, e, ha.mono im, Rs.mono im ds vs hs⟩
  | .dict _, _, h => h.elim
theorem Rs.mono {H H' : Hp} (im : Im H H') : ∀ (ds : List D) (vs : List V), Rs K H ds vs → Rs K H' ds vs
  | [], _, h => h
  | d :: ds, vs, h => by
    obtain ⟨v, r, e, h1, h2⟩ := h
    exact ⟨v, r, e, R.mono im d v h1, Rs.mono im ds r h2⟩
end
theorem Rs.len {H : Hp} : ∀ {ds : List D} {vs : List V}, Rs K H ds vs → vs.length = ds.length
  | [], _, h => by rw [show _ = [] from h]; rfl
  | d :: ds, vs, h => by
    obtain ⟨v, r, e, h1, h2⟩ := h
    subst e
    rw [List.length_cons, List.length_cons, Rs.len h2]
theorem Rs.get {H : Hp} : ∀ {ds : List D} {vs : List V} {i : Nat} {v : V}, Rs K H ds vs → vs[i]? = some v → ∃ d, ds[i]? = some d ∧ R K H d v
  | [], _, i, v, h, e => by rw [show _ = [] from h] at e; simp at e
  | d :: ds, _, 0, v, h, e => by
    obtain ⟨w, r, e1, h1, h2⟩ := h
    subst e1
    simp at e
    subst e
    exact ⟨d, rfl, h1⟩
  | d :: ds, _, i + 1, v, h, e => by
    obtain ⟨w, r, e1, h1, h2⟩ := h
    subst e1
    simp at e
    obtain ⟨d', q1, q2⟩ := Rs.get h2 e
    exact ⟨d', by simpa using q1, q2⟩
theorem Rs.getD {H : Hp} {ds : List D} {vs : List V} {i : Nat} {d : D} (h : Rs K H ds vs) (e : ds[i]? = some d) : ∃ v, vs[i]? = some v ∧ R K H d v := by
  have hl := h.len
  have hi : i < ds.length := (List.getElem?_eq_some_iff.mp e).1
  have hv : vs[i]? = some (vs[i]'(by omega)) := List.getElem?_eq_getElem (by omega)
  obtain ⟨d', q1, q2⟩ := h.get hv
  rw [e] at q1
  cases q1
  exact ⟨_, hv, q2⟩
theorem Rs.append {H : Hp} : ∀ {ds es : List D} {vs ws : List V}, Rs K H ds vs → Rs K H es ws → Rs K H (ds ++ es) (vs ++ ws)
  | [], _, _, _, h, k => by rw [show _ = [] from h]; exact k
  | d :: ds, es, _, ws, h, k => by
    obtain ⟨v, r, e, h1, h2⟩ := h
    subst e
    exact ⟨v, r ++ ws, rfl, h1, Rs.append h2 k⟩
theorem Rs.one {H : Hp} {d : D} {v : V} (h : R K H d v) : Rs K H [d] [v] := ⟨v, [], rfl, h, rfl⟩
theorem Rs.snoc {H : Hp} {ds : List D} {vs : List V} {d : D} {v : V} (h : Rs K H ds vs) (k : R K H d v) : Rs K H (ds ++ [d]) (vs ++ [v]) := h.append (.one k)
theorem Rs.take {H : Hp} : ∀ {ds : List D} {vs : List V} (n : Nat), Rs K H ds vs → Rs K H (ds.take n) (vs.take n)
  | _, _, 0, _ => by simp [Rs]
  | [], _, n + 1, h => by rw [show _ = [] from h]; simp [Rs]
  | d :: ds, _, n + 1, h => by
    obtain ⟨v, r, e, h1, h2⟩ := h
    subst e
    exact ⟨v, r.take n, by simp, h1, Rs.take n h2⟩
theorem Rs.drop {H : Hp} : ∀ {ds : List D} {vs : List V} (n : Nat), Rs K H ds vs → Rs K H (ds.drop n) (vs.drop n)
  | _, _, 0, h => h
  | [], _, n + 1, h => by rw [show _ = [] from h]; simp [Rs]
  | d :: ds, _, n + 1, h => by
    obtain ⟨v, r, e, h1, h2⟩ := h
    subst e
    simpa using Rs.drop n h2
theorem Rs.reverse {H : Hp} : ∀ {ds : List D} {vs : List V}, Rs K H ds vs → Rs K H ds.reverse vs.reverse
  | [], _, h => by rw [show _ = [] from h]; simp [Rs]
  | d :: ds, _, h => by
    obtain ⟨v, r, e, h1, h2⟩ := h
    subst e
    simpa using (Rs.reverse h2).snoc h1
theorem Rs.set {H : Hp} : ∀ {ds : List D} {vs : List V} {d : D} {v : V} (n : Nat), Rs K H ds vs → R K H d v → Rs K H (ds.set n d) (vs.set n v)
  | [], _, _, _, n, h, k => by rw [show _ = [] from h]; simp [Rs]
  | d0 :: ds, _, d, v, 0, h, k => by
    obtain ⟨v0, r, e, h1, h2⟩ := h
    subst e
    exact ⟨v, r, rfl, k, h2⟩
  | d0 :: ds, _, d, v, n + 1, h, k => by
    obtain ⟨v0, r, e, h1, h2⟩ := h
    subst e
    exact ⟨v0, r.set n v, rfl, h1, Rs.set n h2 k⟩
theorem Rs.ints {H : Hp} : ∀ {ns : List Int} {vs : List V}, Rs K H (ns.map PyData.int) vs ↔ vs = ns.map V.int
  | [], vs => Iff.rfl
  | n :: ns, vs => by
    constructor
    · rintro ⟨v, r, e, h1, h2⟩
      rw [e, show v = V.int n from h1, Rs.ints.mp h2]
      rfl
    · intro e
      exact ⟨V.int n, ns.map V.int, by rw [e]; rfl, rfl, Rs.ints.mpr rfl⟩
theorem Rs.strs {H : Hp} : ∀ {ns : List Str} {vs : List V}, Rs K H (ns.map PyData.str) vs ↔ vs = ns.map V.str
  | [], vs => Iff.rfl
  | n :: ns, vs => by
    constructor
    · rintro ⟨v, r, e, h1, h2⟩
      rw [e, show v = V.str n from h1, Rs.strs.mp h2]
      rfl
    · intro e
      exact ⟨V.str n, ns.map V.str, by rw [e]; rfl, rfl, Rs.strs.mpr rfl⟩
theorem Rs.bools {H : Hp} : ∀ {ns : List Bool} {vs : List V}, Rs K H (ns.map PyData.bool) vs ↔ vs = ns.map V.bl
  | [], vs => Iff.rfl
  | n :: ns, vs => by
    constructor
    · rintro ⟨v, r, e, h1, h2⟩
      rw [e, show v = V.bl n from h1, Rs.bools.mp h2]
      rfl
    · intro e
      exact ⟨V.bl n, ns.map V.bl, by rw [e]; rfl, rfl, Rs.bools.mpr rfl⟩
mutual
theorem R.dp {K : PySem.W.Frag} {H : Hp} : ∀ (d : D) (v : V), R K H d v → Dp K H v d
  | .none, _, h => by rw [show _ = V.non from h]; exact .non
  | .bool b, _, h => by rw [show _ = V.bl b from h]; exact .bl b
  | .int i, _, h => by rw [show _ = V.int i from h]; exact .int i
  | .str s, _, h => by rw [show _ = V.str s from h]; exact .str s
  | .tuple ds, _, h => by
    obtain ⟨a, vs, e, ha, hs⟩ := h
    subst e
    exact .tup (SqT.of ha) (Rs.dp ds vs hs)
  | .list ds, _, h => by
    obtain ⟨a, vs, e, ha, hs⟩ := h
    subst e
    exact .lst ha.sq (Rs.dp ds vs hs)
  | .dict _, _, h => h.elim
theorem Rs.dp {K : PySem.W.Frag} {H : Hp} : ∀ (ds : List D) (vs : List V), Rs K H ds vs → DpAll K H vs ds
  | [], _, h => by rw [show _ = [] from h]; exact .nil
  | d :: ds, _, h => by
    obtain ⟨v, r, e, h1, h2⟩ := h
    subst e
    exact .cons (R.dp d v h1) (Rs.dp ds r h2)
end

/-! ### abstract values, abstract objects -/
inductive AV where
  | d (x : D)
  | ref (k : Nat)
  | raw (v : V)
def RA (K : PySem.W.Frag) (H : Hp) (ρ : List Addr) : AV → V → Prop
  | .d x, v => R K H x v
  | .ref k, v => ∃ a, ρ[k]? = some a ∧ v = .ref a
  | .raw u, v => v = u
inductive AO where
  /-- a list of plain values -/
  | dl (ds : List D)
  /-- a list of lists (by their places) -/
  | rl (ks : List Nat)
  /-- dicts: plain values; lists -/
  | dd (kvs : List (Key × D)) | dr (kvs : List (Key × Nat))
  /-- a dict whose keys are tuples -/
  | dt (kvs : List (List Key × D))
  /-- a set of ints and texts -/
  | st (S : Key → Bool) (n : Nat)

def RO (P : Program) (w : World) (K : PySem.W.Frag) (H : Hp) (ρ : List Addr) (a : Addr) : AO → HO → Prop
  | .dl ds, o => ∃ vs, o = .lst vs ∧ Rs K H ds vs
  | .rl ks, o => ∃ as : List Addr, o = .lst (as.map V.ref) ∧ Paired (fun k b => ρ[k]? = some b) ks as
  | .dd kvs, o => ∃ ws, o = .dK ws ∧ Paired (fun p q => p.1 = q.1 ∧ R K H p.2 q.2) kvs ws
  | .dr kvs, o => ∃ ws, o = .dK ws ∧ Paired (fun p q => p.1 = q.1 ∧ ∃ b, ρ[p.2]? = some b ∧ q.2 = .ref b) kvs ws
  | .dt kvs, o => ∃ ws, o = .dT ws ∧ Paired (fun p q => p.1 = q.1 ∧ R K H p.2 q.2) kvs ws
  | .st S n, o => o = SetK P w a S n

structure Kn (P : Program) (w : World) (K : PySem.W.Frag) (H : Hp) (ρ : List Addr) (L : List AO) : Prop where
  nd : ρ.Nodup
  len : ρ.length = L.length
  ats : ∀ (k : Nat) (o : AO), L[k]? = some o → ∃ a u, ρ[k]? = some a ∧ H a = some u ∧ RO P w K H ρ a o u
/-- the step from (ρ, H) to (ρ', H'); the first n places stay -/
structure Ev (n : Nat) (ρ : List Addr) (H : Hp) (ρ' : List Addr) (H' : Hp) : Prop where
  pre : ∀ (k : Nat) (a : Addr), k < n → ρ[k]? = some a → ρ'[k]? = some a
  new : ∀ a, a ∈ ρ' → a ∈ ρ ∨ H a = none
  fr : ∀ b o, H b = some o → b ∉ ρ → H' b = some o
theorem Ev.refl {n : Nat} {ρ : List Addr} {H : Hp} : Ev n ρ H ρ H := ⟨fun _ _ _ h => h, fun _ h => .inl h, fun _ _ h _ => h⟩
theorem Ev.trans {n m : Nat} {ρ ρ1 ρ2 : List Addr} {H H1 H2 : Hp} (a : Ev n ρ H ρ1 H1) (b : Ev m ρ1 H1 ρ2 H2) (hm : n ≤ m) : Ev n ρ H ρ2 H2 where
  pre := fun k x hk h => b.pre k x (Nat.lt_of_lt_of_le hk hm) (a.pre k x hk h)
  new := fun x hx => by
    rcases b.new x hx with h | h
    · exact a.new x h
    · cases e : H x with
      | none => exact .inr rfl
      | some o =>
        by_cases hr : x ∈ ρ
        · exact .inl hr
        · rw [a.fr x o e hr] at h
          cases h
  fr := fun x o e hx => by
    refine b.fr x o (a.fr x o e hx) fun hx' => ?_
    rcases a.new x hx' with h | h
    · exact hx h
    · rw [e] at h; cases h
theorem Ev.le {n m : Nat} {ρ ρ' : List Addr} {H H' : Hp} (a : Ev n ρ H ρ' H') (h : m ≤ n) : Ev m ρ H ρ' H' := ⟨fun k x hk e => a.pre k x (Nat.lt_of_lt_of_le hk h) e, a.new, a.fr⟩

section
variable {P : Program} {w : World} {K : PySem.W.Frag} {H H' : Hp} {ρ ρ' : List Addr} {L L' : List AO} {n : Nat}
theorem RO.notIm {a : Addr} {o : AO} {u : HO} (h : RO P w K H ρ a o u) : (∀ xs, u ≠ .tup xs) ∧ ∀ ob x, u ≠ .frz ob x := by
  cases o with
  | dl ds => obtain ⟨vs, z, _⟩ := h; rw [z]; exact ⟨(fun _ e => nomatch e), (fun _ _ e => nomatch e)⟩
  | rl ks => obtain ⟨vs, z, _⟩ := h; rw [z]; exact ⟨(fun _ e => nomatch e), (fun _ _ e => nomatch e)⟩
  | dd ds => obtain ⟨vs, z, _⟩ := h; rw [z]; exact ⟨(fun _ e => nomatch e), (fun _ _ e => nomatch e)⟩
  | dr ds => obtain ⟨vs, z, _⟩ := h; rw [z]; exact ⟨(fun _ e => nomatch e), (fun _ _ e => nomatch e)⟩
  | dt ds => obtain ⟨vs, z, _⟩ := h; rw [z]; exact ⟨(fun _ e => nomatch e), (fun _ _ e => nomatch e)⟩
  | st S m => rw [show u = SetK P w a S m from h]; exact ⟨(fun _ e => nomatch e), (fun _ _ e => nomatch e)⟩
theorem Kn.notIm (kn : Kn P w K H ρ L) {a : Addr} {u : HO} (h : H a = some u) (hu : (∃ xs, u = .tup xs) ∨ ∃ ob x, u = .frz ob x) : a ∉ ρ := fun hm => by
  obtain ⟨k, hk⟩ := List.getElem?_of_mem hm
  have hlt : k < L.length := by rw [← kn.len]; exact (List.getElem?_eq_some_iff.mp hk).1
  obtain ⟨b, u', e1, e2, e3⟩ := kn.ats k L[k] (List.getElem?_eq_getElem hlt)
  rw [hk] at e1
  cases e1
  rw [h] at e2
  cases e2
  rcases hu with ⟨xs, e⟩ | ⟨ob, x, e⟩
  · exact e3.notIm.1 xs e
  · exact e3.notIm.2 ob x e
theorem Kn.im (kn : Kn P w K H ρ L) (e : Ev n ρ H ρ' H') : Im H H' := ⟨fun a xs h => e.fr a _ h (kn.notIm h (.inl ⟨xs, rfl⟩)), fun a o u h => e.fr a _ h (kn.notIm h (.inr ⟨o, u, rfl⟩))⟩
theorem Im.upd {p : Addr} {o : HO} (hp : H p = none) : Im H (L2.upd H p o) := ⟨fun a xs h => by rw [upd_ne (ne_of_none h hp)]; exact h, fun a ob x h => by rw [upd_ne (ne_of_none h hp)]; exact h⟩
theorem Kn.imPut (kn : Kn P w K H ρ L) {a : Addr} (hm : a ∈ ρ) (o : HO) : Im H (L2.upd H a o) :=
  ⟨fun b xs h => by rw [upd_ne (fun (e : b = a) => kn.notIm h (.inl ⟨xs, rfl⟩) (by rw [e]; exact hm))]; exact h, fun b ob x h => by rw [upd_ne (fun (e : b = a) => kn.notIm h (.inr ⟨ob, x, rfl⟩) (by rw [e]; exact hm))]; exact h⟩
theorem RA.mono (kn : Kn P w K H ρ L) (e : Ev n ρ H ρ' H') (hn : ρ.length ≤ n) {x : AV} {v : V} (h : RA K H ρ x v) : RA K H' ρ' x v := by
  cases x with
  | d x => exact R.mono (kn.im e) x v h
  | ref k =>
    obtain ⟨a, h1, h2⟩ := h
    exact ⟨a, e.pre k a (Nat.lt_of_lt_of_le (List.getElem?_eq_some_iff.mp h1).1 hn) h1, h2⟩
  | raw u => exact h
abbrev Env1 := List (Option AV)
def RE (K : PySem.W.Frag) (H : Hp) (ρ : List Addr) (δ : Env1) (σ : St) : Prop := Paired (fun a b => ∀ x, a = some x → ∃ v, b = some v ∧ RA K H ρ x v) δ σ
theorem RE.mono (kn : Kn P w K H ρ L) (e : Ev n ρ H ρ' H') (hn : ρ.length ≤ n) {δ : Env1} {σ : St} (h : RE K H ρ δ σ) : RE K H' ρ' δ σ :=
  Paired.mapP h fun a b q x hx => let ⟨v, e1, e2⟩ := q x hx; ⟨v, e1, e2.mono kn e hn⟩
theorem RE.get {δ : Env1} {σ : St} {i : Nat} {x : AV} (h : RE K H ρ δ σ) (e : δ[i]? = some (some x)) : ∃ v, σ[i]? = some (some v) ∧ RA K H ρ x v := by
  induction h generalizing i with
  | nil => simp at e
  | cons q _ ih =>
    cases i with
    | zero =>
      simp at e
      obtain ⟨v, e1, e2⟩ := q x e
      exact ⟨v, by simp [e1], e2⟩
    | succ i =>
      simp at e
      obtain ⟨v, e1, e2⟩ := ih e
      exact ⟨v, by simpa using e1, e2⟩
theorem RE.set {δ : Env1} {σ : St} {x : AV} {v : V} (i : Nat) (h : RE K H ρ δ σ) (r : RA K H ρ x v) : RE K H ρ (δ.set i (some x)) (σ.set i (some v)) := by
  induction h generalizing i with
  | nil => exact .nil
  | cons q t ih =>
    cases i with
    | zero => exact .cons (fun y hy => by cases hy; exact ⟨v, rfl, r⟩) t
    | succ i => exact .cons q (ih i)
/-- the object at a place -/
theorem Kn.at (kn : Kn P w K H ρ L) {k : Nat} {o : AO} {a : Addr} (h : L[k]? = some o) (ha : ρ[k]? = some a) : ∃ u, H a = some u ∧ RO P w K H ρ a o u := by
  obtain ⟨b, u, e1, e2, e3⟩ := kn.ats k o h
  rw [ha] at e1
  cases e1
  exact ⟨u, e2, e3⟩
theorem Kn.look (kn : Kn P w K H ρ L) {k : Nat} {o : AO} (h : L[k]? = some o) : ∃ a u, ρ[k]? = some a ∧ H a = some u ∧ RO P w K H ρ a o u := kn.ats k o h
theorem RO.mono (im : Im H H') (pre : ∀ (k : Nat) (a : Addr), ρ[k]? = some a → ρ'[k]? = some a) {a : Addr} {o : AO} {u : HO} (h : RO P w K H ρ a o u) : RO P w K H' ρ' a o u := by
  cases o with
  | dl ds => obtain ⟨vs, z, q⟩ := h; exact ⟨vs, z, Rs.mono im ds vs q⟩
  | rl ks => obtain ⟨vs, z, q⟩ := h; exact ⟨vs, z, Paired.mapP q fun k b e => pre k b e⟩
  | dd ds => obtain ⟨vs, z, q⟩ := h; exact ⟨vs, z, Paired.mapP q fun x y e => ⟨e.1, R.mono im _ _ e.2⟩⟩
  | dr ds => obtain ⟨vs, z, q⟩ := h; exact ⟨vs, z, Paired.mapP q fun x y e => ⟨e.1, let ⟨b, e1, e2⟩ := e.2; ⟨b, pre _ _ e1, e2⟩⟩⟩
  | dt ds => obtain ⟨vs, z, q⟩ := h; exact ⟨vs, z, Paired.mapP q fun x y e => ⟨e.1, R.mono im _ _ e.2⟩⟩
  | st S m => exact h
/-- a new object -/
theorem Kn.new (kn : Kn P w K H ρ L) {p : Addr} {o : AO} {u : HO} (hp : H p = none) (hu : ∀ (ρ' : List Addr) H', Im H H' → (∀ (k : Nat) (a : Addr), ρ[k]? = some a → ρ'[k]? = some a) → RO P w K H' ρ' p o u) :
    Kn P w K (upd H p u) (ρ ++ [p]) (L ++ [o]) ∧ Ev ρ.length ρ H (ρ ++ [p]) (upd H p u) ∧ (ρ ++ [p])[L.length]? = some p := by
  have him : Im H (upd H p u) := Im.upd hp
  have hpre : ∀ (k : Nat) (a : Addr), ρ[k]? = some a → (ρ ++ [p])[k]? = some a := fun k a h => by
    rw [List.getElem?_append_left (List.getElem?_eq_some_iff.mp h).1]; exact h
  have hnew : p ∉ ρ := fun hm => by
    obtain ⟨k, hk⟩ := List.getElem?_of_mem hm
    have hlt : k < L.length := by rw [← kn.len]; exact (List.getElem?_eq_some_iff.mp hk).1
    obtain ⟨b, u, e1, e2, _⟩ := kn.ats k L[k] (List.getElem?_eq_getElem hlt)
    rw [hk] at e1
    cases e1
    rw [hp] at e2
    cases e2
  refine ⟨⟨?_, by simp [kn.len], fun k o' h => ?_⟩, ⟨fun k a _ h => hpre k a h, fun a ha => ?_, fun b o h _ => ?_⟩, by rw [← kn.len]; simp⟩
  · rw [List.nodup_append]
    refine ⟨kn.nd, by simp, fun a ha b hb => ?_⟩
    simp at hb
    subst hb
    exact fun e => hnew (e ▸ ha)
  · by_cases hk : k < L.length
    · rw [List.getElem?_append_left hk] at h
      obtain ⟨a, u', e1, e2, e3⟩ := kn.ats k o' h
      exact ⟨a, u', hpre k a e1, by rw [upd_ne (ne_of_none e2 hp)]; exact e2, e3.mono him hpre⟩
    · have hk' : k = L.length := by
        have := (List.getElem?_eq_some_iff.mp h).1
        simp at this
        omega
      subst hk'
      simp at h
      subst h
      exact ⟨p, u, by rw [← kn.len]; simp, upd_same, hu _ _ him hpre⟩
  · simp at ha
    rcases ha with h | h
    · exact .inl h
    · subst h; exact .inr hp
  · rw [upd_ne (ne_of_none h hp)]; exact h
theorem nodup_at {ρ : List Addr} (nd : ρ.Nodup) {i j : Nat} {a : Addr} (hi : ρ[i]? = some a) (hj : ρ[j]? = some a) : i = j := by
  obtain ⟨h1, e1⟩ := List.getElem?_eq_some_iff.mp hi
  obtain ⟨h2, e2⟩ := List.getElem?_eq_some_iff.mp hj
  exact (List.getElem_inj nd).mp (e1.trans e2.symm)
/-- an object is changed -/
theorem Kn.put (kn : Kn P w K H ρ L) {k : Nat} {a : Addr} {o : AO} {u : HO} (ha : ρ[k]? = some a) (hu : ∀ H', Im H H' → RO P w K H' ρ a o u) :
    Kn P w K (upd H a u) ρ (L.set k o) ∧ Ev ρ.length ρ H ρ (upd H a u) := by
  have hmem : a ∈ ρ := List.mem_of_getElem? ha
  have him : Im H (upd H a u) := kn.imPut hmem u
  refine ⟨⟨kn.nd, by simp [kn.len], fun j o' h => ?_⟩, ⟨fun _ _ _ h => h, fun _ h => .inl h, fun b o h hb => by rw [upd_ne (fun (e : b = a) => hb (by rw [e]; exact hmem))]; exact h⟩⟩
  by_cases hj : j = k
  · subst hj
    have hlt : j < L.length := by
      have := (List.getElem?_eq_some_iff.mp h).1
      simpa using this
    rw [List.getElem?_set_self hlt] at h
    cases h
    exact ⟨a, u, ha, upd_same, hu _ him⟩
  · rw [List.getElem?_set_ne (Ne.symm hj)] at h
    obtain ⟨b, u', e1, e2, e3⟩ := kn.ats j o' h
    have hb : b ≠ a := fun e => hj (nodup_at kn.nd (e ▸ e1) ha)
    exact ⟨b, u', e1, by rw [upd_ne hb]; exact e2, e3.mono him fun _ _ h => h⟩
/-- a new tuple: a plain value -/
theorem Kn.tup (kn : Kn P w K H ρ L) {p : Addr} {vs : List V} {ds : List D} (hp : H p = none) (hs : Rs K H ds vs) :
    Kn P w K (upd H p (.tup vs)) ρ L ∧ Ev ρ.length ρ H ρ (upd H p (.tup vs)) ∧ R K (upd H p (.tup vs)) (.tuple ds) (.ref p) := by
  have him : Im H (upd H p (.tup vs)) := Im.upd hp
  refine ⟨⟨kn.nd, kn.len, fun k o h => ?_⟩, ⟨fun _ _ _ h => h, fun _ h => .inl h, fun b o h _ => by rw [upd_ne (ne_of_none h hp)]; exact h⟩, ⟨p, vs, rfl, upd_same, Rs.mono him ds vs hs⟩⟩
  obtain ⟨a, u, e1, e2, e3⟩ := kn.ats k o h
  exact ⟨a, u, e1, by rw [upd_ne (ne_of_none e2 hp)]; exact e2, e3.mono him fun _ _ h => h⟩
end
end AB

set_option Elab.async false
set_option linter.all false
set_option maxRecDepth 100000
set_option autoImplicit false
namespace AB
open PySem L2
variable {K : PySem.W.Frag}

/-! ### transformers over the abstract state, and what they stand for -/
abbrev WK := AV → List AO → Prop
abbrev WE := Env1 → List AO → WK → Prop
abbrev WA := Env1 → List AO → (List AV → List AO → Prop) → Prop
abbrev WT := Env1 → List AO → (Bool → List AO → Prop) → Prop
structure AEnds where
  nx : Env1 → List AO → Prop
  rt : WK
  bk : Env1 → List AO → Prop := fun _ _ => False
  ct : Env1 → List AO → Prop := fun _ _ => False
abbrev WS := Nat → AEnds → Env1 → List AO → Prop

section
variable (P : Program) (w : World) (K : PySem.W.Frag)
def upE (e : WE) : TE := fun σ H q => ∃ δ L Q ρ, e δ L Q ∧ Kn P w K H ρ L ∧ RE K H ρ δ σ ∧ ∀ x L' ρ' v H', Q x L' → Ev ρ.length ρ H ρ' H' → Kn P w K H' ρ' L' → RA K H' ρ' x v → q v H'
def upA (e : WA) : TA := fun σ H q => ∃ δ L Q ρ, e δ L Q ∧ Kn P w K H ρ L ∧ RE K H ρ δ σ ∧ ∀ xs L' ρ' vs H', Q xs L' → Ev ρ.length ρ H ρ' H' → Kn P w K H' ρ' L' → Paired (RA K H' ρ') xs vs → q vs H'
def upT (e : WT) : TT := fun σ H q => ∃ δ L Q ρ, e δ L Q ∧ Kn P w K H ρ L ∧ RE K H ρ δ σ ∧ ∀ b L' ρ' H', Q b L' → Ev ρ.length ρ H ρ' H' → Kn P w K H' ρ' L' → q b H'
/-- the ends of a block over what the abstract one wants -/
structure EndsOk (n : Nat) (ρ : List Addr) (H : Hp) (A : AEnds) (D : Ends) : Prop where
  nx : ∀ δ' L' ρ' σ' H', A.nx δ' L' → Ev n ρ H ρ' H' → Kn P w K H' ρ' L' → RE K H' ρ' δ' σ' → D.nx σ' H'
  rt : ∀ x L' ρ' v H', A.rt x L' → Ev n ρ H ρ' H' → Kn P w K H' ρ' L' → RA K H' ρ' x v → D.rt v H'
  bk : ∀ δ' L' ρ' σ' H', A.bk δ' L' → Ev n ρ H ρ' H' → Kn P w K H' ρ' L' → RE K H' ρ' δ' σ' → D.bk σ' H'
  ct : ∀ δ' L' ρ' σ' H', A.ct δ' L' → Ev n ρ H ρ' H' → Kn P w K H' ρ' L' → RE K H' ρ' δ' σ' → D.ct σ' H'
def upS (e : WS) : TS := fun D σ H => ∃ δ L n A ρ, e n A δ L ∧ n ≤ ρ.length ∧ Kn P w K H ρ L ∧ RE K H ρ δ σ ∧ EndsOk P w K n ρ H A D
end

theorem PE.of {X : Cx} {e : Expr} {t u : TE} (h : PE X e t) (k : ∀ σ H q, u σ H q → t σ H q) : PE X e u := ⟨fun pins s σ H q I hq => h.run pins s σ H q I (k σ H q hq)⟩
theorem PA.of {X : Cx} {e : List Expr} {t u : TA} (h : PA X e t) (k : ∀ σ H q, u σ H q → t σ H q) : PA X e u := ⟨fun pos pins s σ H q I hq => h.run pos pins s σ H q I (k σ H q hq)⟩
theorem PT.of {X : Cx} {e : Expr} {t u : TT} (h : PT X e t) (k : ∀ σ H q, u σ H q → t σ H q) : PT X e u := ⟨fun pins s σ H q I hq => h.run pins s σ H q I (k σ H q hq)⟩
theorem PW.of {X : Cx} {e : Expr} {t u : TT} (h : PW X e t) (k : ∀ σ H q, u σ H q → t σ H q) : PW X e u := ⟨fun wh pins s σ H q I hq => h.run wh pins s σ H q I (k σ H q hq)⟩
theorem PS.of {X : Cx} {e : Stmt} {t u : TS} (h : PS X e t) (k : ∀ D σ H, u D σ H → t D σ H) : PS X e u := ⟨fun pins s σ H D I hq => h.run pins s σ H D I (k D σ H hq)⟩
theorem PSs.of {X : Cx} {e : List Stmt} {t u : TS} (h : PSs X e t) (k : ∀ D σ H, u D σ H → t D σ H) : PSs X e u := ⟨fun pins s σ H D I hq => h.run pins s σ H D I (k D σ H hq)⟩

section
variable (X : Cx)
abbrev AE (e : Expr) (a : WE) : Prop := PE X e (upE X.prog X.w X.K a)
abbrev AA (es : List Expr) (a : WA) : Prop := PA X es (upA X.prog X.w X.K a)
abbrev AT (e : Expr) (a : WT) : Prop := PT X e (upT X.prog X.w X.K a)
abbrev AW (e : Expr) (a : WT) : Prop := PW X e (upT X.prog X.w X.K a)
abbrev AS (s : Stmt) (a : WS) : Prop := PS X s (upS X.prog X.w X.K a)
abbrev ASs (s : List Stmt) (a : WS) : Prop := PSs X s (upS X.prog X.w X.K a)
end

section
variable {P : Program} {w : World} {K : PySem.W.Frag} {H H' : Hp} {ρ ρ' : List Addr} {L L' : List AO} {δ : Env1} {σ : St}
/-- one expression within a rule -/
theorem upE.run {a : WE} {q : VK} {Q : WK} (h : a δ L Q) (kn : Kn P w K H ρ L) (re : RE K H ρ δ σ)
    (k : ∀ x L' ρ' v H', Q x L' → Ev ρ.length ρ H ρ' H' → Kn P w K H' ρ' L' → RA K H' ρ' x v → RE K H' ρ' δ σ → q v H') : upE P w K a σ H q :=
  ⟨δ, L, Q, ρ, h, kn, re, fun x L' ρ' v H' hq ev kn' ra => k x L' ρ' v H' hq ev kn' ra (re.mono kn ev (Nat.le_refl _))⟩
theorem upA.run {a : WA} {q : List V → Hp → Prop} {Q : List AV → List AO → Prop} (h : a δ L Q) (kn : Kn P w K H ρ L) (re : RE K H ρ δ σ)
    (k : ∀ x L' ρ' v H', Q x L' → Ev ρ.length ρ H ρ' H' → Kn P w K H' ρ' L' → Paired (RA K H' ρ') x v → RE K H' ρ' δ σ → q v H') : upA P w K a σ H q :=
  ⟨δ, L, Q, ρ, h, kn, re, fun x L' ρ' v H' hq ev kn' ra => k x L' ρ' v H' hq ev kn' ra (re.mono kn ev (Nat.le_refl _))⟩
theorem upT.run {a : WT} {q : Bool → Hp → Prop} {Q : Bool → List AO → Prop} (h : a δ L Q) (kn : Kn P w K H ρ L) (re : RE K H ρ δ σ)
    (k : ∀ b L' ρ' H', Q b L' → Ev ρ.length ρ H ρ' H' → Kn P w K H' ρ' L' → RE K H' ρ' δ σ → q b H') : upT P w K a σ H q :=
  ⟨δ, L, Q, ρ, h, kn, re, fun x L' ρ' H' hq ev kn' => k x L' ρ' H' hq ev kn' (re.mono kn ev (Nat.le_refl _))⟩
theorem Ev.full {ρ1 ρ2 : List Addr} {H1 H2 : Hp} (a : Ev ρ.length ρ H ρ1 H1) (b : Ev ρ1.length ρ1 H1 ρ2 H2) (hl : ρ.length ≤ ρ1.length) : Ev ρ.length ρ H ρ2 H2 := a.trans b hl
theorem Ev.lens {n : Nat} (a : Ev n ρ H ρ' H') (hn : n ≤ ρ.length) : n ≤ ρ'.length := by
  cases n with
  | zero => exact Nat.zero_le _
  | succ n =>
    have h1 : ρ[n]? = some ρ[n] := List.getElem?_eq_getElem (by omega)
    have h2 := a.pre n _ (Nat.lt_succ_self _) h1
    have := (List.getElem?_eq_some_iff.mp h2).1
    omega
theorem EndsOk.after {n m : Nat} {A : AEnds} {D : Ends} {ρ1 : List Addr} {H1 : Hp} (k : EndsOk P w K n ρ H A D) (e : Ev m ρ H ρ1 H1) (hm : n ≤ m) : EndsOk P w K n ρ1 H1 A D where
  nx := fun δ' L' ρ' σ' H' h ev => k.nx δ' L' ρ' σ' H' h ((e.le hm).trans ev (Nat.le_refl _))
  rt := fun x L' ρ' v H' h ev => k.rt x L' ρ' v H' h ((e.le hm).trans ev (Nat.le_refl _))
  bk := fun δ' L' ρ' σ' H' h ev => k.bk δ' L' ρ' σ' H' h ((e.le hm).trans ev (Nat.le_refl _))
  ct := fun δ' L' ρ' σ' H' h ev => k.ct δ' L' ρ' σ' H' h ((e.le hm).trans ev (Nat.le_refl _))
end

/-! ### reading abstract values -/
def asInt (x : AV) (k : Int → Prop) : Prop := match x with
  | .d (.int i) => k i
  | _ => False
def asStr (x : AV) (k : Str → Prop) : Prop := match x with
  | .d (.str i) => k i
  | _ => False
def asBool (x : AV) (k : Bool → Prop) : Prop := match x with
  | .d (.bool i) => k i
  | _ => False
def asD (x : AV) (k : D → Prop) : Prop := match x with
  | .d i => k i
  | _ => False
def asTup (x : AV) (k : List D → Prop) : Prop := match x with
  | .d (.tuple i) => k i
  | _ => False
def asRef (x : AV) (k : Nat → Prop) : Prop := match x with
  | .ref i => k i
  | _ => False
theorem asInt.of {x : AV} {k : Int → Prop} (h : asInt x k) : ∃ i, x = .d (.int i) ∧ k i := by
  unfold asInt at h; split at h
  · exact ⟨_, rfl, h⟩
  · exact h.elim
theorem asStr.of {x : AV} {k : Str → Prop} (h : asStr x k) : ∃ i, x = .d (.str i) ∧ k i := by
  unfold asStr at h; split at h
  · exact ⟨_, rfl, h⟩
  · exact h.elim
theorem asBool.of {x : AV} {k : Bool → Prop} (h : asBool x k) : ∃ i, x = .d (.bool i) ∧ k i := by
  unfold asBool at h; split at h
  · exact ⟨_, rfl, h⟩
  · exact h.elim
theorem asD.of {x : AV} {k : D → Prop} (h : asD x k) : ∃ i, x = .d i ∧ k i := by
  unfold asD at h; split at h
  · exact ⟨_, rfl, h⟩
  · exact h.elim
theorem asTup.of {x : AV} {k : List D → Prop} (h : asTup x k) : ∃ i, x = .d (.tuple i) ∧ k i := by
  unfold asTup at h; split at h
  · exact ⟨_, rfl, h⟩
  · exact h.elim
theorem asRef.of {x : AV} {k : Nat → Prop} (h : asRef x k) : ∃ i, x = .ref i ∧ k i := by
  unfold asRef at h; split at h
  · exact ⟨_, rfl, h⟩
  · exact h.elim
/-- the plain values in a row -/
def asDs : List AV → (List D → Prop) → Prop
  | [], k => k []
  | x :: xs, k => asD x fun d => asDs xs fun ds => k (d :: ds)
theorem asDs.of : ∀ {xs : List AV} {k : List D → Prop}, asDs xs k → ∃ ds, xs = ds.map AV.d ∧ k ds
  | [], _, h => ⟨[], rfl, h⟩
  | x :: xs, k, h => by
    obtain ⟨d, e, h⟩ := asD.of h
    obtain ⟨ds, e2, h⟩ := asDs.of h
    exact ⟨d :: ds, by rw [e, e2]; rfl, h⟩
def asRefs : List AV → (List Nat → Prop) → Prop
  | [], k => k []
  | x :: xs, k => asRef x fun d => asRefs xs fun ds => k (d :: ds)
theorem asRefs.of : ∀ {xs : List AV} {k : List Nat → Prop}, asRefs xs k → ∃ ds, xs = ds.map AV.ref ∧ k ds
  | [], _, h => ⟨[], rfl, h⟩
  | x :: xs, k, h => by
    obtain ⟨d, e, h⟩ := asRef.of h
    obtain ⟨ds, e2, h⟩ := asRefs.of h
    exact ⟨d :: ds, by rw [e, e2]; rfl, h⟩
/-- the object at a place -/
def at0 (L : List AO) (k : Nat) (f : AO → Prop) : Prop := match L[k]? with
  | some o => f o
  | none => False
theorem at0.of {L : List AO} {k : Nat} {f : AO → Prop} (h : at0 L k f) : ∃ o, L[k]? = some o ∧ f o := by
  unfold at0 at h; split at h
  · exact ⟨_, ‹_›, h⟩
  · exact h.elim
/-- a list of plain values, to be read, at a reference -/
def asDl (L : List AO) (x : AV) (f : Nat → List D → Prop) : Prop := asRef x fun k => at0 L k fun o => match o with
  | .dl ds => f k ds
  | _ => False
def asRl (L : List AO) (x : AV) (f : Nat → List Nat → Prop) : Prop := asRef x fun k => at0 L k fun o => match o with
  | .rl ds => f k ds
  | _ => False
/-- .. or one that is read alone -/
def asSeq (L : List AO) (x : AV) (f : List D → Prop) : Prop := match x with
  | .d (.list ds) => f ds
  | .ref k => at0 L k fun o => match o with
    | .dl ds => f ds
    | _ => False
  | _ => False
def asDd (L : List AO) (x : AV) (f : Nat → List (Key × D) → Prop) : Prop := asRef x fun k => at0 L k fun o => match o with
  | .dd ds => f k ds
  | _ => False
theorem asDl.of {L : List AO} {x : AV} {f : Nat → List D → Prop} (h : asDl L x f) : ∃ k ds, x = .ref k ∧ L[k]? = some (.dl ds) ∧ f k ds := by
  obtain ⟨k, e, h⟩ := asRef.of h
  obtain ⟨o, e2, h⟩ := at0.of h
  split at h
  · exact ⟨k, _, e, e2, h⟩
  · exact h.elim
theorem asRl.of {L : List AO} {x : AV} {f : Nat → List Nat → Prop} (h : asRl L x f) : ∃ k ds, x = .ref k ∧ L[k]? = some (.rl ds) ∧ f k ds := by
  obtain ⟨k, e, h⟩ := asRef.of h
  obtain ⟨o, e2, h⟩ := at0.of h
  split at h
  · exact ⟨k, _, e, e2, h⟩
  · exact h.elim
theorem asDd.of {L : List AO} {x : AV} {f : Nat → List (Key × D) → Prop} (h : asDd L x f) : ∃ k ds, x = .ref k ∧ L[k]? = some (.dd ds) ∧ f k ds := by
  obtain ⟨k, e, h⟩ := asRef.of h
  obtain ⟨o, e2, h⟩ := at0.of h
  split at h
  · exact ⟨k, _, e, e2, h⟩
  · exact h.elim
section
variable {P : Program} {w : World} {K : PySem.W.Frag} {H H' : Hp} {ρ ρ' : List Addr} {L L' : List AO}
theorem asSeq.of {x : AV} {v : V} {f : List D → Prop} (h : asSeq L x f) (kn : Kn P w K H ρ L) (r : RA K H ρ x v) : ∃ a vs ds, v = .ref a ∧ SqL K H a vs ∧ Rs K H ds vs ∧ f ds := by
  unfold asSeq at h
  split at h
  · obtain ⟨a, vs, e, ha, hs⟩ := r
    exact ⟨a, vs, _, e, ha.sq, hs, h⟩
  · obtain ⟨o, e2, h⟩ := at0.of h
    split at h
    · obtain ⟨a, h1, rfl⟩ := r
      obtain ⟨a', u, e3, e4, vs, e5, e6⟩ := kn.ats _ _ e2
      rw [h1] at e3; cases e3
      subst e5
      exact ⟨a, vs, _, rfl, SqL.of e4, e6, h⟩
    · exact h.elim
  · exact h.elim
theorem Kn.dl (kn : Kn P w K H ρ L) {k : Nat} {ds : List D} (h : L[k]? = some (.dl ds)) : ∃ a vs, ρ[k]? = some a ∧ H a = some (.lst vs) ∧ Rs K H ds vs := by
  obtain ⟨a, u, e1, e2, vs, e3, e4⟩ := kn.ats k _ h
  subst e3
  exact ⟨a, vs, e1, e2, e4⟩
theorem Kn.rl (kn : Kn P w K H ρ L) {k : Nat} {ds : List Nat} (h : L[k]? = some (.rl ds)) : ∃ a as, ρ[k]? = some a ∧ H a = some (.lst (as.map V.ref)) ∧ Paired (fun k b => ρ[k]? = some b) ds as := by
  obtain ⟨a, u, e1, e2, vs, e3, e4⟩ := kn.ats k _ h
  subst e3
  exact ⟨a, vs, e1, e2, e4⟩
/-- a new list of plain values, of places -/
theorem Kn.newL (kn : Kn P w K H ρ L) {p : Addr} {vs : List V} {ds : List D} (hp : H p = none) (hs : Rs K H ds vs) :
    Kn P w K (upd H p (.lst vs)) (ρ ++ [p]) (L ++ [.dl ds]) ∧ Ev ρ.length ρ H (ρ ++ [p]) (upd H p (.lst vs)) ∧ (ρ ++ [p])[L.length]? = some p :=
  kn.new hp fun _ _ im _ => ⟨vs, rfl, Rs.mono im ds vs hs⟩
theorem Kn.newR (kn : Kn P w K H ρ L) {p : Addr} {as : List Addr} {ks : List Nat} (hp : H p = none) (hs : Paired (fun k b => ρ[k]? = some b) ks as) :
    Kn P w K (upd H p (.lst (as.map V.ref))) (ρ ++ [p]) (L ++ [.rl ks]) ∧ Ev ρ.length ρ H (ρ ++ [p]) (upd H p (.lst (as.map V.ref))) ∧ (ρ ++ [p])[L.length]? = some p :=
  kn.new hp fun _ _ _ pre => ⟨as, rfl, Paired.mapP hs fun k b e => pre k b e⟩
theorem Kn.putL (kn : Kn P w K H ρ L) {k : Nat} {a : Addr} {vs : List V} {ds : List D} (ha : ρ[k]? = some a) (hs : Rs K H ds vs) : Kn P w K (upd H a (.lst vs)) ρ (L.set k (.dl ds)) ∧ Ev ρ.length ρ H ρ (upd H a (.lst vs)) :=
  kn.put ha fun _ im => ⟨vs, rfl, Rs.mono im ds vs hs⟩
theorem Kn.putR (kn : Kn P w K H ρ L) {k : Nat} {a : Addr} {as : List Addr} {ks : List Nat} (ha : ρ[k]? = some a) (hs : Paired (fun k b => ρ[k]? = some b) ks as) : Kn P w K (upd H a (.lst (as.map V.ref))) ρ (L.set k (.rl ks)) ∧ Ev ρ.length ρ H ρ (upd H a (.lst (as.map V.ref))) :=
  kn.put ha fun _ im => ⟨as, rfl, hs⟩
theorem RA.dI {i : Int} {v : V} (h : RA K H ρ (.d (.int i)) v) : v = .int i := h
theorem RA.dS {i : Str} {v : V} (h : RA K H ρ (.d (.str i)) v) : v = .str i := h
theorem RA.dB {i : Bool} {v : V} (h : RA K H ρ (.d (.bool i)) v) : v = .bl i := h
theorem RAs.ds : ∀ {ds : List D} {vs : List V}, Paired (RA K H ρ) (ds.map AV.d) vs → Rs K H ds vs
  | [], _, h => by cases h; rfl
  | d :: ds, _, h => by
    cases h with
    | cons q t => exact ⟨_, _, rfl, q, RAs.ds t⟩
theorem RAs.refs : ∀ {ks : List Nat} {vs : List V}, Paired (RA K H ρ) (ks.map AV.ref) vs → ∃ as : List Addr, vs = as.map V.ref ∧ Paired (fun k b => ρ[k]? = some b) ks as
  | [], _, h => by cases h; exact ⟨[], rfl, .nil⟩
  | d :: ds, _, h => by
    cases h with
    | cons q t =>
      obtain ⟨a, e1, e2⟩ := q
      obtain ⟨as, e3, e4⟩ := RAs.refs t
      exact ⟨a :: as, by rw [e2, e3]; rfl, .cons e1 e4⟩
theorem RAs.mono (kn : Kn P w K H ρ L) {n : Nat} (e : Ev n ρ H ρ' H') (hn : ρ.length ≤ n) {xs : List AV} {vs : List V} (h : Paired (RA K H ρ) xs vs) : Paired (RA K H' ρ') xs vs := Paired.mapP h fun _ _ q => RA.mono kn e hn q
end
end AB

set_option Elab.async false
set_option linter.all false
set_option maxRecDepth 100000
set_option autoImplicit false
namespace AB
open PySem L2
variable {K : PySem.W.Frag}
section
variable {X : Cx} {e a b : Expr} {pos : Pos}

/-! ### names, constants -/
def wVar (i : Nat) : WE := fun δ L Q => match δ[i]? with
  | some (some x) => Q x L
  | _ => False
def wC (x : D) : WE := fun _ L Q => Q (.d x) L
theorem a_var (i : Nat) {x : Str} {pos : Pos} (hN : X.N[i]? = some x := by rfl) (hv : Vis X.env.scope x := by first | exact Or.inl rfl | exact Or.inr (Or.inl rfl) | exact Or.inr (Or.inr rfl)) (hd : (x == ("__debug__" : Str)) = false := by decide)
    (hcd : (x == ("__classdict__" : Str)) = false := by decide) : AE X (.Name x pos) (wVar i) := by
  refine PE.of (pe_var (i := i) hN hv hd hcd) fun σ H q h => ?_
  obtain ⟨δ, L, Q, ρ, hw, kn, re, k⟩ := h
  unfold wVar at hw
  split at hw
  · rename_i x hx
    obtain ⟨v, e1, e2⟩ := re.get hx
    exact ⟨v, e1, k x L ρ v H hw Ev.refl kn e2⟩
  · exact hw.elim
theorem a_const {t : TE} {x : D} {v : V} (h : PE X e (tC v)) (r : ∀ H, R X.K H x v) : AE X e (wC x) := by
  refine PE.of h fun σ H q h => ?_
  obtain ⟨δ, L, Q, ρ, hw, kn, re, k⟩ := h
  exact k (.d x) L ρ v H hw Ev.refl kn (r H)
theorem a_int {i : Int} {j pos} : AE X (.Constant (.int i) j pos) (wC (.int i)) := a_const (t := tC (.int i)) pe_int fun _ => rfl
theorem a_bl {i : Bool} {j pos} : AE X (.Constant (.bool i) j pos) (wC (.bool i)) := a_const (t := tC (.bl i)) pe_bl fun _ => rfl
theorem a_non {j pos} : AE X (.Constant .none j pos) (wC .none) := a_const (t := tC .non) pe_non fun _ => rfl
theorem a_str {i : Str} {j pos} : AE X (.Constant (.str i) j pos) (wC (.str i)) := a_const (t := tC (.str i)) pe_str fun _ => rfl

/-! ### two values, one value -/
abbrev B2 := AV → AV → List AO → WK → Prop
/-- what a rule on values gives for abstract ones -/
def Bin (P : Program) (w : World) (K : PySem.W.Frag) (r : R2) (b : B2) : Prop := ∀ (x y : AV) (u v : V) (L : List AO) (Q : WK) (ρ : List Addr) (H : Hp) (q : VK), b x y L Q → Kn P w K H ρ L → RA K H ρ x u → RA K H ρ y v →
  (∀ z L' ρ' z' H', Q z L' → Ev ρ.length ρ H ρ' H' → Kn P w K H' ρ' L' → RA K H' ρ' z z' → q z' H') → r u v H q
def wBin (b : B2) (wa wb : WE) : WE := fun δ L Q => wa δ L fun x L1 => wb δ L1 fun y L2 => b x y L2 Q
theorem up_bin {P : Program} {w : World} {K : PySem.W.Frag} {r : R2} {b : B2} {wa wb : WE} (hb : Bin P w K r b) {σ : St} {H : Hp} {q : VK} (h : upE P w K (wBin b wa wb) σ H q) : tOp r (upE P w K wa) (upE P w K wb) σ H q := by
  obtain ⟨δ, L, Q, ρ, hw, kn, re, k⟩ := h
  refine upE.run hw kn re fun x L1 ρ1 u H1 h1 e1 kn1 r1 re1 => ?_
  refine upE.run h1 kn1 re1 fun y L2 ρ2 v H2 h2 e2 kn2 r2 re2 => ?_
  refine hb x y u v L2 Q ρ2 H2 q h2 kn2 (r1.mono kn1 e2 (Nat.le_refl _)) r2 fun z L' ρ' z' H' hq ev kn' rz => ?_
  have l1 : ρ.length ≤ ρ1.length := e1.lens (Nat.le_refl _)
  have l2 : ρ1.length ≤ ρ2.length := e2.lens (Nat.le_refl _)
  exact k z L' ρ' z' H' hq (e1.trans (e2.trans ev l2) l1) kn' rz
theorem a_op {op : Operator} {r : R2} {b2 : B2} {wa wb : WE} (ho : OpR X (binaryOp op) r) (hb : Bin X.prog X.w X.K r b2) (ha : AE X a wa) (hb' : AE X b wb) : AE X (.BinOp a op b pos) (wBin b2 wa wb) :=
  PE.of (pe_op ho ha hb') fun _ _ _ h => up_bin hb h
theorem a_cmp {op : CmpOp} {r : R2} {b2 : B2} {wa wb : WE} (ho : OpR X (compareOp op) r) (hb : Bin X.prog X.w X.K r b2) (ha : AE X a wa) (hb' : AE X b wb) (hm : behindInMarks op b = false) : AE X (.Compare a [op] [b] pos) (wBin b2 wa wb) :=
  PE.of (pe_cmpR ho ha hb' hm) fun _ _ _ h => up_bin hb h
def wTest (wa : WE) : WT := fun δ L Q => wa δ L fun x L1 => asBool x fun b => Q b L1
theorem up_test {P : Program} {w : World} {K : PySem.W.Frag} {wa : WE} {t : TE} (ht : ∀ σ H q, upE P w K wa σ H q → t σ H q) {σ : St} {H : Hp} {q : Bool → Hp → Prop} (h : upT P w K (wTest wa) σ H q) : tTest t σ H q := by
  obtain ⟨δ, L, Q, ρ, hw, kn, re, k⟩ := h
  refine ht σ H _ (upE.run hw kn re fun x L1 ρ1 u H1 h1 e1 kn1 r1 re1 => ?_)
  obtain ⟨b, rfl, hq⟩ := asBool.of h1
  exact ⟨b, r1, k b L1 ρ1 H1 hq e1 kn1⟩
theorem at_cmp {op : CmpOp} {r : R2} {b2 : B2} {wa wb : WE} (ho : OpR X (compareOp op) r) (hb : Bin X.prog X.w X.K r b2) (ha : AE X a wa) (hb' : AE X b wb) (hm : behindInMarks op b = false) : AT X (.Compare a [op] [b] pos) (wTest (wBin b2 wa wb)) :=
  PT.of (pt_cmpR ho ha hb' hm) fun _ _ _ h => up_test (fun _ _ _ h => up_bin hb h) h
/-- a value that is a bool, as a test -/
theorem at_val {wa : WE} (h : AE X e wa) (he : ∀ whole, isTrue e X.env whole = (do let v ← whole; standAt e.pos; holding [v] (truthy v)) := by intro _; rfl) : AT X e (wTest wa) :=
  PT.of (pt_val h he) fun _ _ _ h => up_test (fun _ _ _ h => h) h
def Un1 (P : Program) (w : World) (K : PySem.W.Frag) (r : V → Hp → VK → Prop) (b : AV → List AO → WK → Prop) : Prop := ∀ (x : AV) (u : V) (L : List AO) (Q : WK) (ρ : List Addr) (H : Hp) (q : VK), b x L Q → Kn P w K H ρ L → RA K H ρ x u →
  (∀ z L' ρ' z' H', Q z L' → Ev ρ.length ρ H ρ' H' → Kn P w K H' ρ' L' → RA K H' ρ' z z' → q z' H') → r u H q
def wUn (b : AV → List AO → WK → Prop) (wa : WE) : WE := fun δ L Q => wa δ L fun x L1 => b x L1 Q
theorem a_un {op : UnaryOp} {r : V → Hp → VK → Prop} {b1 : AV → List AO → WK → Prop} {wa : WE} (ho : UnR X (unaryOp op) r) (hb : Un1 X.prog X.w X.K r b1) (ha : AE X a wa) : AE X (.UnaryOp op a pos) (wUn b1 wa) := by
  refine PE.of (pe_un ho ha) fun σ H q h => ?_
  obtain ⟨δ, L, Q, ρ, hw, kn, re, k⟩ := h
  refine upE.run hw kn re fun x L1 ρ1 u H1 h1 e1 kn1 r1 re1 => ?_
  refine hb x u L1 Q ρ1 H1 q h1 kn1 r1 fun z L' ρ' z' H' hq ev kn' rz => ?_
  exact k z L' ρ' z' H' hq (e1.trans ev (e1.lens (Nat.le_refl _))) kn' rz
/-- either of two rules, by the abstract value -/
def rOr (r s : R2) : R2 := fun x y H Q => r x y H Q ∨ s x y H Q

/-! ### arithmetic -/
def bI (g : Int → Int → D) : B2 := fun x y L Q => asInt x fun i => asInt y fun j => Q (.d (g i j)) L
theorem bin_I {P : Program} {w : World} {K : PySem.W.Frag} {g : Int → Int → D} {g' : Int → Int → V} (h : ∀ H i j, R K H (g i j) (g' i j)) : Bin P w K (rI0 g') (bI g) := by
  intro x y u v L Q ρ H q hb kn rx ry k
  obtain ⟨i, rfl, hb1⟩ := asInt.of hb
  obtain ⟨j, rfl, hb2⟩ := asInt.of hb1
  exact ⟨i, j, rx, ry, k _ L ρ _ H hb2 Ev.refl kn (h H i j)⟩
def bIC (C : Int → Int → Prop) (g : Int → Int → D) : B2 := fun x y L Q => asInt x fun i => asInt y fun j => C i j ∧ Q (.d (g i j)) L
theorem bin_IC {P : Program} {w : World} {K : PySem.W.Frag} {C : Int → Int → Prop} {g : Int → Int → D} {g' : Int → Int → V} (h : ∀ H i j, R K H (g i j) (g' i j)) : Bin P w K (rI C g') (bIC C g) := by
  intro x y u v L Q ρ H q hb kn rx ry k
  obtain ⟨i, rfl, hb1⟩ := asInt.of hb
  obtain ⟨j, rfl, hc, hb2⟩ := asInt.of hb1
  exact ⟨i, j, rx, ry, hc, k _ L ρ _ H hb2 Ev.refl kn (h H i j)⟩
/-- a + b of ints, texts, tuples, lists -/
def bAdd : B2 := fun x y L Q => match x, y with
  | .d (.int i), .d (.int j) => Q (.d (.int (i + j))) L
  | .d (.str i), .d (.str j) => i.length + j.length ≤ sizeLine ∧ Q (.d (.str (i ++ j))) L
  | .d (.tuple i), .d (.tuple j) => i.length + j.length ≤ sizeLine ∧ Q (.d (.tuple (i ++ j))) L
  | .ref i, .ref j => asDl L (.ref i) fun _ ds => asDl L (.ref j) fun _ es => ds.length + es.length ≤ sizeLine ∧ Q (.ref L.length) (L ++ [.dl (ds ++ es)])
  | _, _ => False
def rAddU (K : PySem.W.Frag) : R2 := fun x y H Q => (rI0 fun i j => .int (i + j)) x y H Q ∨ (∃ i j, x = .str i ∧ y = .str j ∧ i.length + j.length ≤ sizeLine ∧ Q (.str (i ++ j)) H) ∨ rCatA K x y H Q ∨ rCat x y H Q
theorem op_addU : OpR X (binaryOp .Add) (rAddU X.K) := op_add.or (op_add_str.or (op_catA.or op_cat))
theorem bin_add {P : Program} {w : World} {K : PySem.W.Frag} : Bin P w K (rAddU K) bAdd := by
  intro x y u v L Q ρ H q hb kn rx ry k
  unfold bAdd at hb
  split at hb
  · exact .inl ⟨_, _, rx, ry, k _ L ρ _ H hb Ev.refl kn rfl⟩
  · exact .inr (.inl ⟨_, _, rx, ry, hb.1, k _ L ρ _ H hb.2 Ev.refl kn rfl⟩)
  · rename_i ds es
    obtain ⟨a, vs, e1, h1, s1⟩ := rx
    obtain ⟨b, ws, e2, h2, s2⟩ := ry
    refine .inr (.inr (.inl ⟨a, b, vs, ws, e1, e2, SqT.of h1, SqT.of h2, by rw [s1.len, s2.len]; exact hb.1, fun z => ?_, fun _ z => ?_, fun _ _ p hp => ?_⟩))
    · refine k _ L ρ _ H hb.2 Ev.refl kn ⟨b, ws, rfl, h2, ?_⟩
      have : ds = [] := by
        have := s1.len
        rw [z] at this
        exact List.length_eq_zero_iff.mp this.symm
      rw [this]
      exact s2
    · refine k _ L ρ _ H hb.2 Ev.refl kn ⟨a, vs, rfl, h1, ?_⟩
      have : es = [] := by
        have := s2.len
        rw [z] at this
        exact List.length_eq_zero_iff.mp this.symm
      rw [this, List.append_nil]
      exact s1
    · obtain ⟨kn', ev', r'⟩ := kn.tup hp (s1.append s2)
      exact k _ L ρ _ _ hb.2 ev' kn' r'
  · obtain ⟨_, ds, e1, h1, hb⟩ := asDl.of hb
    obtain ⟨_, es, e2, h2, hz, hb⟩ := asDl.of hb
    cases e1; cases e2
    obtain ⟨a, vs, a1, a2, a3⟩ := kn.dl h1
    obtain ⟨b, ws, b1, b2, b3⟩ := kn.dl h2
    obtain ⟨a', c1, rfl⟩ := rx
    obtain ⟨b', c2, rfl⟩ := ry
    rw [c1] at a1; cases a1
    rw [c2] at b1; cases b1
    refine .inr (.inr (.inr ⟨_, _, vs, ws, rfl, rfl, a2, b2, by rw [a3.len, b3.len]; exact hz, fun p hp => ?_⟩))
    obtain ⟨kn', ev', r'⟩ := kn.newL hp (a3.append b3)
    exact k _ _ _ _ _ hb ev' kn' ⟨p, r', rfl⟩
  · exact hb.elim
theorem a_add {wa wb : WE} (ha : AE X a wa) (hb : AE X b wb) : AE X (.BinOp a .Add b pos) (wBin bAdd wa wb) := a_op op_addU bin_add ha hb
theorem a_sub {wa wb : WE} (ha : AE X a wa) (hb : AE X b wb) : AE X (.BinOp a .Sub b pos) (wBin (bI fun i j => .int (i - j)) wa wb) := a_op op_sub (bin_I fun _ _ _ => rfl) ha hb
theorem a_mul {wa wb : WE} (ha : AE X a wa) (hb : AE X b wb) : AE X (.BinOp a .Mult b pos) (wBin (bIC CMul fun i j => .int (i * j)) wa wb) := a_op op_mul (bin_IC fun _ _ _ => rfl) ha hb
theorem a_mulW {wa wb : WE} (ha : AE X a wa) (hb : AE X b wb) : AE X (.BinOp a .Mult b pos) (wBin (bIC CMulW fun i j => .int (i * j)) wa wb) := a_op op_mulW (bin_IC fun _ _ _ => rfl) ha hb
theorem a_mod {wa wb : WE} (ha : AE X a wa) (hb : AE X b wb) : AE X (.BinOp a .Mod b pos) (wBin (bIC (fun _ j => 0 < j) fun i j => .int (i % j)) wa wb) := a_op op_mod (bin_IC fun _ _ _ => rfl) ha hb
theorem a_fdiv {wa wb : WE} (ha : AE X a wa) (hb : AE X b wb) : AE X (.BinOp a .FloorDiv b pos) (wBin (bIC CDiv fun i j => .int (i / j)) wa wb) := a_op op_fdiv (bin_IC fun _ _ _ => rfl) ha hb
theorem a_fdivW {wa wb : WE} (ha : AE X a wa) (hb : AE X b wb) : AE X (.BinOp a .FloorDiv b pos) (wBin (bIC CDivW fun i j => .int (i / j)) wa wb) := a_op op_fdivW (bin_IC fun _ _ _ => rfl) ha hb
theorem a_pow {wa wb : WE} (ha : AE X a wa) (hb : AE X b wb) : AE X (.BinOp a .Pow b pos) (wBin (bIC CPow fun i j => .int (i ^ j.toNat)) wa wb) := a_op op_pow (bin_IC fun _ _ _ => rfl) ha hb
def bNeg : AV → List AO → WK → Prop := fun x L Q => asInt x fun i => Q (.d (.int (-i))) L
theorem a_neg {wa : WE} (ha : AE X a wa) : AE X (.UnaryOp .USub a pos) (wUn bNeg wa) := a_un un_neg (fun x u L Q ρ H q hb kn rx k => by
  obtain ⟨i, rfl, hb⟩ := asInt.of hb
  exact ⟨i, rx, k _ L ρ _ H hb Ev.refl kn rfl⟩) ha

/-! ### comparisons -/
def bLt : B2 := fun x y L Q => match x, y with
  | .d (.int i), .d (.int j) => Q (.d (.bool (decide (i < j)))) L
  | .d (.str i), .d (.str j) => Q (.d (.bool (decide (i.cps.toList < j.cps.toList)))) L
  | _, _ => False
def rLtU : R2 := fun x y H Q => (rI0 fun i j => .bl (decide (i < j))) x y H Q ∨ (∃ i j, x = .str i ∧ y = .str j ∧ Q (.bl (decide (i.cps.toList < j.cps.toList))) H)
theorem op_ltU : OpR X (compareOp .Lt) rLtU := op_lt.or op_lt_str
theorem bin_lt {P : Program} {w : World} {K : PySem.W.Frag} : Bin P w K rLtU bLt := by
  intro x y u v L Q ρ H q hb kn rx ry k
  unfold bLt at hb
  split at hb
  · exact .inl ⟨_, _, rx, ry, k _ L ρ _ H hb Ev.refl kn rfl⟩
  · exact .inr ⟨_, _, rx, ry, k _ L ρ _ H hb Ev.refl kn rfl⟩
  · exact hb.elim
def bLe : B2 := fun x y L Q => match x, y with
  | .d (.int i), .d (.int j) => Q (.d (.bool (decide (i ≤ j)))) L
  | .d (.str i), .d (.str j) => Q (.d (.bool (!decide (j.cps.toList < i.cps.toList)))) L
  | _, _ => False
def rLeU : R2 := fun x y H Q => (rI0 fun i j => .bl (decide (i ≤ j))) x y H Q ∨ (∃ i j, x = .str i ∧ y = .str j ∧ Q (.bl (!decide (j.cps.toList < i.cps.toList))) H)
theorem op_leU : OpR X (compareOp .LtE) rLeU := op_le.or op_le_str
theorem bin_le {P : Program} {w : World} {K : PySem.W.Frag} : Bin P w K rLeU bLe := by
  intro x y u v L Q ρ H q hb kn rx ry k
  unfold bLe at hb
  split at hb
  · exact .inl ⟨_, _, rx, ry, k _ L ρ _ H hb Ev.refl kn rfl⟩
  · exact .inr ⟨_, _, rx, ry, k _ L ρ _ H hb Ev.refl kn rfl⟩
  · exact hb.elim
def rEqP (K : PySem.W.Frag) (neg : Bool) : R2 := fun x y H Q => ∃ d e, Dp K H x d ∧ Dp K H y e ∧ d.plain = true ∧ e.plain = true ∧ (d.depth ≤ 64 ∨ e.depth ≤ 64) ∧ Q (.bl (if neg then !PyData.eqv d e else PyData.eqv d e)) H
theorem op_eqP (hu : X.A.units + 64 < cLine) : OpR X (compareOp .Eq) (rEqP X.K false) := by
  intro pins s σ H x y v u Q I rx ry h
  obtain ⟨d, e, hd, he, sd, se, hz, q⟩ := h
  obtain ⟨as, r1⟩ := Dp.reads I d x v hd rx
  obtain ⟨bs, r2⟩ := Dp.reads I e y u he ry
  exact SeqAt.eq_plain r1 r2 sd se (by rcases hz with h | h <;> omega) ⟨.bl _, H, I, rfl, q⟩
theorem op_neP (hu : X.A.units + 64 < cLine) : OpR X (compareOp .NotEq) (rEqP X.K true) := by
  intro pins s σ H x y v u Q I rx ry h
  obtain ⟨d, e, hd, he, sd, se, hz, q⟩ := h
  obtain ⟨as, r1⟩ := Dp.reads I d x v hd rx
  obtain ⟨bs, r2⟩ := Dp.reads I e y u he ry
  exact SeqAt.ne_plain r1 r2 sd se (by rcases hz with h | h <;> omega) ⟨.bl _, H, I, rfl, q⟩
/-- the data that a value or a list stands for -/
def asDat (L : List AO) (x : AV) (k : D → Prop) : Prop := match x with
  | .d d => k d
  | .ref i => asSeq L (.ref i) fun ds => k (.list ds)
  | _ => False
theorem asDat.of {P : Program} {w : World} (K : PySem.W.Frag) {L : List AO} {ρ : List Addr} {H : Hp} {x : AV} {u : V} {k : D → Prop} (h : asDat L x k) (kn : Kn P w K H ρ L) (r : RA K H ρ x u) : ∃ d, Dp K H u d ∧ k d := by
  unfold asDat at h
  split at h
  · exact ⟨_, R.dp _ _ r, h⟩
  · obtain ⟨a, vs, ds, rfl, h2, h3, h4⟩ := asSeq.of h kn r
    exact ⟨.list ds, .lst h2 (Rs.dp _ _ h3), h4⟩
  · exact h.elim
def EqOk (d e : D) : Prop := d.plain = true ∧ e.plain = true ∧ (d.depth ≤ 64 ∨ e.depth ≤ 64)
def bEq (neg : Bool) : B2 := fun x y L Q => match x, y with
  | .d (.int i), .d (.int j) => Q (.d (.bool (if neg then !decide (i = j) else decide (i = j)))) L
  | .d (.str i), .d (.str j) => Q (.d (.bool (if neg then !decide (i = j) else decide (i = j)))) L
  | x, y => asDat L x fun d => asDat L y fun e => EqOk d e ∧ Q (.d (.bool (if neg then !PyData.eqv d e else PyData.eqv d e))) L
theorem eqv_int (i j : Int) : PyData.eqv (.int i) (.int j) = decide (i = j) := by
  rw [PyData.eqv]
  by_cases e : i = j
  · simp [e]
  · simp [e]
theorem eqv_str (i j : Str) : PyData.eqv (.str i) (.str j) = decide (i = j) := by
  rw [PyData.eqv]
  by_cases e : i = j
  · simp [e]
  · simp [e]
theorem bin_eq {P : Program} {w : World} {K : PySem.W.Frag} {neg : Bool} : Bin P w K (rEqP K neg) (bEq neg) := by
  intro x y u v L Q ρ H q hb kn rx ry k
  unfold bEq at hb
  split at hb
  · refine ⟨_, _, R.dp _ _ rx, R.dp _ _ ry, rfl, rfl, .inl (by rw [PyData.depth]; decide), k _ L ρ _ H hb Ev.refl kn ?_⟩
    rw [eqv_int]; rfl
  · refine ⟨_, _, R.dp _ _ rx, R.dp _ _ ry, rfl, rfl, .inl (by rw [PyData.depth]; decide), k _ L ρ _ H hb Ev.refl kn ?_⟩
    rw [eqv_str]; rfl
  · obtain ⟨d, hd, hb⟩ := asDat.of K hb kn rx
    obtain ⟨e, he, ⟨h1, h2, h3⟩, hb⟩ := asDat.of K hb kn ry
    exact ⟨d, e, hd, he, h1, h2, h3, k _ L ρ _ H hb Ev.refl kn rfl⟩
theorem bin_gt {P : Program} {w : World} {K : PySem.W.Frag} : Bin P w K (rI0 fun i j => .bl (decide (j < i))) (bI fun i j => .bool (decide (j < i))) := bin_I fun _ _ _ => rfl
theorem bin_ge {P : Program} {w : World} {K : PySem.W.Frag} : Bin P w K (rI0 fun i j => .bl (decide (j ≤ i))) (bI fun i j => .bool (decide (j ≤ i))) := bin_I fun _ _ _ => rfl
/-- is None -/
def bIsN (neg : Bool) : B2 := fun x y L Q => match y with
  | .d .none => match x with
    | .d .none => Q (.d (.bool (!neg))) L
    | .d (.bool _) => Q (.d (.bool neg)) L
    | .d (.int _) => Q (.d (.bool neg)) L
    | .d (.str _) => Q (.d (.bool neg)) L
    | .d (.tuple _) => Q (.d (.bool neg)) L
    | .ref _ => Q (.d (.bool neg)) L
    | _ => False
  | _ => False
theorem bin_isN {P : Program} {w : World} {K : PySem.W.Frag} {neg : Bool} : Bin P w K (fun x y H Q => y = .non ∧ Q (.bl (if neg then !decide (x = .non) else decide (x = .non))) H) (bIsN neg) := by
  intro x y u v L Q ρ H q hb kn rx ry k
  unfold bIsN at hb
  split at hb
  · refine ⟨ry, ?_⟩
    split at hb
    · have : u = .non := rx
      subst this
      refine k _ L ρ _ H hb Ev.refl kn ?_
      cases neg <;> rfl
    · have : u = .bl _ := rx
      subst this
      refine k _ L ρ _ H hb Ev.refl kn ?_
      cases neg <;> simp [RA, R]
    · have : u = .int _ := rx
      subst this
      refine k _ L ρ _ H hb Ev.refl kn ?_
      cases neg <;> simp [RA, R]
    · have : u = .str _ := rx
      subst this
      refine k _ L ρ _ H hb Ev.refl kn ?_
      cases neg <;> simp [RA, R]
    · obtain ⟨a, vs, rfl, _⟩ := rx
      refine k _ L ρ _ H hb Ev.refl kn ?_
      cases neg <;> simp [RA, R]
    · obtain ⟨a, _, rfl⟩ := rx
      refine k _ L ρ _ H hb Ev.refl kn ?_
      cases neg <;> simp [RA, R]
    · exact hb.elim
  · exact hb.elim
theorem op_isN' : OpR X (compareOp .Is) (fun x y H Q => y = .non ∧ Q (.bl (if false then !decide (x = .non) else decide (x = .non))) H) := by simpa using op_isN (X := X)
theorem op_notN' : OpR X (compareOp .IsNot) (fun x y H Q => y = .non ∧ Q (.bl (if true then !decide (x = .non) else decide (x = .non))) H) := by simpa using op_notN (X := X)

/-! ### items -/
theorem atI_R {H : Hp} {ds : List D} {vs : List V} {i : Int} {d : D} (h : Rs K H ds vs) (e : atI ds i = some d) : ∃ v, atI vs i = some v ∧ R K H d v := by
  unfold atI at e ⊢
  rw [h.len]
  cases hj : ixN ds.length i with
  | none => rw [hj] at e; cases e
  | some j =>
    rw [hj] at e
    exact h.getD e
theorem atI_ref {ρ : List Addr} {ks : List Nat} {as : List Addr} {i : Int} {k : Nat} (h : Paired (fun k b => ρ[k]? = some b) ks as) (e : atI ks i = some k) : ∃ a, atI (as.map V.ref) i = some (.ref a) ∧ ρ[k]? = some a := by
  unfold atI at e ⊢
  rw [List.length_map, ← Paired.length h]
  cases hj : ixN ks.length i with
  | none => rw [hj] at e; cases e
  | some j =>
    rw [hj] at e
    have e' : ks[j]? = some k := e
    have : ∀ (ks : List Nat) (as : List Addr) (j : Nat), Paired (fun k b => ρ[k]? = some b) ks as → ks[j]? = some k → ∃ a, as[j]? = some a ∧ ρ[k]? = some a := by
      intro ks as j h
      induction h generalizing j with
      | nil => intro z; simp at z
      | cons q _ ih =>
        intro z
        cases j with
        | zero => simp at z; subst z; exact ⟨_, rfl, q⟩
        | succ j => simpa using ih j (by simpa using z)
    obtain ⟨a, h1, h2⟩ := this ks as j h e'
    exact ⟨a, by simp [h1], h2⟩
def bIx : B2 := fun x y L Q => asInt y fun i => match x with
  | .d (.tuple ds) => ∃ d, atI ds i = some d ∧ Q (.d d) L
  | .d (.list ds) => ∃ d, atI ds i = some d ∧ Q (.d d) L
  | .d (.str s) => ∃ c, s.length ≤ sizeLine ∧ atI s.cps.toList i = some c ∧ Q (.d (.str ⟨#[c]⟩)) L
  | .ref k => at0 L k fun o => match o with
    | .dl ds => ∃ d, atI ds i = some d ∧ Q (.d d) L
    | .rl ks => ∃ j, atI ks i = some j ∧ Q (.ref j) L
    | _ => False
  | _ => False
theorem bin_ix {P : Program} {w : World} {K : PySem.W.Frag} : Bin P w K (rIx K) bIx := by
  intro x y u v L Q ρ H q hb kn rx ry k
  obtain ⟨i, rfl, hb1⟩ := asInt.of hb
  have ey : v = .int i := ry
  subst ey
  clear hb
  have hb := hb1
  clear hb1
  split at hb
  · rename_i ds
    obtain ⟨a, vs, rfl, h1, h2⟩ := rx
    obtain ⟨d, e, hb⟩ := hb
    obtain ⟨v, e1, e2⟩ := atI_R h2 e
    exact .inr (.inl ⟨a, vs, i, v, rfl, rfl, SqT.of h1, e1, k _ L ρ _ H hb Ev.refl kn e2⟩)
  · obtain ⟨a, vs, rfl, h1, h2⟩ := rx
    obtain ⟨d, e, hb⟩ := hb
    obtain ⟨v, e1, e2⟩ := atI_R h2 e
    exact .inl ⟨a, vs, i, v, rfl, rfl, h1.sq, e1, k _ L ρ _ H hb Ev.refl kn e2⟩
  · have ex : u = .str _ := rx
    subst ex
    obtain ⟨c, hz, e, hb⟩ := hb
    exact .inr (.inr ⟨_, i, c, rfl, rfl, hz, e, k _ L ρ _ H hb Ev.refl kn rfl⟩)
  · obtain ⟨a, ha, rfl⟩ := rx
    obtain ⟨o, ho, hb⟩ := at0.of hb
    split at hb
    · obtain ⟨d, e, hb⟩ := hb
      obtain ⟨a', vs, h1, h2, h3⟩ := kn.dl ho
      rw [ha] at h1; cases h1
      obtain ⟨v, e1, e2⟩ := atI_R h3 e
      exact .inl ⟨a, vs, i, v, rfl, rfl, SqL.of h2, e1, k _ L ρ _ H hb Ev.refl kn e2⟩
    · obtain ⟨j, e, hb⟩ := hb
      obtain ⟨a', as, h1, h2, h3⟩ := kn.rl ho
      rw [ha] at h1; cases h1
      obtain ⟨b, e1, e2⟩ := atI_ref h3 e
      exact .inl ⟨a, _, i, _, rfl, rfl, SqL.of h2, e1, k _ L ρ _ H hb Ev.refl kn ⟨b, e2, rfl⟩⟩
    · exact hb.elim
  · exact hb.elim
theorem a_ix {wa wb : WE} (ha : AE X a wa) (hb : AE X b wb) (hs : PlainIx b := by exact fun _ _ => rfl) : AE X (.Subscript a b pos) (wBin bIx wa wb) := PE.of (pe_ix ix_seq ha hb hs) fun _ _ _ h => up_bin bin_ix h

/-! ### rows of arguments, displays -/
def wNil : WA := fun _ L Q => Q [] L
def wCons (wa : WE) (wr : WA) : WA := fun δ L Q => wa δ L fun x L1 => wr δ L1 fun xs L2 => Q (x :: xs) L2
theorem aa_nil : AA X [] wNil := by
  refine PA.of pa_nil fun σ H q h => ?_
  obtain ⟨δ, L, Q, ρ, hw, kn, re, k⟩ := h
  exact k [] L ρ [] H hw Ev.refl kn .nil
theorem aa_cons {es : List Expr} {wa : WE} {wr : WA} (ha : AE X e wa) (hr : AA X es wr) (hs : starEach (e :: es) X.env = (false, eval e X.env) :: starEach es X.env := by rfl) : AA X (e :: es) (wCons wa wr) := by
  refine PA.of (pa_cons ha hr hs) fun σ H q h => ?_
  obtain ⟨δ, L, Q, ρ, hw, kn, re, k⟩ := h
  refine upE.run hw kn re fun x L1 ρ1 u H1 h1 e1 kn1 r1 re1 => ?_
  refine upA.run h1 kn1 re1 fun xs L2 ρ2 vs H2 h2 e2 kn2 r2 re2 => ?_
  exact k (x :: xs) L2 ρ2 (u :: vs) H2 h2 (e1.trans e2 (e1.lens (Nat.le_refl _))) kn2 (.cons (r1.mono kn1 e2 (Nat.le_refl _)) r2)
def wTup (wa : WA) : WE := fun δ L Q => wa δ L fun xs L1 => asDs xs fun ds => ds.length ≤ sizeLine ∧ Q (.d (.tuple ds)) L1
theorem a_tup {es : List Expr} {k : Nat} {wa : WA} (ha : AA X es wa) : AE X (.Tuple es k pos) (wTup wa) := by
  refine PE.of (pe_tup ha) fun σ H q h => ?_
  obtain ⟨δ, L, Q, ρ, hw, kn, re, k⟩ := h
  refine upA.run hw kn re fun xs L1 ρ1 vs H1 h1 e1 kn1 r1 re1 => ?_
  obtain ⟨ds, rfl, hz, h1⟩ := asDs.of h1
  have hs := RAs.ds r1
  refine ⟨by rw [hs.len]; exact hz, fun p hp => ?_⟩
  obtain ⟨kn', ev', r'⟩ := kn1.tup hp hs
  exact k _ L1 ρ1 _ _ h1 (e1.trans ev' (e1.lens (Nat.le_refl _))) kn' r'
def wLst (wa : WA) : WE := fun δ L Q => wa δ L fun xs L1 => asDs xs fun ds => ds.length ≤ sizeLine ∧ Q (.ref L1.length) (L1 ++ [.dl ds])
theorem a_lst {es : List Expr} {wa : WA} (ha : AA X es wa) : AE X (.List es pos) (wLst wa) := by
  refine PE.of (pe_lst ha) fun σ H q h => ?_
  obtain ⟨δ, L, Q, ρ, hw, kn, re, k⟩ := h
  refine upA.run hw kn re fun xs L1 ρ1 vs H1 h1 e1 kn1 r1 re1 => ?_
  obtain ⟨ds, rfl, hz, h1⟩ := asDs.of h1
  have hs := RAs.ds r1
  refine ⟨by rw [hs.len]; exact hz, fun p hp => ?_⟩
  obtain ⟨kn', ev', r'⟩ := kn1.newL hp hs
  exact k _ _ _ _ _ h1 (e1.trans ev' (e1.lens (Nat.le_refl _))) kn' ⟨p, r', rfl⟩
/-- a display of lists -/
def wRst (wa : WA) : WE := fun δ L Q => wa δ L fun xs L1 => asRefs xs fun ds => ds.length ≤ sizeLine ∧ Q (.ref L1.length) (L1 ++ [.rl ds])
theorem a_rst {es : List Expr} {wa : WA} (ha : AA X es wa) : AE X (.List es pos) (wRst wa) := by
  refine PE.of (pe_lst ha) fun σ H q h => ?_
  obtain ⟨δ, L, Q, ρ, hw, kn, re, k⟩ := h
  refine upA.run hw kn re fun xs L1 ρ1 vs H1 h1 e1 kn1 r1 re1 => ?_
  obtain ⟨ds, rfl, hz, h1⟩ := asRefs.of h1
  obtain ⟨as, rfl, hs⟩ := RAs.refs r1
  refine ⟨by rw [List.length_map, ← Paired.length hs]; exact hz, fun p hp => ?_⟩
  obtain ⟨kn', ev', r'⟩ := kn1.newR hp hs
  exact k _ _ _ _ _ h1 (e1.trans ev' (e1.lens (Nat.le_refl _))) kn' ⟨p, r', rfl⟩
end
end AB

set_option Elab.async false
set_option linter.all false
set_option maxRecDepth 100000
set_option autoImplicit false
namespace AB
open PySem L2
variable {K : PySem.W.Frag}
section
variable {X : Cx} {e a b c : Expr} {pos : Pos}

/-! ### calls of built-ins -/
def Cal (P : Program) (w : World) (K : PySem.W.Frag) (r : List V → Hp → VK → Prop) (b : List AV → List AO → WK → Prop) : Prop := ∀ (xs : List AV) (vs : List V) (L : List AO) (Q : WK) (ρ : List Addr) (H : Hp) (q : VK), b xs L Q → Kn P w K H ρ L → Paired (RA K H ρ) xs vs →
  (∀ z L' ρ' z' H', Q z L' → Ev ρ.length ρ H ρ' H' → Kn P w K H' ρ' L' → RA K H' ρ' z z' → q z' H') → r vs H q
def wCal (b : List AV → List AO → WK → Prop) (wa : WA) : WE := fun δ L Q => wa δ L fun xs L1 => b xs L1 Q
theorem up_cal {P : Program} {w : World} {K : PySem.W.Frag} {r : List V → Hp → VK → Prop} {b : List AV → List AO → WK → Prop} {wa : WA} (hb : Cal P w K r b) {σ : St} {H : Hp} {q : VK} (h : upE P w K (wCal b wa) σ H q) : tCB r (upA P w K wa) σ H q := by
  obtain ⟨δ, L, Q, ρ, hw, kn, re, k⟩ := h
  refine upA.run hw kn re fun xs L1 ρ1 vs H1 h1 e1 kn1 r1 re1 => ?_
  exact hb xs vs L1 Q ρ1 H1 q h1 kn1 r1 fun z L' ρ' z' H' hq ev kn' rz => k z L' ρ' z' H' hq (e1.trans ev (e1.lens (Nat.le_refl _))) kn' rz
theorem CallR.or {f : Value} {r r' : List V → Hp → VK → Prop} (h : CallR X f r) (h' : CallR X f r') : CallR X f (fun xs H Q => r xs H Q ∨ r' xs H Q) := by
  intro pins s σ H xs us Q I rx hr
  rcases hr with hr | hr
  · exact h pins s σ H xs us Q I rx hr
  · exact h' pins s σ H xs us Q I rx hr
theorem a_callB {x : Str} {p : Pos} {es : List Expr} {id : String} {r : List V → Hp → VK → Prop} {b : List AV → List AO → WK → Prop} {wa : WA} (hr : CallR X (.builtin id) r) (hb : Cal X.prog X.w X.K r b) (hg : Gl X x) (hm : X.mg x = none) (hv : bootBuiltins x = some (.builtin id))
    (ha : AA X (e :: es) wa) (h1 : x ≠ "__name__" := by decide) (h2 : (x == ("__debug__" : Str)) = false := by decide) (h3 : starEach (e :: es) X.env = (false, eval e X.env) :: starEach es X.env := by rfl) (h4 : (backTo pos (starEach es X.env)).any (·.1) = false := by rfl) :
    AE X (.Call (.Name x p) (e :: es) [] pos) (wCal b wa) := PE.of (pe_callB hr hg hm hv ha h1 h2 h3 h4) fun _ _ _ h => up_cal hb h
theorem a_callTy {x : Str} {p : Pos} {es : List Expr} {T : String} {r : List V → Hp → VK → Prop} {b : List AV → List AO → WK → Prop} {wa : WA} (hr : CallR X (.type T) r) (hb : Cal X.prog X.w X.K r b) (hg : Gl X x) (hm : X.mg x = none) (hv : bootBuiltins x = some (.type T))
    (ha : AA X (e :: es) wa) (h1 : x ≠ "__name__" := by decide) (h2 : (x == ("__debug__" : Str)) = false := by decide) (h3 : starEach (e :: es) X.env = (false, eval e X.env) :: starEach es X.env := by rfl) (h4 : (backTo pos (starEach es X.env)).any (·.1) = false := by rfl) :
    AE X (.Call (.Name x p) (e :: es) [] pos) (wCal b wa) := PE.of (pe_callTy hr hg hm hv ha h1 h2 h3 h4) fun _ _ _ h => up_cal hb h
def arg1 (xs : List AV) (k : AV → Prop) : Prop := match xs with
  | [x] => k x
  | _ => False
def arg2 (xs : List AV) (k : AV → AV → Prop) : Prop := match xs with
  | [x, y] => k x y
  | _ => False
theorem arg1.of {xs : List AV} {k : AV → Prop} (h : arg1 xs k) : ∃ x, xs = [x] ∧ k x := by
  unfold arg1 at h; split at h
  · exact ⟨_, rfl, h⟩
  · exact h.elim
theorem arg2.of {xs : List AV} {k : AV → AV → Prop} (h : arg2 xs k) : ∃ x y, xs = [x, y] ∧ k x y := by
  unfold arg2 at h; split at h
  · exact ⟨_, _, rfl, h⟩
  · exact h.elim
theorem one_of {α β : Type} {F : α → β → Prop} {x : α} {vs : List β} (h : Paired F [x] vs) : ∃ v, vs = [v] ∧ F x v := by
  cases h with
  | cons q t => cases t; exact ⟨_, rfl, q⟩
theorem two_of {α β : Type} {F : α → β → Prop} {x y : α} {vs : List β} (h : Paired F [x, y] vs) : ∃ u v, vs = [u, v] ∧ F x u ∧ F y v := by
  cases h with
  | cons q t =>
    cases t with
    | cons q2 t2 => cases t2; exact ⟨_, _, rfl, q, q2⟩
/-- len -/
def bLen : List AV → List AO → WK → Prop := fun xs L Q => arg1 xs fun x => match x with
  | .d (.tuple ds) => Q (.d (.int ds.length)) L
  | .d (.list ds) => Q (.d (.int ds.length)) L
  | .d (.str s) => s.length ≤ sizeLine ∧ Q (.d (.int s.length)) L
  | .ref k => at0 L k fun o => match o with
    | .dl ds => Q (.d (.int ds.length)) L
    | .rl ks => Q (.d (.int ks.length)) L
    | .dd kvs => Q (.d (.int kvs.length)) L
    | .dr kvs => Q (.d (.int kvs.length)) L
    | _ => False
  | _ => False
def rLenU (K : PySem.W.Frag) : List V → Hp → VK → Prop := fun xs H Q => (∃ p ys, xs = [.ref p] ∧ (SqL K H p ys ∨ SqT K H p ys) ∧ Q (.int ys.length) H) ∨ (∃ z, xs = [.str z] ∧ z.length ≤ sizeLine ∧ Q (.int z.length) H) ∨ (∃ a kvs, xs = [V.ref a] ∧ H a = some (.dK kvs) ∧ Q (.int kvs.length) H)
theorem call_lenU : CallR X (.builtin "len") (rLenU X.K) := CallR.or call_len_seq (CallR.or call_len_str call_lenD)
theorem cal_len {P : Program} {w : World} {K : PySem.W.Frag} : Cal P w K (rLenU K) bLen := by
  intro xs vs L Q ρ H q hb kn rx k
  obtain ⟨x, rfl, hb1⟩ := arg1.of hb
  obtain ⟨v, rfl, r⟩ := one_of rx
  clear hb rx
  have fin : ∀ n : Nat, Q (.d (.int n)) L → q (.int n) H := fun n h => k _ L ρ _ H h Ev.refl kn rfl
  split at hb1
  · obtain ⟨a, vs, rfl, h1, h2⟩ := r
    exact .inl ⟨a, vs, rfl, .inr (SqT.of h1), by rw [h2.len]; exact fin _ hb1⟩
  · obtain ⟨a, vs, rfl, h1, h2⟩ := r
    exact .inl ⟨a, vs, rfl, .inl h1.sq, by rw [h2.len]; exact fin _ hb1⟩
  · have e : v = .str _ := r
    subst e
    exact .inr (.inl ⟨_, rfl, hb1.1, fin _ hb1.2⟩)
  · obtain ⟨a, ha, rfl⟩ := r
    obtain ⟨o, ho, hb2⟩ := at0.of hb1
    split at hb2
    · obtain ⟨a', vs, h1, h2, h3⟩ := kn.dl ho
      rw [ha] at h1; cases h1
      exact .inl ⟨a, vs, rfl, .inl (SqL.of h2), by rw [h3.len]; exact fin _ hb2⟩
    · obtain ⟨a', as, h1, h2, h3⟩ := kn.rl ho
      rw [ha] at h1; cases h1
      exact .inl ⟨a, _, rfl, .inl (SqL.of h2), by rw [List.length_map, ← Paired.length h3]; exact fin _ hb2⟩
    · obtain ⟨u, h1, ws, rfl, h3⟩ := kn.at ho ha
      exact .inr (.inr ⟨a, ws, rfl, h1, by rw [← Paired.length h3]; exact fin _ hb2⟩)
    · obtain ⟨u, h1, ws, rfl, h3⟩ := kn.at ho ha
      exact .inr (.inr ⟨a, ws, rfl, h1, by rw [← Paired.length h3]; exact fin _ hb2⟩)
    · exact hb2.elim
  · exact hb1.elim
/-- int(n), int(flag) -/
def bInt : List AV → List AO → WK → Prop := fun xs L Q => arg1 xs fun x => match x with
  | .d (.int i) => Q (.d (.int i)) L
  | .d (.bool b) => Q (.d (.int (if b then 1 else 0))) L
  | _ => False
theorem cal_int {P : Program} {w : World} {K : PySem.W.Frag} : Cal P w K (fun xs H Q => (∃ i, xs = [.int i] ∧ Q (.int i) H) ∨ ∃ k, xs = [.bl k] ∧ Q (.int (if k then 1 else 0)) H) bInt := by
  intro xs vs L Q ρ H q hb kn rx k
  obtain ⟨x, rfl, hb1⟩ := arg1.of hb
  obtain ⟨v, rfl, r⟩ := one_of rx
  clear hb rx
  split at hb1
  · have e : v = .int _ := r
    subst e
    exact .inl ⟨_, rfl, k _ L ρ _ H hb1 Ev.refl kn rfl⟩
  · have e : v = .bl _ := r
    subst e
    exact .inr ⟨_, rfl, k _ L ρ _ H hb1 Ev.refl kn rfl⟩
  · exact hb1.elim
def bAbs : List AV → List AO → WK → Prop := fun xs L Q => arg1 xs fun x => asInt x fun i => Q (.d (.int (if i < 0 then -i else i))) L
theorem cal_abs {P : Program} {w : World} {K : PySem.W.Frag} : Cal P w K (fun xs H Q => ∃ i, xs = [.int i] ∧ Q (.int (if i < 0 then -i else i)) H) bAbs := by
  intro xs vs L Q ρ H q hb kn rx k
  obtain ⟨x, rfl, hb1⟩ := arg1.of hb
  obtain ⟨i, rfl, hb2⟩ := asInt.of hb1
  obtain ⟨v, rfl, r⟩ := one_of rx
  exact ⟨i, by rw [show v = .int i from r], k _ L ρ _ H hb2 Ev.refl kn rfl⟩
def bMm (g : Int → Int → Int) : List AV → List AO → WK → Prop := fun xs L Q => arg2 xs fun x y => asInt x fun i => asInt y fun j => Q (.d (.int (g i j))) L
theorem cal_mm {P : Program} {w : World} {K : PySem.W.Frag} {g : Int → Int → Int} : Cal P w K (fun xs H Q => ∃ i j, xs = [.int i, .int j] ∧ Q (.int (g i j)) H) (bMm g) := by
  intro xs vs L Q ρ H q hb kn rx k
  obtain ⟨x, y, rfl, hb1⟩ := arg2.of hb
  obtain ⟨i, rfl, hb2⟩ := asInt.of hb1
  obtain ⟨j, rfl, hb3⟩ := asInt.of hb2
  obtain ⟨u, v, rfl, r1, r2⟩ := two_of rx
  exact ⟨i, j, by rw [show u = .int i from r1, show v = .int j from r2], k _ L ρ _ H hb3 Ev.refl kn rfl⟩
/-- list(xs), tuple(xs) -/
def seqOf (L : List AO) (x : AV) (k : List D → Prop) : Prop := match x with
  | .d (.tuple ds) => k ds
  | .d (.list ds) => k ds
  | .ref i => asSeq L (.ref i) k
  | _ => False
def bList : List AV → List AO → WK → Prop := fun xs L Q => arg1 xs fun x => seqOf L x fun ds => Q (.ref L.length) (L ++ [.dl ds])
theorem seqOf.of {P : Program} {w : World} (K : PySem.W.Frag) {L : List AO} {ρ : List Addr} {H : Hp} {x : AV} {v : V} {k : List D → Prop} (h : seqOf L x k) (kn : Kn P w K H ρ L) (r : RA K H ρ x v) :
    ∃ a vs ds, v = .ref a ∧ (SqL K H a vs ∨ (SqT K H a vs ∧ H a = some (.tup vs))) ∧ Rs K H ds vs ∧ k ds := by
  unfold seqOf at h
  split at h
  · obtain ⟨a, vs, rfl, h1, h2⟩ := r
    exact ⟨a, vs, _, rfl, .inr ⟨SqT.of h1, h1⟩, h2, h⟩
  · obtain ⟨a, vs, rfl, h1, h2⟩ := r
    exact ⟨a, vs, _, rfl, .inl h1.sq, h2, h⟩
  · obtain ⟨a, vs, ds, rfl, h2, h3, h4⟩ := asSeq.of h kn r
    exact ⟨a, vs, ds, rfl, .inl h2, h3, h4⟩
  · exact h.elim
theorem cal_list {P : Program} {w : World} {K : PySem.W.Frag} : Cal P w K (fun xs H Q => ∃ p ys, xs = [.ref p] ∧ (SqL K H p ys ∨ SqT K H p ys) ∧ ∀ l, H l = none → Q (.ref l) (upd H l (.lst ys))) bList := by
  intro xs vs L Q ρ H q hb kn rx k
  obtain ⟨x, rfl, hb1⟩ := arg1.of hb
  obtain ⟨v, rfl, r⟩ := one_of rx
  obtain ⟨a, vs, ds, rfl, hs, hr, hk⟩ := hb1.of K kn r
  refine ⟨a, vs, rfl, ?_, fun l hl => ?_⟩
  · rcases hs with h | h
    · exact .inl h
    · exact .inr h.1
  · obtain ⟨kn', ev', r'⟩ := kn.newL hl hr
    exact k _ _ _ _ _ hk ev' kn' ⟨l, r', rfl⟩
def bTuple : List AV → List AO → WK → Prop := fun xs L Q => arg1 xs fun x => seqOf L x fun ds => Q (.d (.tuple ds)) L
theorem cal_tuple {P : Program} {w : World} {K : PySem.W.Frag} : Cal P w K (fun xs H Q => ∃ p ys, xs = [.ref p] ∧ ((SqL K H p ys ∧ ∀ l, H l = none → Q (.ref l) (upd H l (.tup ys))) ∨ (SqT K H p ys ∧ Q (.ref p) H))) bTuple := by
  intro xs vs L Q ρ H q hb kn rx k
  obtain ⟨x, rfl, hb1⟩ := arg1.of hb
  obtain ⟨v, rfl, r⟩ := one_of rx
  obtain ⟨a, vs, ds, rfl, hs, hr, hk⟩ := hb1.of K kn r
  refine ⟨a, vs, rfl, ?_⟩
  rcases hs with h | h
  · refine .inl ⟨h, fun l hl => ?_⟩
    obtain ⟨kn', ev', r'⟩ := kn.tup hl hr
    exact k _ _ _ _ _ hk ev' kn' r'
  · exact .inr ⟨h.1, k _ L ρ _ H hk Ev.refl kn ⟨a, vs, rfl, h.2, hr⟩⟩
/-- sorted(xs), whole numbers -/
def bSortI : List AV → List AO → WK → Prop := fun xs L Q => arg1 xs fun x => asSeq L x fun ds => ∃ ns : List Int, ds = ns.map PyData.int ∧ ∀ ms : List Int, ms.Perm ns → ms.Pairwise (· ≤ ·) → Q (.ref L.length) (L ++ [.dl (ms.map PyData.int)])
theorem cal_sortI {P : Program} {w : World} {K : PySem.W.Frag} : Cal P w K (rSortedI K) bSortI := by
  intro xs vs L Q ρ H q hb kn rx k
  obtain ⟨x, rfl, hb1⟩ := arg1.of hb
  obtain ⟨v, rfl, r⟩ := one_of rx
  obtain ⟨a, vs, ds, rfl, h2, h3, ns, rfl, hk⟩ := asSeq.of hb1 kn r
  have e : vs = ns.map V.int := Rs.ints.mp h3
  subst e
  refine ⟨a, ns, rfl, h2, fun ms p hp ho hn => ?_⟩
  obtain ⟨kn', ev', r'⟩ := kn.newL (vs := ms.map V.int) (ds := ms.map PyData.int) hn (Rs.ints.mpr rfl)
  exact k _ _ _ _ _ (hk ms hp ho) ev' kn' ⟨p, r', rfl⟩
/-- sum(xs), all(xs), any(xs) -/
def bSum : List AV → List AO → WK → Prop := fun xs L Q => arg1 xs fun x => asSeq L x fun ds => ∃ ns : List Int, ds = ns.map PyData.int ∧ Q (.d (.int ns.sum)) L
theorem cal_sum {P : Program} {w : World} {K : PySem.W.Frag} : Cal P w K (rSum K) bSum := by
  intro xs vs L Q ρ H q hb kn rx k
  obtain ⟨x, rfl, hb1⟩ := arg1.of hb
  obtain ⟨v, rfl, r⟩ := one_of rx
  obtain ⟨a, vs, ds, rfl, h2, h3, ns, rfl, hk⟩ := asSeq.of hb1 kn r
  have e : vs = ns.map V.int := Rs.ints.mp h3
  subst e
  exact ⟨a, ns, rfl, h2, k _ L ρ _ H hk Ev.refl kn rfl⟩
def bQuant (f : List Bool → Bool) : List AV → List AO → WK → Prop := fun xs L Q => arg1 xs fun x => asSeq L x fun ds => ∃ ns : List Bool, ds = ns.map PyData.bool ∧ Q (.d (.bool (f ns))) L
theorem cal_quant {P : Program} {w : World} {K : PySem.W.Frag} {f : List Bool → Bool} : Cal P w K (fun vs H Q => ∃ (a : Addr) (bs : List Bool), vs = [V.ref a] ∧ SqL K H a (bs.map V.bl) ∧ Q (.bl (f bs)) H) (bQuant f) := by
  intro xs vs L Q ρ H q hb kn rx k
  obtain ⟨x, rfl, hb1⟩ := arg1.of hb
  obtain ⟨v, rfl, r⟩ := one_of rx
  obtain ⟨a, vs, ds, rfl, h2, h3, ns, rfl, hk⟩ := asSeq.of hb1 kn r
  have e : vs = ns.map V.bl := Rs.bools.mp h3
  subst e
  exact ⟨a, ns, rfl, h2, k _ L ρ _ H hk Ev.refl kn rfl⟩

/-! ### methods of lists -/
def Met (P : Program) (w : World) (K : PySem.W.Frag) (r : V → List V → Hp → VK → Prop) (b : AV → List AV → List AO → WK → Prop) : Prop := ∀ (x : AV) (xs : List AV) (v : V) (vs : List V) (L : List AO) (Q : WK) (ρ : List Addr) (H : Hp) (q : VK), b x xs L Q → Kn P w K H ρ L → RA K H ρ x v → Paired (RA K H ρ) xs vs →
  (∀ z L' ρ' z' H', Q z L' → Ev ρ.length ρ H ρ' H' → Kn P w K H' ρ' L' → RA K H' ρ' z z' → q z' H') → r v vs H q
def isTy (T : String) (x : AV) (L : List AO) : Prop := match x with
  | .d (.str _) => T = "str"
  | .ref k => at0 L k fun o => match o with
    | .dl _ => T = "list"
    | .rl _ => T = "list"
    | _ => False
  | _ => False
theorem isTy.of {P : Program} {w : World} {K : PySem.W.Frag} {T : String} {L : List AO} {ρ : List Addr} {H : Hp} {x : AV} {v : V} (h : isTy T x L) (kn : Kn P w K H ρ L) (r : RA K H ρ x v) : tyV K T v H := by
  unfold isTy at h
  split at h
  · rw [show v = .str _ from r]; exact h
  · obtain ⟨a, ha, rfl⟩ := r
    obtain ⟨o, ho, h⟩ := at0.of h
    split at h
    · obtain ⟨u, h1, vs, rfl, _⟩ := kn.at ho ha
      exact .inl ⟨h, vs, SqL.of h1⟩
    · obtain ⟨u, h1, vs, rfl, _⟩ := kn.at ho ha
      exact .inl ⟨h, _, SqL.of h1⟩
    · exact h.elim
  · exact h.elim
def wMet (T : String) (b : AV → List AV → List AO → WK → Prop) (wo : WE) (wa : WA) : WE := fun δ L Q => wo δ L fun x L1 => isTy T x L1 ∧ wa δ L1 fun xs L2 => b x xs L2 Q
def wMet0 (T : String) (b : AV → List AV → List AO → WK → Prop) (wo : WE) : WE := fun δ L Q => wo δ L fun x L1 => isTy T x L1 ∧ b x [] L1 Q
theorem a_met {o : Expr} {es : List Expr} {name : Str} {apos cpos : Pos} {T id : String} {r : V → List V → Hp → VK → Prop} {b : AV → List AV → List AO → WK → Prop} {wo : WE} {wa : WA}
    (pa : PlainAttrs T) (slot : Slot T name id) (hty : typeOf (.builtin id) = pure (.type "method_descriptor")) (hm : MtR X id r) (hb : Met X.prog X.w X.K r b) (ho : AE X o wo) (ha : AA X (e :: es) wa)
    (h1 : attributeBase o name X.env (eval o X.env) = eval o X.env := by rfl)
    (h2 : ((backTo cpos (starEach (e :: es) X.env)).all (fun x => !x.1) && (backToKw cpos (keywordEach [] X.env)).all (fun x => x.1.isSome) && decide ((e :: es).length + ([] : List Keyword).length + (if ([] : List Keyword).isEmpty then 0 else 1) < 30)) = true := by rfl)
    (h3 : (apos.endLine == cpos.line) = true := by rfl) (h4 : starEach (e :: es) X.env = (false, eval e X.env) :: starEach es X.env := by rfl) (h5 : (backTo cpos (starEach es X.env)).any (·.1) = false := by rfl) :
    AE X (.Call (.Attribute o name apos) (e :: es) [] cpos) (wMet T b wo wa) := by
  refine PE.of (pe_bm pa slot hty hm ho ha h1 h2 h3 h4 h5) fun σ H q h => ?_
  obtain ⟨δ, L, Q, ρ, hw, kn, re, k⟩ := h
  refine upE.run hw kn re fun x L1 ρ1 u H1 g1 e1 kn1 r1 re1 => ?_
  refine ⟨g1.1.of kn1 r1, upA.run g1.2 kn1 re1 fun xs L2 ρ2 vs H2 g2 e2 kn2 r2 re2 => ?_⟩
  exact hb x xs u vs L2 Q ρ2 H2 q g2 kn2 (r1.mono kn1 e2 (Nat.le_refl _)) r2 fun z L' ρ' z' H' hq ev kn' rz => k z L' ρ' z' H' hq (e1.trans (e2.trans ev (e2.lens (Nat.le_refl _))) (e1.lens (Nat.le_refl _))) kn' rz
theorem a_met0 {o : Expr} {name : Str} {apos cpos : Pos} {T id : String} {r : V → List V → Hp → VK → Prop} {b : AV → List AV → List AO → WK → Prop} {wo : WE}
    (pa : PlainAttrs T) (slot : Slot T name id) (hty : typeOf (.builtin id) = pure (.type "method_descriptor")) (hm : MtR X id r) (hb : Met X.prog X.w X.K r b) (ho : AE X o wo)
    (h1 : attributeBase o name X.env (eval o X.env) = eval o X.env := by rfl) (h3 : (apos.endLine == cpos.line) = true := by rfl) :
    AE X (.Call (.Attribute o name apos) [] [] cpos) (wMet0 T b wo) := by
  refine PE.of (pe_bm0 pa slot hty hm ho h1 h3) fun σ H q h => ?_
  obtain ⟨δ, L, Q, ρ, hw, kn, re, k⟩ := h
  refine upE.run hw kn re fun x L1 ρ1 u H1 g1 e1 kn1 r1 re1 => ?_
  refine ⟨g1.1.of kn1 r1, ?_⟩
  exact hb x [] u [] L1 Q ρ1 H1 q g1.2 kn1 r1 .nil fun z L' ρ' z' H' hq ev kn' rz => k z L' ρ' z' H' hq (e1.trans ev (e1.lens (Nat.le_refl _))) kn' rz
def bApp : AV → List AV → List AO → WK → Prop := fun x xs L Q => asRef x fun k => arg1 xs fun y => at0 L k fun o => match o with
  | .dl ds => asD y fun d => ds.length < sizeLine ∧ Q (.d .none) (L.set k (.dl (ds ++ [d])))
  | .rl ks => asRef y fun j => ks.length < sizeLine ∧ Q (.d .none) (L.set k (.rl (ks ++ [j])))
  | _ => False
theorem Paired.snoc {α β : Type} {F : α → β → Prop} {xs : List α} {ys : List β} {x : α} {y : β} (h : Paired F xs ys) (r : F x y) : Paired F (xs ++ [x]) (ys ++ [y]) := by
  induction h with
  | nil => exact .cons r .nil
  | cons q _ ih => exact .cons q ih
theorem met_app {P : Program} {w : World} {K : PySem.W.Frag} : Met P w K rAppend bApp := by
  intro x xs v vs L Q ρ H q hb kn rx rxs k
  obtain ⟨i, rfl, hb1⟩ := asRef.of hb
  obtain ⟨y, rfl, hb2⟩ := arg1.of hb1
  obtain ⟨o, ho, hb3⟩ := at0.of hb2
  obtain ⟨u, rfl, ry⟩ := one_of rxs
  obtain ⟨a, ha, rfl⟩ := rx
  split at hb3
  · obtain ⟨d, rfl, hz, hq⟩ := asD.of hb3
    obtain ⟨a', ws, h1, h2, h3⟩ := kn.dl ho
    rw [ha] at h1; cases h1
    obtain ⟨kn', ev'⟩ := kn.putL ha (h3.snoc ry)
    exact ⟨a, ws, u, rfl, rfl, h2, by rw [h3.len]; exact hz, k _ _ _ _ _ hq ev' kn' rfl⟩
  · obtain ⟨j, rfl, hz, hq⟩ := asRef.of hb3
    obtain ⟨a', ws, h1, h2, h3⟩ := kn.rl ho
    rw [ha] at h1; cases h1
    obtain ⟨b, hb, rfl⟩ := ry
    obtain ⟨kn', ev'⟩ := kn.putR ha (h3.snoc hb)
    refine ⟨a, _, _, rfl, rfl, h2, by rw [List.length_map, ← Paired.length h3]; exact hz, ?_⟩
    have e : ws.map V.ref ++ [V.ref b] = (ws ++ [b]).map V.ref := by simp
    rw [e]
    exact k _ _ _ _ _ hq ev' kn' rfl
  · exact hb3.elim
theorem a_append {o : Expr} {apos cpos : Pos} {wo wx : WE} (ho : AE X o wo) (hx : AE X e wx) (h1 : attributeBase o "append" X.env (eval o X.env) = eval o X.env := by rfl) (h2 : ((backTo cpos (starEach (e :: []) X.env)).all (fun x => !x.1) && (backToKw cpos (keywordEach [] X.env)).all (fun x => x.1.isSome) && decide ((e :: ([] : List Expr)).length + ([] : List Keyword).length + (if ([] : List Keyword).isEmpty then 0 else 1) < 30)) = true := by rfl)
    (h3 : (apos.endLine == cpos.line) = true := by rfl) (h4 : starEach (e :: []) X.env = (false, eval e X.env) :: starEach [] X.env := by rfl) (h5 : (backTo cpos (starEach [] X.env)).any (·.1) = false := by rfl) :
    AE X (.Call (.Attribute o "append" apos) [e] [] cpos) (wMet "list" bApp wo (wCons wx wNil)) := a_met PySem.F.plainAttrs_list PySem.F.slot_list_append PySem.F.type_list_append mt_append met_app ho (aa_cons hx aa_nil h4) h1 h2 h3 h4 h5
def bExt : AV → List AV → List AO → WK → Prop := fun x xs L Q => arg1 xs fun y => asDl L x fun k ds => asDl L y fun _ es => ds.length + es.length ≤ sizeLine ∧ Q (.d .none) (L.set k (.dl (ds ++ es)))
theorem met_ext {P : Program} {w : World} {K : PySem.W.Frag} : Met P w K rExtend bExt := by
  intro x xs v vs L Q ρ H q hb kn rx rxs k
  obtain ⟨y, rfl, hb1⟩ := arg1.of hb
  obtain ⟨i, ds, rfl, h1, hb2⟩ := asDl.of hb1
  obtain ⟨j, es, rfl, h2, hz, hq⟩ := asDl.of hb2
  obtain ⟨u, rfl, b, hb, rfl⟩ := one_of rxs
  obtain ⟨a, ha, rfl⟩ := rx
  obtain ⟨a', ws, g1, g2, g3⟩ := kn.dl h1
  rw [ha] at g1; cases g1
  obtain ⟨b', zs, f1, f2, f3⟩ := kn.dl h2
  rw [hb] at f1; cases f1
  obtain ⟨kn', ev'⟩ := kn.putL ha (g3.append f3)
  exact ⟨a, b, ws, zs, rfl, rfl, g2, f2, by rw [g3.len, f3.len]; exact hz, k _ _ _ _ _ hq ev' kn' rfl⟩
def bPop : AV → List AV → List AO → WK → Prop := fun x xs L Q => asDl L x fun k ds => ∃ d, ds.getLast? = some d ∧ Q (.d d) (L.set k (.dl ds.dropLast))
theorem Rs.dropLast {H : Hp} {ds : List D} {vs : List V} (h : Rs K H ds vs) : Rs K H ds.dropLast vs.dropLast := by
  rw [List.dropLast_eq_take, List.dropLast_eq_take, h.len]
  exact h.take _
theorem met_pop {P : Program} {w : World} {K : PySem.W.Frag} : Met P w K rPop (fun x xs L Q => xs = [] ∧ bPop x xs L Q) := by
  intro x xs v vs L Q ρ H q hb kn rx rxs k
  obtain ⟨rfl, hb⟩ := hb
  cases rxs
  obtain ⟨i, ds, rfl, h1, d, hd, hq⟩ := asDl.of hb
  obtain ⟨a, ha, rfl⟩ := rx
  obtain ⟨a', ws, g1, g2, g3⟩ := kn.dl h1
  rw [ha] at g1; cases g1
  rw [List.getLast?_eq_getElem?] at hd
  obtain ⟨v, e1, e2⟩ := g3.getD hd
  obtain ⟨kn', ev'⟩ := kn.putL ha g3.dropLast
  have him := kn.im ev'
  exact ⟨a, ws, v, rfl, rfl, g2, by rw [g3.len]; exact e1, k _ _ _ _ _ hq ev' kn' (R.mono him _ _ e2)⟩
def bRev : AV → List AV → List AO → WK → Prop := fun x xs L Q => asDl L x fun k ds => Q (.d .none) (L.set k (.dl ds.reverse))
theorem met_rev {P : Program} {w : World} {K : PySem.W.Frag} : Met P w K rReverse (fun x xs L Q => xs = [] ∧ bRev x xs L Q) := by
  intro x xs v vs L Q ρ H q hb kn rx rxs k
  obtain ⟨rfl, hb⟩ := hb
  cases rxs
  obtain ⟨i, ds, rfl, h1, hq⟩ := asDl.of hb
  obtain ⟨a, ha, rfl⟩ := rx
  obtain ⟨a', ws, g1, g2, g3⟩ := kn.dl h1
  rw [ha] at g1; cases g1
  obtain ⟨kn', ev'⟩ := kn.putL ha g3.reverse
  exact ⟨a, ws, rfl, rfl, g2, k _ _ _ _ _ hq ev' kn' rfl⟩
def bIns : AV → List AV → List AO → WK → Prop := fun x xs L Q => asDl L x fun k ds => arg2 xs fun i y => asInt i fun i => asD y fun d => ds.length < sizeLine ∧ 0 ≤ i ∧ i < 2 ^ 63 ∧ Q (.d .none) (L.set k (.dl (ds.take i.toNat ++ [d] ++ ds.drop i.toNat)))
def rIns : V → List V → Hp → VK → Prop := fun x vs H Q => ∃ (l : Addr) (xs : List V) (i : Int) (y : V), x = .ref l ∧ vs = [.int i, y] ∧ H l = some (.lst xs) ∧ xs.length < sizeLine ∧ 0 ≤ i ∧ i < 2 ^ 63 ∧ Q .non (upd H l (.lst (xs.take i.toNat ++ [y] ++ xs.drop i.toNat)))
theorem met_ins {P : Program} {w : World} {K : PySem.W.Frag} : Met P w K rIns bIns := by
  intro x xs v vs L Q ρ H q hb kn rx rxs k
  obtain ⟨m, ds, rfl, h1, hb1⟩ := asDl.of hb
  obtain ⟨i0, y, rfl, hb2⟩ := arg2.of hb1
  obtain ⟨i, rfl, hb3⟩ := asInt.of hb2
  obtain ⟨d, rfl, hz, hi, hj, hq⟩ := asD.of hb3
  obtain ⟨u1, u2, rfl, r1, r2⟩ := two_of rxs
  obtain ⟨a, ha, rfl⟩ := rx
  obtain ⟨a', ws, g1, g2, g3⟩ := kn.dl h1
  rw [ha] at g1; cases g1
  obtain ⟨kn', ev'⟩ := kn.putL ha (((g3.take i.toNat).snoc r2).append (g3.drop i.toNat))
  exact ⟨a, ws, i, u2, rfl, by rw [show u1 = .int i from r1], g2, by rw [g3.len]; exact hz, hi, hj, k _ _ _ _ _ hq ev' kn' rfl⟩

/-! ### slices -/
abbrev WO := Env1 → List AO → (Option Int → List AO → Prop) → Prop
def upO (P : Program) (w : World) (K : PySem.W.Frag) (e : WO) : TO := fun σ H q => ∃ δ L Q ρ, e δ L Q ∧ Kn P w K H ρ L ∧ RE K H ρ δ σ ∧ ∀ b L' ρ' H', Q b L' → Ev ρ.length ρ H ρ' H' → Kn P w K H' ρ' L' → q b H'
abbrev AP (X : Cx) (e : Option Expr) (a : WO) : Prop := PO X e (upO X.prog X.w X.K a)
def wONone : WO := fun _ L Q => Q none L
def wOSome (wa : WE) : WO := fun δ L Q => wa δ L fun x L1 => asInt x fun i => Q (some i) L1
theorem PO.of {e : Option Expr} {t u : TO} (h : PO X e t) (k : ∀ σ H q, u σ H q → t σ H q) : PO X e u := ⟨fun pins s σ H q I hq => h.run pins s σ H q I (k σ H q hq)⟩
theorem ap_none : AP X none wONone := PO.of po_none fun σ H q ⟨δ, L, Q, ρ, hw, kn, re, k⟩ => k none L ρ H hw Ev.refl kn
theorem ap_some {wa : WE} (ha : AE X a wa) : AP X (some a) (wOSome wa) := by
  refine PO.of (po_some ha) fun σ H q h => ?_
  obtain ⟨δ, L, Q, ρ, hw, kn, re, k⟩ := h
  refine upE.run hw kn re fun x L1 ρ1 u H1 h1 e1 kn1 r1 re1 => ?_
  obtain ⟨i, rfl, hq⟩ := asInt.of h1
  exact ⟨i, r1, k (some i) L1 ρ1 H1 hq e1 kn1⟩
theorem upO.run {P : Program} {w : World} {K : PySem.W.Frag} {H : Hp} {ρ : List Addr} {L : List AO} {δ : Env1} {σ : St} {a : WO} {q : Option Int → Hp → Prop} {Q : Option Int → List AO → Prop} (h : a δ L Q) (kn : Kn P w K H ρ L) (re : RE K H ρ δ σ)
    (k : ∀ b L' ρ' H', Q b L' → Ev ρ.length ρ H ρ' H' → Kn P w K H' ρ' L' → RE K H' ρ' δ σ → q b H') : upO P w K a σ H q :=
  ⟨δ, L, Q, ρ, h, kn, re, fun x L' ρ' H' hq ev kn' => k x L' ρ' H' hq ev kn' (re.mono kn ev (Nat.le_refl _))⟩
def cutD (xs : List D) (lo hi : Option Int) : List D := (xs.drop (HT.sIx xs.length 0 lo)).take (HT.sIx xs.length xs.length hi - HT.sIx xs.length 0 lo)
theorem Rs.cut {H : Hp} {ds : List D} {vs : List V} (h : Rs K H ds vs) (lo hi : Option Int) : Rs K H (cutD ds lo hi) (cutV vs lo hi) := by
  unfold cutD cutV
  rw [h.len]
  exact (h.drop _).take _
/-- xs[a:b] of a list: a new list; of a tuple: a tuple -/
def bSl (x : AV) (lo hi : Option Int) (L : List AO) (Q : WK) : Prop := match x with
  | .d (.tuple ds) => Q (.d (.tuple (cutD ds lo hi))) L
  | .d (.list ds) => Q (.ref L.length) (L ++ [.dl (cutD ds lo hi)])
  | .ref k => asSeq L (.ref k) fun ds => Q (.ref L.length) (L ++ [.dl (cutD ds lo hi)])
  | _ => False
def wSl (wa : WE) (wl wh : WO) : WE := fun δ L Q => wa δ L fun x L1 => wl δ L1 fun lo L2 => wh δ L2 fun hi L3 => bSl x lo hi L3 Q
def rSlU (K : PySem.W.Frag) : V → Option Int → Option Int → Hp → VK → Prop := fun x lo hi H Q => rSlA K x lo hi H Q ∨ rSlL K x lo hi H Q
theorem sl_U : SlR X (rSlU X.K) := SlR.or sl_tupA sl_list
theorem a_sl {lo hi : Option Expr} {p2 : Pos} {wa : WE} {wl wh : WO} (ha : AE X a wa) (hl : AP X lo wl) (hh : AP X hi wh) : AE X (.Subscript a (.Slice lo hi none p2) pos) (wSl wa wl wh) := by
  refine PE.of (pe_slice sl_U ha hl hh) fun σ H q h => ?_
  obtain ⟨δ, L, Q, ρ, hw, kn, re, k⟩ := h
  refine upE.run hw kn re fun x L1 ρ1 u H1 h1 e1 kn1 r1 re1 => ?_
  refine upO.run h1 kn1 re1 fun lo L2 ρ2 H2 h2 e2 kn2 re2 => ?_
  refine upO.run h2 kn2 re2 fun hi L3 ρ3 H3 h3 e3 kn3 re3 => ?_
  have r3 := (r1.mono kn1 e2 (Nat.le_refl _)).mono kn2 e3 (Nat.le_refl _)
  have l1 := e1.lens (Nat.le_refl _)
  have l2 := e2.lens (Nat.le_refl _)
  have l3 := e3.lens (Nat.le_refl _)
  have ev : Ev ρ.length ρ H ρ3 H3 := e1.trans (e2.trans e3 l2) l1
  unfold bSl at h3
  split at h3
  · rename_i ds
    obtain ⟨a, vs, rfl, g1, g2⟩ := r3
    refine .inl ⟨a, vs, rfl, SqT.of g1, fun z => ?_, fun z p hp => ?_⟩
    · refine k _ L3 ρ3 _ H3 h3 ev kn3 ⟨a, vs, rfl, g1, ?_⟩
      have g3 := g2.cut lo hi
      have : cutV vs lo hi = vs := by
        unfold cutV
        rw [z.1, z.2]
        simp
      rw [this] at g3
      exact g3
    · obtain ⟨kn', ev', r'⟩ := kn3.tup hp (g2.cut lo hi)
      exact k _ _ _ _ _ h3 (ev.trans ev' (by omega)) kn' r'
  · rename_i ds
    obtain ⟨a, vs, rfl, g1, g2⟩ := r3
    refine .inr ⟨a, vs, rfl, g1.sq, fun p hp => ?_⟩
    obtain ⟨kn', ev', r'⟩ := kn3.newL hp (g2.cut lo hi)
    exact k _ _ _ _ _ h3 (ev.trans ev' (by omega)) kn' ⟨p, r', rfl⟩
  · obtain ⟨a, vs, ds, rfl, g2, g3, hq⟩ := asSeq.of h3 kn3 r3
    refine .inr ⟨a, vs, rfl, g2, fun p hp => ?_⟩
    obtain ⟨kn', ev', r'⟩ := kn3.newL hp (g3.cut lo hi)
    exact k _ _ _ _ _ hq (ev.trans ev' (by omega)) kn' ⟨p, r', rfl⟩
  · exact h3.elim

/-! ### and, or, not; a if t else b -/
def wAnd (t u : WT) : WT := fun δ L Q => t δ L fun b L1 => (b = true → u δ L1 Q) ∧ (b = false → Q false L1)
def wOr (t u : WT) : WT := fun δ L Q => t δ L fun b L1 => (b = true → Q true L1) ∧ (b = false → u δ L1 Q)
def wNot (t : WT) : WT := fun δ L Q => t δ L fun b L1 => Q (!b) L1
theorem aw_and1 {t : WT} (h : AT X a t) : AW X (.BoolOp .And [a] pos) t := pw_and1 h
theorem aw_or1 {t : WT} (h : AT X a t) : AW X (.BoolOp .Or [a] pos) t := pw_or1 h
theorem aw_and {rest : List Expr} {t u : WT} (h : AT X a t) (h2 : AW X (.BoolOp .And (b :: rest) pos) u) : AW X (.BoolOp .And (a :: b :: rest) pos) (wAnd t u) := by
  refine PW.of (pw_and h h2) fun σ H q h => ?_
  obtain ⟨δ, L, Q, ρ, hw, kn, re, k⟩ := h
  refine upT.run hw kn re fun c L1 ρ1 H1 h1 e1 kn1 re1 => ?_
  cases c with
  | true => exact upT.run (h1.1 rfl) kn1 re1 fun d L2 ρ2 H2 h2 e2 kn2 re2 => k d L2 ρ2 H2 h2 (e1.trans e2 (e1.lens (Nat.le_refl _))) kn2
  | false => exact k false L1 ρ1 H1 (h1.2 rfl) e1 kn1
theorem aw_or {rest : List Expr} {t u : WT} (h : AT X a t) (h2 : AW X (.BoolOp .Or (b :: rest) pos) u) : AW X (.BoolOp .Or (a :: b :: rest) pos) (wOr t u) := by
  refine PW.of (pw_or h h2) fun σ H q h => ?_
  obtain ⟨δ, L, Q, ρ, hw, kn, re, k⟩ := h
  refine upT.run hw kn re fun c L1 ρ1 H1 h1 e1 kn1 re1 => ?_
  cases c with
  | false => exact upT.run (h1.2 rfl) kn1 re1 fun d L2 ρ2 H2 h2 e2 kn2 re2 => k d L2 ρ2 H2 h2 (e1.trans e2 (e1.lens (Nat.le_refl _))) kn2
  | true => exact k true L1 ρ1 H1 (h1.1 rfl) e1 kn1
theorem at_w {t : WT} (h : AW X e t) : AT X e t := PW.pt h
theorem at_not {t : WT} (h : AT X a t) : AT X (.UnaryOp .Not a pos) (wNot t) := by
  refine PT.of (pt_not h) fun σ H q h => ?_
  obtain ⟨δ, L, Q, ρ, hw, kn, re, k⟩ := h
  exact upT.run hw kn re fun c L1 ρ1 H1 h1 e1 kn1 re1 => k _ L1 ρ1 H1 h1 e1 kn1
/-- .. as values -/
def wAndV (wa wb : WE) : WE := fun δ L Q => wa δ L fun x L1 => asBool x fun b => (b = true → wb δ L1 Q) ∧ (b = false → Q (.d (.bool false)) L1)
def wOrV (wa wb : WE) : WE := fun δ L Q => wa δ L fun x L1 => asBool x fun b => (b = true → Q (.d (.bool true)) L1) ∧ (b = false → wb δ L1 Q)
def wNotV (wa : WE) : WE := fun δ L Q => wa δ L fun x L1 => asBool x fun b => Q (.d (.bool (!b))) L1
theorem a_one {op : BoolOp} {wa : WE} (h : AE X a wa) : AE X (.BoolOp op [a] pos) wa := pe_one h
theorem a_and {rest : List Expr} {wa wb : WE} (ha : AE X a wa) (hb : AE X (.BoolOp .And (b :: rest) pos) wb) : AE X (.BoolOp .And (a :: b :: rest) pos) (wAndV wa wb) := by
  refine PE.of (pe_and ha hb) fun σ H q h => ?_
  obtain ⟨δ, L, Q, ρ, hw, kn, re, k⟩ := h
  refine upE.run hw kn re fun x L1 ρ1 u H1 h1 e1 kn1 r1 re1 => ?_
  obtain ⟨c, rfl, h2⟩ := asBool.of h1
  refine ⟨c, r1, ?_⟩
  cases c with
  | true => exact upE.run (h2.1 rfl) kn1 re1 fun y L2 ρ2 v H2 g2 e2 kn2 r2 re2 => k y L2 ρ2 v H2 g2 (e1.trans e2 (e1.lens (Nat.le_refl _))) kn2 r2
  | false => exact k _ L1 ρ1 _ H1 (h2.2 rfl) e1 kn1 rfl
theorem a_or {rest : List Expr} {wa wb : WE} (ha : AE X a wa) (hb : AE X (.BoolOp .Or (b :: rest) pos) wb) : AE X (.BoolOp .Or (a :: b :: rest) pos) (wOrV wa wb) := by
  refine PE.of (pe_or ha hb) fun σ H q h => ?_
  obtain ⟨δ, L, Q, ρ, hw, kn, re, k⟩ := h
  refine upE.run hw kn re fun x L1 ρ1 u H1 h1 e1 kn1 r1 re1 => ?_
  obtain ⟨c, rfl, h2⟩ := asBool.of h1
  refine ⟨c, r1, ?_⟩
  cases c with
  | false => exact upE.run (h2.2 rfl) kn1 re1 fun y L2 ρ2 v H2 g2 e2 kn2 r2 re2 => k y L2 ρ2 v H2 g2 (e1.trans e2 (e1.lens (Nat.le_refl _))) kn2 r2
  | true => exact k _ L1 ρ1 _ H1 (h2.1 rfl) e1 kn1 rfl
theorem a_not {wa : WE} (ha : AE X a wa) : AE X (.UnaryOp .Not a pos) (wNotV wa) := by
  refine PE.of (pe_not ha) fun σ H q h => ?_
  obtain ⟨δ, L, Q, ρ, hw, kn, re, k⟩ := h
  refine upE.run hw kn re fun x L1 ρ1 u H1 h1 e1 kn1 r1 re1 => ?_
  obtain ⟨c, rfl, h2⟩ := asBool.of h1
  exact ⟨c, r1, k _ L1 ρ1 _ H1 h2 e1 kn1 rfl⟩
def wIfE (t : WT) (wa wb : WE) : WE := fun δ L Q => t δ L fun b L1 => (b = true → wa δ L1 Q) ∧ (b = false → wb δ L1 Q)
theorem a_ife {t : WT} {wa wb : WE} (ht : AT X c t) (ha : AE X a wa) (hb : AE X b wb) : AE X (.IfExp c a b pos) (wIfE t wa wb) := by
  refine PE.of (pe_ifExp ht ha hb) fun σ H q h => ?_
  obtain ⟨δ, L, Q, ρ, hw, kn, re, k⟩ := h
  refine upT.run hw kn re fun c L1 ρ1 H1 h1 e1 kn1 re1 => ?_
  cases c with
  | true => exact upE.run (h1.1 rfl) kn1 re1 fun y L2 ρ2 v H2 g2 e2 kn2 r2 re2 => k y L2 ρ2 v H2 g2 (e1.trans e2 (e1.lens (Nat.le_refl _))) kn2 r2
  | false => exact upE.run (h1.2 rfl) kn1 re1 fun y L2 ρ2 v H2 g2 e2 kn2 r2 re2 => k y L2 ρ2 v H2 g2 (e1.trans e2 (e1.lens (Nat.le_refl _))) kn2 r2

/-! ### x in xs -/
def rInP (K : PySem.W.Frag) (neg : Bool) : R2 := fun x y H Q => ∃ d ds, Dp K H x d ∧ (Dp K H y (.list ds) ∨ Dp K H y (.tuple ds)) ∧ d.plain = true ∧ PyData.plainAll ds = true ∧ (PyData.depthAll ds ≤ 64 ∨ d.depth ≤ 64) ∧ Q (.bl (if neg then !ds.any fun z => PyData.eqv z d else ds.any fun z => PyData.eqv z d)) H
theorem op_inP (hu : X.A.units + 65 < cLine) : OpR X (compareOp .In) (rInP X.K false) := by
  intro pins s σ H x y v u Q I rx ry h
  obtain ⟨d, ds, hd, he, sd, se, hz, q⟩ := h
  obtain ⟨as, r1⟩ := Dp.reads I d x v hd rx
  rcases he with he | he
  · obtain ⟨bs, r2⟩ := Dp.reads I _ y u he ry
    exact SeqAt.in_list_data r2 r1 se sd (by rcases hz with h | h <;> omega) ⟨.bl _, H, I, rfl, q⟩
  · obtain ⟨bs, r2⟩ := Dp.reads I _ y u he ry
    exact SeqAt.in_tuple_data r2 r1 se sd (by rcases hz with h | h <;> omega) ⟨.bl _, H, I, rfl, q⟩
theorem op_ninP (hu : X.A.units + 65 < cLine) : OpR X (compareOp .NotIn) (rInP X.K true) := by
  intro pins s σ H x y v u Q I rx ry h
  obtain ⟨d, ds, hd, he, sd, se, hz, q⟩ := h
  obtain ⟨as, r1⟩ := Dp.reads I d x v hd rx
  rcases he with he | he
  · obtain ⟨bs, r2⟩ := Dp.reads I _ y u he ry
    exact SeqAt.notIn_list_data r2 r1 se sd (by rcases hz with h | h <;> omega) ⟨.bl _, H, I, rfl, q⟩
  · obtain ⟨bs, r2⟩ := Dp.reads I _ y u he ry
    exact SeqAt.notIn_tuple_data r2 r1 se sd (by rcases hz with h | h <;> omega) ⟨.bl _, H, I, rfl, q⟩
def InOk (d : D) (ds : List D) : Prop := d.plain = true ∧ PyData.plainAll ds = true ∧ (PyData.depthAll ds ≤ 64 ∨ d.depth ≤ 64)
def bIn (neg : Bool) : B2 := fun x y L Q => asD x fun d => seqOf L y fun ds => InOk d ds ∧ Q (.d (.bool (if neg then !ds.any fun z => PyData.eqv z d else ds.any fun z => PyData.eqv z d))) L
theorem bin_in {P : Program} {w : World} {K : PySem.W.Frag} {neg : Bool} : Bin P w K (rInP K neg) (bIn neg) := by
  intro x y u v L Q ρ H q hb kn rx ry k
  obtain ⟨d, rfl, hb1⟩ := asD.of hb
  obtain ⟨a, vs, ds, rfl, hs, hr, ⟨h1, h2, h3⟩, hk⟩ := hb1.of K kn ry
  refine ⟨d, ds, R.dp _ _ rx, ?_, h1, h2, h3, k _ L ρ _ H hk Ev.refl kn rfl⟩
  rcases hs with hs | hs
  · exact .inl (.lst hs (Rs.dp _ _ hr))
  · exact .inr (.tup hs.1 (Rs.dp _ _ hr))
end
end AB

set_option Elab.async false
set_option linter.all false
set_option maxRecDepth 100000
set_option autoImplicit false
namespace AB
open PySem L2
variable {K : PySem.W.Frag}

/-! ### forgetting places, in another order -/
def renK : List Nat → Nat → Option Nat
  | [], _ => none
  | k :: ks, j => if k = j then some 0 else (renK ks j).map (· + 1)
def renA (sel : List Nat) : AV → Option AV
  | .d x => some (.d x)
  | .raw v => some (.raw v)
  | .ref j => (renK sel j).map .ref
def allSome {α : Type} : List (Option α) → Option (List α)
  | [] => some []
  | some x :: r => (allSome r).map (x :: ·)
  | none :: _ => none
def renO (sel : List Nat) : AO → Option AO
  | .dl ds => some (.dl ds)
  | .rl ks => (allSome (ks.map (renK sel))).map .rl
  | .dd kvs => some (.dd kvs)
  | .dr kvs => (allSome (kvs.map fun p => (renK sel p.2).map fun k => (p.1, k))).map .dr
  | .dt kvs => some (.dt kvs)
  | .st S n => some (.st S n)
def renE (sel : List Nat) (δ : Env1) : Env1 := δ.map fun o => o.bind (renA sel)
def pick (sel : List Nat) (L : List AO) : Option (List AO) := allSome (sel.map fun j => (L[j]?).bind (renO sel))
/-- the first n places stay, the others of sel follow, the rest is forgotten -/
def SelOk (n : Nat) (sel : List Nat) (m : Nat) : Prop := sel.Nodup ∧ (∀ j ∈ sel, j < m) ∧ sel.take n = List.range n
instance (n : Nat) (sel : List Nat) (m : Nat) : Decidable (SelOk n sel m) := by unfold SelOk; infer_instance
@[irreducible] def Back (n : Nat) (I : Env1 → List AO → Prop) (δ : Env1) (L : List AO) : Prop := I δ L ∨ ∃ sel L', SelOk n sel L.length ∧ pick sel L = some L' ∧ I (renE sel δ) L'
@[irreducible] def Back0 (n : Nat) (I : List AO → Prop) (L : List AO) : Prop := I L ∨ ∃ sel L', SelOk n sel L.length ∧ pick sel L = some L' ∧ I L'
@[irreducible] def Exit (n : Nat) (q : WK) (x : AV) (L : List AO) : Prop := q x L ∨ ∃ sel L' y, SelOk n sel L.length ∧ pick sel L = some L' ∧ renA sel x = some y ∧ q y L'

theorem allSome_get {α : Type} : ∀ {l : List (Option α)} {r : List α}, allSome l = some r → l = r.map some
  | [], r, h => by cases h; rfl
  | some x :: l, r, h => by
    unfold allSome at h
    cases e : allSome l with
    | none => rw [e] at h; cases h
    | some r' =>
      rw [e] at h
      cases h
      rw [allSome_get e]
      rfl
  | none :: l, r, h => by cases h
def sub (ρ : List Addr) (sel : List Nat) : List Addr := sel.map fun j => ρ.getD j 0
theorem renK_at : ∀ {sel : List Nat} {j k : Nat}, renK sel j = some k → sel[k]? = some j
  | [], j, k, h => by cases h
  | s :: sel, j, k, h => by
    unfold renK at h
    split at h
    · rename_i e
      cases h
      simp [e]
    · cases e : renK sel j with
      | none => rw [e] at h; cases h
      | some i =>
        rw [e] at h
        cases h
        simpa using renK_at e
section
variable {P : Program} {w : World} {K : PySem.W.Frag} {H H' : Hp} {ρ ρ' : List Addr} {L L' : List AO} {n : Nat} {sel : List Nat}
theorem sub_get (hb : ∀ j ∈ sel, j < ρ.length) {k j : Nat} (h : sel[k]? = some j) : ∃ a, ρ[j]? = some a ∧ (sub ρ sel)[k]? = some a := by
  have hj := hb j (List.mem_of_getElem? h)
  refine ⟨ρ[j], List.getElem?_eq_getElem hj, ?_⟩
  unfold sub
  rw [List.getElem?_map, h]
  simp [hj]
theorem sub_ren (hb : ∀ j ∈ sel, j < ρ.length) {j k : Nat} {a : Addr} (h : renK sel j = some k) (ha : ρ[j]? = some a) : (sub ρ sel)[k]? = some a := by
  obtain ⟨b, h1, h2⟩ := sub_get hb (renK_at h)
  rw [ha] at h1
  cases h1
  exact h2
theorem RA.ren (hb : ∀ j ∈ sel, j < ρ.length) {x y : AV} {v : V} (h : renA sel x = some y) (r : RA K H ρ x v) : RA K H (sub ρ sel) y v := by
  cases x with
  | d x => cases h; exact r
  | raw u => cases h; exact r
  | ref j =>
    replace h : (renK sel j).map AV.ref = some y := h
    cases e : renK sel j with
    | none => rw [e] at h; cases h
    | some k =>
      rw [e] at h
      cases h
      obtain ⟨a, h1, rfl⟩ := r
      exact ⟨a, sub_ren hb e h1, rfl⟩
theorem RO.ren (hb : ∀ j ∈ sel, j < ρ.length) {o o' : AO} {a : Addr} {u : HO} (h : renO sel o = some o') (r : RO P w K H ρ a o u) : RO P w K H (sub ρ sel) a o' u := by
  cases o with
  | dl ds => cases h; exact r
  | dd ds => cases h; exact r
  | dt ds => cases h; exact r
  | st S m => cases h; exact r
  | rl ks =>
    replace h : (allSome (ks.map (renK sel))).map AO.rl = some o' := h
    cases e : allSome (ks.map (renK sel)) with
    | none => rw [e] at h; cases h
    | some ks' =>
      rw [e] at h
      cases h
      obtain ⟨as, rfl, hp⟩ := r
      refine ⟨as, rfl, ?_⟩
      have e2 := allSome_get e
      clear e
      induction hp generalizing ks' with
      | nil =>
        cases ks' with
        | nil => exact .nil
        | cons _ _ => simp at e2
      | cons q t ih =>
        cases ks' with
        | nil => simp at e2
        | cons k' ks' =>
          simp at e2
          exact .cons (sub_ren hb e2.1 q) (ih ks' (by simpa using e2.2))
  | dr kvs =>
    replace h : (allSome (kvs.map fun p => (renK sel p.2).map fun k => (p.1, k))).map AO.dr = some o' := h
    cases e : allSome (kvs.map fun p => (renK sel p.2).map fun k => (p.1, k)) with
    | none => rw [e] at h; cases h
    | some ks' =>
      rw [e] at h
      cases h
      obtain ⟨as, rfl, hp⟩ := r
      refine ⟨as, rfl, ?_⟩
      have e2 := allSome_get e
      clear e
      induction hp generalizing ks' with
      | nil =>
        cases ks' with
        | nil => exact .nil
        | cons _ _ => simp at e2
      | cons q t ih =>
        cases ks' with
        | nil => simp at e2
        | cons k' ks' =>
          simp only [List.map_cons, List.cons.injEq] at e2
          obtain ⟨b, h1, h2⟩ := q.2
          obtain ⟨k, hk, hk2⟩ := Option.map_eq_some_iff.mp e2.1
          subst hk2
          exact .cons ⟨q.1, b, sub_ren hb hk h1, h2⟩ (ih ks' (by simpa using e2.2))
theorem Kn.sub (kn : Kn P w K H ρ L) (ok : SelOk n sel L.length) (hp : pick sel L = some L') : Kn P w K H (sub ρ sel) L' ∧ (n ≤ ρ.length → Ev n ρ H (AB.sub ρ sel) H) := by
  obtain ⟨nd, hb, ht⟩ := ok
  rw [← kn.len] at hb
  have e := allSome_get hp
  have hlen : sel.length = L'.length := by simpa using congrArg List.length e
  refine ⟨⟨?_, by simp [AB.sub, hlen], fun k o h => ?_⟩, fun hn => ⟨fun k a hk ha => ?_, fun a ha => ?_, fun b o h _ => h⟩⟩
  · unfold AB.sub
    rw [List.nodup_iff_pairwise_ne] at nd ⊢
    refine List.Pairwise.map _ (fun i j hij => ?_) (List.Pairwise.and_mem.mp nd)
    obtain ⟨hi, hj, hne⟩ := hij
    have hi' := hb i hi
    have hj' := hb j hj
    intro z
    simp [hi', hj'] at z
    exact hne ((List.getElem_inj kn.nd).mp z)
  · have h1 : (sel.map fun j => (L[j]?).bind (renO sel))[k]? = some (some o) := by rw [e]; simp [h]
    rw [List.getElem?_map] at h1
    cases hs : sel[k]? with
    | none => rw [hs] at h1; cases h1
    | some j =>
      rw [hs] at h1
      have h2 : (L[j]?).bind (renO sel) = some o := by simpa using h1
      cases hL : L[j]? with
      | none => rw [hL] at h2; cases h2
      | some o0 =>
        rw [hL] at h2
        obtain ⟨a, u, q1, q2, q3⟩ := kn.ats j o0 hL
        obtain ⟨a', q4, q5⟩ := sub_get hb hs
        rw [q1] at q4; cases q4
        exact ⟨a, u, q5, q2, q3.ren hb h2⟩
  · have h1 : sel[k]? = some k := by
      have : (sel.take n)[k]? = some k := by rw [ht]; simp [hk]
      rw [List.getElem?_take] at this
      simpa [hk] using this
    obtain ⟨a', q4, q5⟩ := sub_get hb h1
    rw [ha] at q4; cases q4
    exact q5
  · refine .inl ?_
    unfold AB.sub at ha
    obtain ⟨j, hj, rfl⟩ := List.mem_map.mp ha
    have := hb j hj
    simp [this]
theorem RE.ren (hb : ∀ j ∈ sel, j < ρ.length) {δ : Env1} {σ : St} (h : RE K H ρ δ σ) : RE K H (sub ρ sel) (renE sel δ) σ := by
  unfold renE
  induction h with
  | nil => exact .nil
  | @cons x y l1 l2 q t ih =>
    refine .cons (fun z hz => ?_) ih
    cases e : x with
    | none => rw [e] at hz; cases hz
    | some y0 =>
      rw [e] at hz
      obtain ⟨v, q1, q2⟩ := q y0 e
      exact ⟨v, q1, q2.ren hb hz⟩
theorem Back.go {I : Env1 → List AO → Prop} {δ : Env1} {σ : St} (h : Back n I δ L) (kn : Kn P w K H ρ L) (re : RE K H ρ δ σ) (hn : n ≤ ρ.length) : ∃ ρ' δ' L', I δ' L' ∧ Kn P w K H ρ' L' ∧ RE K H ρ' δ' σ ∧ Ev n ρ H ρ' H := by
  unfold Back at h
  rcases h with hi | ⟨sel, L', ok, hp, hi⟩
  · exact ⟨_, _, L, hi, kn, re, Ev.refl⟩
  obtain ⟨k1, k2⟩ := kn.sub ok hp
  have hb := ok.2.1
  rw [← kn.len] at hb
  exact ⟨_, _, L', hi, k1, re.ren hb, k2 hn⟩
theorem Back0.go {I : List AO → Prop} (h : Back0 n I L) (kn : Kn P w K H ρ L) (hn : n ≤ ρ.length) : ∃ ρ' L', I L' ∧ Kn P w K H ρ' L' ∧ Ev n ρ H ρ' H := by
  unfold Back0 at h
  rcases h with hi | ⟨sel, L', ok, hp, hi⟩
  · exact ⟨_, L, hi, kn, Ev.refl⟩
  obtain ⟨k1, k2⟩ := kn.sub ok hp
  exact ⟨_, L', hi, k1, k2 hn⟩
theorem Exit.go {q : WK} {x : AV} {v : V} (h : Exit n q x L) (kn : Kn P w K H ρ L) (r : RA K H ρ x v) (hn : n ≤ ρ.length) : ∃ ρ' y L', q y L' ∧ Kn P w K H ρ' L' ∧ RA K H ρ' y v ∧ Ev n ρ H ρ' H := by
  unfold Exit at h
  rcases h with hi | ⟨sel, L', y, ok, hp, hy, hi⟩
  · exact ⟨_, x, L, hi, kn, r, Ev.refl⟩
  obtain ⟨k1, k2⟩ := kn.sub ok hp
  have hb := ok.2.1
  rw [← kn.len] at hb
  exact ⟨_, y, L', hi, k1, r.ren hb hy, k2 hn⟩
end

def nodupB : List Nat → Bool
  | [] => true
  | k :: ks => ks.all (fun j => !Nat.beq k j) && nodupB ks
def idB : Nat → List Nat → Nat → Bool
  | 0, _, _ => true
  | _ + 1, [], _ => false
  | n + 1, k :: ks, j => Nat.beq k j && idB n ks (j + 1)
def selB (n : Nat) (sel : List Nat) (m : Nat) : Bool := nodupB sel && (sel.all (fun j => Nat.blt j m) && idB n sel 0)
def ksB (sel : List Nat) (m : Nat) : Bool := nodupB sel && sel.all (fun j => Nat.blt j m)
theorem nodupB_ok : ∀ {l : List Nat}, nodupB l = true → l.Nodup
  | [], _ => List.nodup_nil
  | k :: ks, h => by
    unfold nodupB at h
    rw [Bool.and_eq_true, List.all_eq_true] at h
    rw [List.nodup_cons]
    refine ⟨fun hm => ?_, nodupB_ok h.2⟩
    have := h.1 k hm
    simp at this
theorem idB_ok : ∀ {n : Nat} {l : List Nat} {j : Nat}, idB n l j = true → l.take n = (List.range n).map (· + j)
  | 0, _, _, _ => by simp
  | n + 1, [], _, h => by cases h
  | n + 1, k :: ks, j, h => by
    unfold idB at h
    rw [Bool.and_eq_true] at h
    have e : k = j := Nat.eq_of_beq_eq_true h.1
    rw [List.take_succ_cons, idB_ok h.2, List.range_succ_eq_map, List.map_cons, List.map_map, e]
    congr 1
    · omega
    · apply List.map_congr_left
      intro a _
      show a + (j + 1) = Nat.succ a + j
      omega
theorem allB_ok {l : List Nat} {m : Nat} (h : l.all (fun j => Nat.blt j m) = true) : ∀ j ∈ l, j < m := fun j hj => by
  rw [List.all_eq_true] at h
  have := h j hj
  simpa [Nat.blt_eq] using this
theorem selB_ok {n : Nat} {sel : List Nat} {m : Nat} (h : selB n sel m = true) : SelOk n sel m := by
  unfold selB at h
  rw [Bool.and_eq_true, Bool.and_eq_true] at h
  refine ⟨nodupB_ok h.1, allB_ok h.2.1, ?_⟩
  rw [idB_ok h.2.2]
  simp
theorem Back.mk {n : Nat} {I : Env1 → List AO → Prop} {δ : Env1} {L : List AO} (sel : List Nat) {L' : List AO} (hi : I (renE sel δ) L') (ok : selB n sel L.length = true := by rfl) (hp : pick sel L = some L' := by rfl) : Back n I δ L := by
  unfold Back
  exact Or.inr ⟨sel, L', selB_ok ok, hp, hi⟩
theorem Back0.mk {n : Nat} {I : List AO → Prop} {L : List AO} (sel : List Nat) {L' : List AO} (hi : I L') (ok : selB n sel L.length = true := by rfl) (hp : pick sel L = some L' := by rfl) : Back0 n I L := by
  unfold Back0
  exact Or.inr ⟨sel, L', selB_ok ok, hp, hi⟩
theorem Exit.mk {n : Nat} {q : WK} {x y : AV} {L : List AO} (sel : List Nat) {L' : List AO} (hi : q y L') (ok : selB n sel L.length = true := by rfl) (hp : pick sel L = some L' := by rfl) (hy : renA sel x = some y := by rfl) : Exit n q x L := by
  unfold Exit
  exact Or.inr ⟨sel, L', y, selB_ok ok, hp, hy, hi⟩

theorem Back.all {n : Nat} {I : Env1 → List AO → Prop} {δ : Env1} {L : List AO} (hi : I δ L) : Back n I δ L := by
  unfold Back
  exact Or.inl hi
theorem Back0.all {n : Nat} {I : List AO → Prop} {L : List AO} (hi : I L) : Back0 n I L := by
  unfold Back0
  exact Or.inl hi
theorem Exit.all {n : Nat} {q : WK} {x : AV} {L : List AO} (hi : q x L) : Exit n q x L := by
  unfold Exit
  exact Or.inl hi
/-! ### targets -/
inductive Tg where
  | nm (i : Nat)
  | tp (ts : List Tg)
mutual
def tgT (K : PySem.W.Frag) : Tg → TG
  | .nm i => gName i
  | .tp ts => gTup K ts.length (tgTs K ts)
def tgTs (K : PySem.W.Frag) : List Tg → TGs
  | [] => gNil
  | t :: ts => gCons (tgT K t) (tgTs K ts)
end
mutual
def tgA : Tg → AV → Env1 → (Env1 → Prop) → Prop
  | .nm i, x, δ, k => k (δ.set i (some x))
  | .tp ts, x, δ, k => match x with
    | .d (.tuple ds) => tgAs ts ds δ k
    | _ => False
def tgAs : List Tg → List D → Env1 → (Env1 → Prop) → Prop
  | [], ds, δ, k => match ds with
    | [] => k δ
    | _ => False
  | t :: ts, ds, δ, k => match ds with
    | d :: r => tgA t (.d d) δ fun δ' => tgAs ts r δ' k
    | [] => False
end
mutual
def tgN : Tg → List Nat
  | .nm i => [i]
  | .tp ts => tgNs ts
def tgNs : List Tg → List Nat
  | [] => []
  | t :: ts => tgN t ++ tgNs ts
end
theorem wipe_set {σ : St} {j : Nat} {x : Option V} : ∀ {vs : List Nat}, j ∈ vs → wipe (σ.set j x) vs = wipe σ vs
  | [], h => by simp at h
  | v :: vs, h => by
    unfold wipe
    by_cases e : j ∈ vs
    · rw [wipe_set e]
    · have hv : j = v := by
        rcases List.mem_cons.mp h with h | h
        · exact h
        · exact absurd h e
      subst hv
      have : ∀ (vs : List Nat), j ∉ vs → wipe (σ.set j x) vs = (wipe σ vs).set j x := by
        intro vs
        induction vs with
        | nil => intro _; rfl
        | cons u us ih =>
          intro hn
          simp only [List.mem_cons, not_or] at hn
          unfold wipe
          rw [ih hn.2, List.set_comm _ _ hn.1]
      rw [this vs e, List.set_set]
mutual
theorem tg_run {P : Program} {w : World} {K : PySem.W.Frag} {H : Hp} {ρ : List Addr} {L : List AO} {vs : List Nat} (kn : Kn P w K H ρ L) : ∀ (t : Tg) (x : AV) (v : V) (δ : Env1) (σ : St) (k : Env1 → Prop) (q : St → Hp → Prop), tgA t x δ k → RA K H ρ x v → RE K H ρ δ σ →
    (∀ δ' σ', k δ' → RE K H ρ δ' σ' → ((∀ j ∈ tgN t, j ∈ vs) → wipe σ' vs = wipe σ vs) → q σ' H) → tgT K t v σ H q
  | .nm i, x, v, δ, σ, k, q, h, r, re, f => by
    unfold tgA at h
    unfold tgT gName
    refine f _ _ h (re.set i r) fun hv => wipe_set (hv i (by simp [tgN]))
  | .tp ts, x, v, δ, σ, k, q, h, r, re, f => by
    unfold tgA at h
    split at h
    · rename_i ds
      unfold tgT gTup
      obtain ⟨a, vs', rfl, h1, h2⟩ := r
      have hl : ∀ (ts : List Tg) (ds : List D) (δ : Env1) (k : Env1 → Prop), tgAs ts ds δ k → ds.length = ts.length := by
        intro ts
        induction ts with
        | nil =>
          intro ds δ k h
          unfold tgAs at h
          split at h
          · rfl
          · exact h.elim
        | cons t ts ih =>
          intro ds δ k h
          unfold tgAs at h
          split at h
          · rename_i d r
            have : ∀ (t : Tg) (x : AV) (δ : Env1) (k k' : Env1 → Prop), tgA t x δ k → (∀ δ', k δ' → k' δ') → tgA t x δ k' := tgA_mono
            obtain ⟨δ'', h3⟩ := tgA_ex t _ δ _ h
            rw [List.length_cons, List.length_cons, ih r δ'' k h3]
          · exact h.elim
      refine ⟨a, vs', rfl, SqT.of h1, by rw [h2.len]; exact hl ts ds δ k h, ?_⟩
      exact tgs_run (vs := vs) kn ts ds vs' δ σ k q h h2 re fun δ' σ' hk hr hw => f δ' σ' hk hr fun hv => hw (by simpa [tgN] using hv)
    · exact h.elim
theorem tgs_run {P : Program} {w : World} {K : PySem.W.Frag} {H : Hp} {ρ : List Addr} {L : List AO} {vs : List Nat} (kn : Kn P w K H ρ L) : ∀ (ts : List Tg) (ds : List D) (us : List V) (δ : Env1) (σ : St) (k : Env1 → Prop) (q : St → Hp → Prop), tgAs ts ds δ k → Rs K H ds us → RE K H ρ δ σ →
    (∀ δ' σ', k δ' → RE K H ρ δ' σ' → ((∀ j ∈ tgNs ts, j ∈ vs) → wipe σ' vs = wipe σ vs) → q σ' H) → tgTs K ts us σ H q
  | [], ds, us, δ, σ, k, q, h, r, re, f => by
    unfold tgAs at h
    split at h
    · unfold tgTs gNil
      exact ⟨r, f δ σ h re fun _ => rfl⟩
    · exact h.elim
  | t :: ts, ds, us, δ, σ, k, q, h, r, re, f => by
    unfold tgAs at h
    split at h
    · obtain ⟨v, r', e, h1, h2⟩ := r
      unfold tgTs gCons
      refine ⟨v, r', e, tg_run (vs := vs) kn t _ v δ σ _ _ h h1 re fun δ' σ' hk hr hw => ?_⟩
      exact tgs_run (vs := vs) kn ts _ r' δ' σ' k q hk h2 hr fun δ2 σ2 hk2 hr2 hw2 => f δ2 σ2 hk2 hr2 fun hv => (hw2 fun j hj => hv j (by simp [tgNs, hj])).trans (hw fun j hj => hv j (by simp [tgNs, hj]))
    · exact h.elim
theorem tgA_mono : ∀ (t : Tg) (x : AV) (δ : Env1) (k k' : Env1 → Prop), tgA t x δ k → (∀ δ', k δ' → k' δ') → tgA t x δ k'
  | .nm i, x, δ, k, k', h, f => by unfold tgA at h ⊢; exact f _ h
  | .tp ts, x, δ, k, k', h, f => by
    unfold tgA at h ⊢
    split at h
    · exact tgAs_mono ts _ δ k k' h f
    · exact h.elim
theorem tgAs_mono : ∀ (ts : List Tg) (ds : List D) (δ : Env1) (k k' : Env1 → Prop), tgAs ts ds δ k → (∀ δ', k δ' → k' δ') → tgAs ts ds δ k'
  | [], ds, δ, k, k', h, f => by
    unfold tgAs at h ⊢
    split at h
    · exact f _ h
    · exact h.elim
  | t :: ts, ds, δ, k, k', h, f => by
    unfold tgAs at h ⊢
    split at h
    · exact tgA_mono t _ δ _ _ h fun δ' h' => tgAs_mono ts _ δ' k k' h' f
    · exact h.elim
theorem tgA_ex : ∀ (t : Tg) (x : AV) (δ : Env1) (k : Env1 → Prop), tgA t x δ k → ∃ δ', k δ'
  | .nm i, x, δ, k, h => by unfold tgA at h; exact ⟨_, h⟩
  | .tp ts, x, δ, k, h => by
    unfold tgA at h
    split at h
    · exact tgAs_ex ts _ δ k h
    · exact h.elim
theorem tgAs_ex : ∀ (ts : List Tg) (ds : List D) (δ : Env1) (k : Env1 → Prop), tgAs ts ds δ k → ∃ δ', k δ'
  | [], ds, δ, k, h => by
    unfold tgAs at h
    split at h
    · exact ⟨_, h⟩
    · exact h.elim
  | t :: ts, ds, δ, k, h => by
    unfold tgAs at h
    split at h
    · obtain ⟨δ', h'⟩ := tgA_ex t _ δ _ h
      exact tgAs_ex ts _ δ' k h'
    · exact h.elim
end
abbrev AG (X : Cx) (e : Expr) (t : Tg) : Prop := PG X e (tgT X.K t)
abbrev AGs (X : Cx) (es : List Expr) (ts : List Tg) : Prop := PGs X es (tgTs X.K ts)
section
variable {X : Cx} {pos : Pos}
theorem ag_name {x : Str} (i : Nat) (hN : X.N.Nodup) (hi : X.N[i]? = some x) (hx : Loc X.env.scope x) (hf : X.fn x = true ∨ X.env.scope.names.lookup x = some .local := by first | exact .inl rfl | exact .inr rfl | assumption) : AG X (.Name x pos) (.nm i) := by
  have h : PG X (.Name x pos) (gName i) := pg_name hN hi hx hf
  unfold AG tgT
  exact h
theorem ags_nil : AGs X [] [] := by
  have h : PGs X [] gNil := pgs_nil
  unfold AGs tgTs
  exact h
theorem ags_cons {e : Expr} {es : List Expr} {t : Tg} {ts : List Tg} (h1 : AG X e t) (h2 : AGs X es ts) (hs : (assignEach (e :: es) X.env).map (·.2) = assign e X.env :: (assignEach es X.env).map (·.2) := by rfl) : AGs X (e :: es) (t :: ts) := by
  have h : PGs X (e :: es) (gCons (tgT X.K t) (tgTs X.K ts)) := pgs_cons h1 h2 hs
  unfold AGs tgTs
  exact h
theorem ag_tup {es : List Expr} {k : Nat} {ts : List Tg} (hc : X.calm = true) (h : AGs X es ts) (hn : (assignEach es X.env).length = ts.length := by rfl) (hst : (assignEach es X.env).findIdx? (·.1) = none := by rfl) : AG X (.Tuple es k pos) (.tp ts) := by
  have h : PG X (.Tuple es k pos) (gTup X.K ts.length (tgTs X.K ts)) := pg_tup hc h hn hst
  unfold AG tgT
  exact h
end
end AB

set_option Elab.async false
set_option linter.all false
set_option maxRecDepth 100000
set_option autoImplicit false
namespace AB
open PySem L2
variable {K : PySem.W.Frag}

/-! ### what a loop walks: the items, what must stand meanwhile, how many places -/
abbrev WI := Env1 → List AO → (List AV → (List AO → Prop) → Nat → List AO → Prop) → Prop
structure WalkA (P : Program) (w : World) (K : PySem.W.Frag) (J : It) (xs : List AV) (keep : List AO → Prop) (m : Nat) (ρ : List Addr) (H : Hp) : Prop where
  ex : ∃ G Y, Walk J xs.length G Y ∧ (∀ ρ1 L1 H1, keep L1 → Ev m ρ H ρ1 H1 → Kn P w K H1 ρ1 L1 → G H1) ∧
    (∀ i ρ1 L1 H1 x v H2, xs[i]? = some x → keep L1 → Ev m ρ H ρ1 H1 → Kn P w K H1 ρ1 L1 → Y i H1 v H2 → Ev ρ1.length ρ1 H1 ρ1 H2 ∧ Kn P w K H2 ρ1 L1 ∧ RA K H2 ρ1 x v)
  le : m ≤ ρ.length
def upI (P : Program) (w : World) (K : PySem.W.Frag) (e : WI) : TI := fun σ H R => ∃ δ L Q ρ, e δ L Q ∧ Kn P w K H ρ L ∧ RE K H ρ δ σ ∧
  ∀ xs keep m L' ρ' H', Q xs keep m L' → Ev ρ.length ρ H ρ' H' → Kn P w K H' ρ' L' → ∀ J, WalkA P w K J xs keep m ρ' H' → R J H'
abbrev AI (X : Cx) (tg iter : Expr) (e : WI) : Prop := PI X tg iter (upI X.prog X.w X.K e)
theorem PI.of {X : Cx} {tg e : Expr} {t u : TI} (h : PI X tg e t) (k : ∀ σ H q, u σ H q → t σ H q) : PI X tg e u := ⟨fun pins s σ H q I hq => h.run pins s σ H q I (k σ H q hq)⟩
section
variable {P : Program} {w : World} {K : PySem.W.Frag} {H : Hp} {ρ : List Addr} {L : List AO} {δ : Env1} {σ : St}
theorem upI.run {a : WI} {R : It → Hp → Prop} {Q : List AV → (List AO → Prop) → Nat → List AO → Prop} (h : a δ L Q) (kn : Kn P w K H ρ L) (re : RE K H ρ δ σ)
    (k : ∀ xs keep m L' ρ' H', Q xs keep m L' → Ev ρ.length ρ H ρ' H' → Kn P w K H' ρ' L' → RE K H' ρ' δ σ → ∀ J, WalkA P w K J xs keep m ρ' H' → R J H') : upI P w K a σ H R :=
  ⟨δ, L, Q, ρ, h, kn, re, fun xs keep m L' ρ' H' hq ev kn' => k xs keep m L' ρ' H' hq ev kn' (re.mono kn ev (Nat.le_refl _))⟩
end
theorem RsAt {H : Hp} {ds : List D} {vs : List V} {i : Nat} {x : AV} {v : V} (h : Rs K H ds vs) (e : (ds.map AV.d)[i]? = some x) (e2 : vs[i]? = some v) (ρ : List Addr) : RA K H ρ x v := by
  rw [List.getElem?_map] at e
  obtain ⟨d, h1, h2⟩ := h.get e2
  rw [h1] at e
  cases e
  exact h2
section
variable {X : Cx} {tg : Expr} {pos : Pos} {e a b : Expr}
theorem seq_keep {P : Program} {w : World} {K : PySem.W.Frag} {H : Hp} {ρ : List Addr} {L : List AO} {k : Nat} {a : Addr} {ds : List D} (kn : Kn P w K H ρ L) (ha : ρ[k]? = some a)
    (hk : k < ρ.length) : WalkA P w K (Itl K a) (ds.map AV.d) (fun L => L[k]? = some (.dl ds)) (k + 1) ρ H := by
  refine ⟨⟨fun H => ∃ vs, SqL K H a vs ∧ Rs K H ds vs, fun i H v H' => H' = H ∧ ∃ vs, Rs K H ds vs ∧ vs[i]? = some v, ⟨?_, ?_, ?_⟩, ?_, ?_⟩, hk⟩
  · rintro i H hi ⟨vs, h1, h2⟩
    rw [List.length_map, ← h2.len] at hi
    exact ⟨vs, vs[i], h1, List.getElem?_eq_getElem hi⟩
  · rintro H ⟨vs, h1, h2⟩
    exact ⟨vs, h1, by rw [List.length_map, h2.len]; exact Nat.le_refl _⟩
  · rintro i H x H' hi ⟨vs, h1, h2⟩ ⟨rfl, hy⟩
    exact ⟨rfl, vs, h2, hy vs h1⟩
  · intro ρ1 L1 H1 hL ev kn1
    have h1 := ev.pre k a (Nat.lt_succ_self _) ha
    obtain ⟨a', ws, g1, g2, g3⟩ := kn1.dl hL
    rw [h1] at g1
    cases g1
    exact ⟨ws, SqL.of g2, g3⟩
  · intro i ρ1 L1 H1 x v H2 hx hL ev kn1 hy
    obtain ⟨rfl, vs, hr, hv⟩ := hy
    exact ⟨Ev.refl, kn1, RsAt hr hx hv ρ1⟩
theorem fz_keep {P : Program} {w : World} {K : PySem.W.Frag} {H : Hp} {ρ : List Addr} {L : List AO} {a : Addr} {vs : List V} {ds : List D} (kn : Kn P w K H ρ L) (ha : SqF K H a vs) (hr : Rs K H ds vs) :
    WalkA P w K (Itl K a) (ds.map AV.d) (fun _ => True) 0 ρ H := by
  refine ⟨⟨fun H => SqL K H a vs, YAt vs, ?_, ?_, ?_⟩, Nat.zero_le _⟩
  · rw [List.length_map, ← hr.len]
    exact walk_list
  · intro ρ1 L1 H1 _ ev kn1
    exact (ha.mono (kn.im ev)).sq
  · intro i ρ1 L1 H1 x v H2 hx _ ev kn1 hy
    obtain ⟨rfl, hv⟩ := hy
    exact ⟨Ev.refl, kn1, RsAt (Rs.mono (kn.im ev) ds vs hr) hx hv ρ1⟩
theorem ref_keep {P : Program} {w : World} {K : PySem.W.Frag} {H : Hp} {ρ : List Addr} {L : List AO} {k : Nat} {a : Addr} {ks : List Nat} (kn : Kn P w K H ρ L) (ha : ρ[k]? = some a)
    (hk : k < ρ.length) : WalkA P w K (Itl K a) (ks.map AV.ref) (fun L => L[k]? = some (.rl ks)) (k + 1) ρ H := by
  refine ⟨⟨fun H => ∃ vs, SqL K H a vs ∧ vs.length = ks.length, fun i H v H' => H' = H ∧ ∀ vs, SqL K H a vs → vs[i]? = some v, ⟨?_, ?_, ?_⟩, ?_, ?_⟩, hk⟩
  · rintro i H hi ⟨vs, h1, h2⟩
    rw [List.length_map, ← h2] at hi
    exact ⟨vs, vs[i], h1, List.getElem?_eq_getElem hi⟩
  · rintro H ⟨vs, h1, h2⟩
    exact ⟨vs, h1, by rw [List.length_map, h2]; exact Nat.le_refl _⟩
  · rintro i H x H' hi ⟨vs, h1, h2⟩ ⟨rfl, hy⟩
    exact ⟨rfl, hy⟩
  · intro ρ1 L1 H1 hL ev kn1
    have h1 := ev.pre k a (Nat.lt_succ_self _) ha
    obtain ⟨a', ws, g1, g2, g3⟩ := kn1.rl hL
    rw [h1] at g1
    cases g1
    exact ⟨_, SqL.of g2, by rw [List.length_map, ← Paired.length g3]⟩
  · intro i ρ1 L1 H1 x v H2 hx hL ev kn1 hy
    obtain ⟨rfl, hy⟩ := hy
    refine ⟨Ev.refl, kn1, ?_⟩
    have h1 := ev.pre k a (Nat.lt_succ_self _) ha
    obtain ⟨a', ws, g1, g2, g3⟩ := kn1.rl hL
    rw [h1] at g1
    cases g1
    have hv := hy _ (SqL.of g2)
    rw [List.getElem?_map] at hx hv
    have : ∀ (ks : List Nat) (as : List Addr) (j : Nat), Paired (fun k b => ρ1[k]? = some b) ks as → (ks[j]?).map AV.ref = some x → (as[j]?).map V.ref = some v → RA K H2 ρ1 x v := by
      intro ks as j h
      induction h generalizing j with
      | nil => intro z; simp at z
      | cons q _ ih =>
        intro z1 z2
        cases j with
        | zero => simp at z1 z2; subst z1; subst z2; exact ⟨_, q, rfl⟩
        | succ j => exact ih j (by simpa using z1) (by simpa using z2)
    exact this ks ws i g3 hx hv
def wIList (wa : WE) : WI := fun δ L Q => wa δ L fun x L1 => match x with
    | .d (.list ds) => Q (ds.map AV.d) (fun _ => True) 0 L1
    | .ref k => at0 L1 k fun o => match o with
      | .dl ds => Q (ds.map AV.d) (fun L => L[k]? = some (.dl ds)) (k + 1) L1
      | .rl ks => Q (ks.map AV.ref) (fun L => L[k]? = some (.rl ks)) (k + 1) L1
      | _ => False
    | _ => False
theorem ai_list {wa : WE} (ha : AE X a wa) : AI X tg a (wIList wa) := by
  refine PI.of (pi_list ha) fun σ H q h => ?_
  obtain ⟨δ, L, Q, ρ, hw, kn, re, k⟩ := h
  refine upE.run hw kn re fun x L1 ρ1 u H1 h1 e1 kn1 r1 re1 => ?_
  split at h1
  · obtain ⟨a', vs, rfl, g1, g2⟩ := r1
    exact ⟨a', rfl, ⟨vs, g1.sq⟩, k _ _ _ L1 ρ1 H1 h1 e1 kn1 _ (fz_keep kn1 g1 g2)⟩
  · obtain ⟨o, ho, h3⟩ := at0.of h1
    obtain ⟨a', ha', rfl⟩ := r1
    have hi := (List.getElem?_eq_some_iff.mp ha').1
    split at h3
    · obtain ⟨b', vs, g1, g2, g3⟩ := kn1.dl ho
      rw [ha'] at g1; cases g1
      exact ⟨a', rfl, ⟨vs, SqL.of g2⟩, k _ _ _ L1 ρ1 H1 h3 e1 kn1 _ (seq_keep kn1 ha' hi)⟩
    · obtain ⟨b', vs, g1, g2, g3⟩ := kn1.rl ho
      rw [ha'] at g1; cases g1
      exact ⟨a', rfl, ⟨_, SqL.of g2⟩, k _ _ _ L1 ρ1 H1 h3 e1 kn1 _ (ref_keep kn1 ha' hi)⟩
    · exact h3.elim
  · exact h1.elim
theorem tup_keep {P : Program} {w : World} {K : PySem.W.Frag} {H : Hp} {ρ : List Addr} {L : List AO} {a : Addr} {vs : List V} {ds : List D} (kn : Kn P w K H ρ L) (ha : H a = some (.tup vs)) (hr : Rs K H ds vs) :
    WalkA P w K (Itt K a) (ds.map AV.d) (fun _ => True) 0 ρ H := by
  refine ⟨⟨fun H => SqT K H a vs, YAt vs, ?_, ?_, ?_⟩, Nat.zero_le _⟩
  · rw [List.length_map, ← hr.len]
    exact walk_tup
  · intro ρ1 L1 H1 _ ev kn1
    exact SqT.of ((kn.im ev).1 a vs ha)
  · intro i ρ1 L1 H1 x v H2 hx _ ev kn1 hy
    obtain ⟨rfl, hv⟩ := hy
    exact ⟨Ev.refl, kn1, RsAt (Rs.mono (kn.im ev) ds vs hr) hx hv ρ1⟩
def wITup (wa : WE) : WI := fun δ L Q => wa δ L fun x L1 => asTup x fun ds => Q (ds.map AV.d) (fun _ => True) 0 L1
theorem ai_tup {wa : WE} (ha : AE X a wa) : AI X tg a (wITup wa) := by
  refine PI.of (pi_tup ha) fun σ H q h => ?_
  obtain ⟨δ, L, Q, ρ, hw, kn, re, k⟩ := h
  refine upE.run hw kn re fun x L1 ρ1 u H1 h1 e1 kn1 r1 re1 => ?_
  obtain ⟨ds, rfl, h2⟩ := asTup.of h1
  obtain ⟨a', vs, rfl, g1, g2⟩ := r1
  exact ⟨a', rfl, ⟨vs, SqT.of g1⟩, k _ _ _ L1 ρ1 H1 h2 e1 kn1 _ (tup_keep kn1 g1 g2)⟩
def rangeA (lo : Int) (n : Nat) : List AV := (List.range n).map fun (i : Nat) => AV.d (.int (lo + (i : Int)))
theorem range_keep {P : Program} {w : World} {K : PySem.W.Frag} {H : Hp} {ρ : List Addr} {lo : Int} {n : Nat} : WalkA P w K (Itr lo n) (rangeA lo n) (fun _ => True) 0 ρ H := by
  refine ⟨⟨fun _ => True, YFn fun i => .int (lo + i), ?_, fun _ _ _ _ _ _ => trivial, ?_⟩, Nat.zero_le _⟩
  · have : (rangeA lo n).length = n := by simp [rangeA]
    rw [this]
    exact walk_range
  · intro i ρ1 L1 H1 x v H2 hx _ ev kn1 hy
    obtain ⟨rfl, rfl⟩ := hy
    refine ⟨Ev.refl, kn1, ?_⟩
    unfold rangeA at hx
    rw [List.getElem?_map] at hx
    cases e : (List.range n)[i]? with
    | none => rw [e] at hx; cases hx
    | some j =>
      rw [e] at hx
      cases hx
      obtain ⟨h1, h2⟩ := List.getElem?_eq_some_iff.mp e
      simp at h2
      subst h2
      rfl
def wIR1 (wa : WA) : WI := fun δ L Q => wa δ L fun xs L1 => arg1 xs fun x => asInt x fun j => (-(2 ^ 62) ≤ j ∧ j < 2 ^ 62) ∧ Q (rangeA 0 j.toNat) (fun _ => True) 0 L1
theorem ai_range1 {p : Pos} {wa : WA} (hg : Gl X "range") (hm : X.mg "range" = none) (ha : AA X [a] wa) (hs : starEach [a] X.env = [(false, eval a X.env)] := by rfl) :
    AI X tg (.Call (.Name "range" p) [a] [] pos) (wIR1 wa) := by
  refine PI.of (pi_range1 hg hm ha hs) fun σ H q h => ?_
  obtain ⟨δ, L, Q, ρ, hw, kn, re, k⟩ := h
  refine upA.run hw kn re fun xs L1 ρ1 vs H1 h1 e1 kn1 r1 re1 => ?_
  obtain ⟨x, rfl, h2⟩ := arg1.of h1
  obtain ⟨j, rfl, ⟨h3, h4⟩, h5⟩ := asInt.of h2
  obtain ⟨v, rfl, rv⟩ := one_of r1
  exact ⟨j, by rw [show v = .int j from rv], h3, h4, k _ _ _ L1 ρ1 H1 h5 e1 kn1 _ range_keep⟩
def wIR2 (wa : WA) : WI := fun δ L Q => wa δ L fun xs L1 => arg2 xs fun x y => asInt x fun i => asInt y fun j => (-(2 ^ 62) ≤ i ∧ i < 2 ^ 62 ∧ -(2 ^ 62) ≤ j ∧ j < 2 ^ 62) ∧ Q (rangeA i (j - i).toNat) (fun _ => True) 0 L1
theorem ai_range2 {p : Pos} {wa : WA} (hg : Gl X "range") (hm : X.mg "range" = none) (ha : AA X [a, b] wa) (hs : starEach [a, b] X.env = [(false, eval a X.env), (false, eval b X.env)] := by rfl) (hs2 : starEach [b] X.env = [(false, eval b X.env)] := by rfl) :
    AI X tg (.Call (.Name "range" p) [a, b] [] pos) (wIR2 wa) := by
  refine PI.of (pi_range2 hg hm ha hs hs2) fun σ H q h => ?_
  obtain ⟨δ, L, Q, ρ, hw, kn, re, k⟩ := h
  refine upA.run hw kn re fun xs L1 ρ1 vs H1 h1 e1 kn1 r1 re1 => ?_
  obtain ⟨x, y, rfl, h2⟩ := arg2.of h1
  obtain ⟨i, rfl, h3⟩ := asInt.of h2
  obtain ⟨j, rfl, h4, h5⟩ := asInt.of h3
  obtain ⟨u, v, rfl, ru, rv⟩ := two_of r1
  exact ⟨i, j, by rw [show u = .int i from ru, show v = .int j from rv], h4, k _ _ _ L1 ρ1 H1 h5 e1 kn1 _ range_keep⟩
def rangeC (lo c : Int) (n : Nat) : List AV := (List.range n).map fun (i : Nat) => AV.d (.int (lo + (i : Int) * c))
theorem rangeC_keep {P : Program} {w : World} {K : PySem.W.Frag} {H : Hp} {ρ : List Addr} {lo c : Int} {n : Nat} : WalkA P w K (Itc lo c n) (rangeC lo c n) (fun _ => True) 0 ρ H := by
  refine ⟨⟨fun _ => True, YFn fun i => .int (lo + (i : Nat) * c), ?_, fun _ _ _ _ _ _ => trivial, ?_⟩, Nat.zero_le _⟩
  · have : (rangeC lo c n).length = n := by simp [rangeC]
    rw [this]
    exact walk_rangeC
  · intro i ρ1 L1 H1 x v H2 hx _ ev kn1 hy
    obtain ⟨rfl, rfl⟩ := hy
    refine ⟨Ev.refl, kn1, ?_⟩
    unfold rangeC at hx
    rw [List.getElem?_map] at hx
    cases e : (List.range n)[i]? with
    | none => rw [e] at hx; cases hx
    | some j =>
      rw [e] at hx
      cases hx
      obtain ⟨h1, h2⟩ := List.getElem?_eq_some_iff.mp e
      simp at h2
      subst h2
      rfl
def arg3 (xs : List AV) (k : AV → AV → AV → Prop) : Prop := match xs with
  | [x, y, z] => k x y z
  | _ => False
theorem arg3.of {xs : List AV} {k : AV → AV → AV → Prop} (h : arg3 xs k) : ∃ x y z, xs = [x, y, z] ∧ k x y z := by
  unfold arg3 at h; split at h
  · exact ⟨_, _, _, rfl, h⟩
  · exact h.elim
theorem three_of {α β : Type} {F : α → β → Prop} {x y z : α} {vs : List β} (h : Paired F [x, y, z] vs) : ∃ u v t, vs = [u, v, t] ∧ F x u ∧ F y v ∧ F z t := by
  cases h with
  | cons q t =>
    obtain ⟨u, v, rfl, h1, h2⟩ := two_of t
    exact ⟨_, _, _, rfl, q, h1, h2⟩
def wIR3 (wa : WA) : WI := fun δ L Q => wa δ L fun xs L1 => arg3 xs fun x y z => asInt x fun i => asInt y fun j => asInt z fun c => ∃ n, RgC i j c n ∧ Q (rangeC i c n) (fun _ => True) 0 L1
theorem ai_range3 {p : Pos} {wa : WA} (hg : Gl X "range") (hm : X.mg "range" = none) (ha : AA X [a, b, e] wa)
    (hs : starEach [a, b, e] X.env = (false, eval a X.env) :: starEach [b, e] X.env := by rfl) (hpl : (backTo pos (starEach [b, e] X.env)).any (·.1) = false := by rfl) :
    AI X tg (.Call (.Name "range" p) [a, b, e] [] pos) (wIR3 wa) := by
  refine PI.of (pi_range3 hg hm ha hs hpl) fun σ H q h => ?_
  obtain ⟨δ, L, Q, ρ, hw, kn, re, k⟩ := h
  refine upA.run hw kn re fun xs L1 ρ1 vs H1 h1 e1 kn1 r1 re1 => ?_
  obtain ⟨x, y, z, rfl, h2⟩ := arg3.of h1
  obtain ⟨i, rfl, h3⟩ := asInt.of h2
  obtain ⟨j, rfl, h4⟩ := asInt.of h3
  obtain ⟨c, rfl, n, h5, h6⟩ := asInt.of h4
  obtain ⟨u, v, t, rfl, ru, rv, rt⟩ := three_of r1
  exact ⟨i, j, c, n, by rw [show u = .int i from ru, show v = .int j from rv, show t = .int c from rt], h5, k _ _ _ L1 ρ1 H1 h6 e1 kn1 _ rangeC_keep⟩
end
end AB

set_option Elab.async false
set_option linter.all false
set_option maxRecDepth 100000
set_option autoImplicit false
namespace AB
open PySem L2
variable {K : PySem.W.Frag}

section
variable {X : Cx} {pos : Pos} {e a b : Expr} {st : Stmt} {rest : List Stmt}
/-! ### statements -/
def wNext : WS := fun _ A δ L => A.nx δ L
def wSeq (s t : WS) : WS := fun n A δ L => s n { A with nx := fun δ' L' => t n A δ' L' } δ L
theorem as_nil : ASs X [] wNext := by
  refine PSs.of pss_nil fun D σ H h => ?_
  obtain ⟨δ, L, n, A, ρ, hw, hn, kn, re, k⟩ := h
  exact k.nx δ L ρ σ H hw Ev.refl kn re
theorem as_cons {s t : WS} (h1 : AS X st s) (h2 : ASs X rest t) : ASs X (st :: rest) (wSeq s t) := by
  refine PSs.of (pss_cons h1 h2) fun D σ H h => ?_
  obtain ⟨δ, L, n, A, ρ, hw, hn, kn, re, k⟩ := h
  refine ⟨δ, L, n, _, ρ, hw, hn, kn, re, ⟨fun δ' L' ρ' σ' H' h' ev kn' re' => ?_, k.rt, k.bk, k.ct⟩⟩
  exact ⟨δ', L', n, A, ρ', h', ev.lens hn, kn', re', k.after ev (Nat.le_refl _)⟩
theorem as_one {s : WS} (h1 : AS X st s) : ASs X [st] s := pss_one h1
def wBrk : WS := fun _ A δ L => A.bk δ L
def wCnt : WS := fun _ A δ L => A.ct δ L
theorem as_pass : AS X (.Pass pos) wNext := by
  refine PS.of ps_pass fun D σ H h => ?_
  obtain ⟨δ, L, n, A, ρ, hw, hn, kn, re, k⟩ := h
  exact k.nx δ L ρ σ H hw Ev.refl kn re
theorem as_break : AS X (.Break pos) wBrk := by
  refine PS.of ps_break fun D σ H h => ?_
  obtain ⟨δ, L, n, A, ρ, hw, hn, kn, re, k⟩ := h
  exact k.bk δ L ρ σ H hw Ev.refl kn re
theorem as_continue : AS X (.Continue pos) wCnt := by
  refine PS.of ps_continue fun D σ H h => ?_
  obtain ⟨δ, L, n, A, ρ, hw, hn, kn, re, k⟩ := h
  exact k.ct δ L ρ σ H hw Ev.refl kn re
def wDrop (wa : WE) : WS := fun _ A δ L => wa δ L fun _ L1 => A.nx δ L1
theorem as_expr {wa : WE} (ha : AE X e wa) (hs : swapsWith e none pos.line X.env = pure false := by rfl) : AS X (.Expr e pos) (wDrop wa) := by
  refine PS.of (ps_expr ha hs) fun D σ H h => ?_
  obtain ⟨δ, L, n, A, ρ, hw, hn, kn, re, k⟩ := h
  exact upE.run hw kn re fun x L1 ρ1 u H1 h1 e1 kn1 r1 re1 => k.nx δ L1 ρ1 σ H1 h1 (e1.le hn) kn1 re1
def wRet (wa : WE) : WS := fun _ A δ L => wa δ L fun x L1 => A.rt x L1
theorem as_ret {wa : WE} (ha : AE X e wa) : AS X (.Return (some e) pos) (wRet wa) := by
  refine PS.of (ps_ret ha) fun D σ H h => ?_
  obtain ⟨δ, L, n, A, ρ, hw, hn, kn, re, k⟩ := h
  exact upE.run hw kn re fun x L1 ρ1 u H1 h1 e1 kn1 r1 re1 => k.rt x L1 ρ1 u H1 h1 (e1.le hn) kn1 r1
def wRetN : WS := fun _ A _ L => A.rt (.d .none) L
theorem as_retN : AS X (.Return none pos) wRetN := by
  refine PS.of ps_retN fun D σ H h => ?_
  obtain ⟨δ, L, n, A, ρ, hw, hn, kn, re, k⟩ := h
  exact k.rt _ L ρ _ H hw Ev.refl kn rfl
def wIf (t : WT) (s u : WS) : WS := fun n A δ L => t δ L fun b L1 => (b = true → s n A δ L1) ∧ (b = false → u n A δ L1)
theorem as_if {c : Expr} {x y : List Stmt} {t : WT} {s u : WS} (ht : AT X c t) (h1 : ASs X x s) (h2 : ASs X y u) : AS X (.If c x y pos) (wIf t s u) := by
  refine PS.of (ps_if ht h1 h2) fun D σ H h => ?_
  obtain ⟨δ, L, n, A, ρ, hw, hn, kn, re, k⟩ := h
  refine upT.run hw kn re fun b L1 ρ1 H1 h1 e1 kn1 re1 => ?_
  cases b with
  | true => exact ⟨δ, L1, n, A, ρ1, h1.1 rfl, (e1.le hn).lens hn, kn1, re1, k.after e1 hn⟩
  | false => exact ⟨δ, L1, n, A, ρ1, h1.2 rfl, (e1.le hn).lens hn, kn1, re1, k.after e1 hn⟩
/-- an if, and what holds behind it either way -/
def wCut (s t : WS) : WS := fun n A δ L => ∃ Mid : Env1 → List AO → Prop, s n { A with nx := fun δ' L' => Back n Mid δ' L' } δ L ∧ ∀ δ' L', Mid δ' L' → t n A δ' L'
theorem as_cut {s t : WS} (h1 : AS X st s) (h2 : ASs X rest t) : ASs X (st :: rest) (wCut s t) := by
  refine PSs.of (pss_cons h1 h2) fun D σ H h => ?_
  obtain ⟨δ, L, n, A, ρ, ⟨Mid, hw, hm⟩, hn, kn, re, k⟩ := h
  refine ⟨δ, L, n, _, ρ, hw, hn, kn, re, ⟨fun δ' L' ρ' σ' H' h' ev kn' re' => ?_, k.rt, k.bk, k.ct⟩⟩
  obtain ⟨ρ2, δ2, L2, hi, kn2, re2, ev2⟩ := h'.go kn' re' (ev.lens hn)
  have ev3 := ev.trans ev2 (Nat.le_refl _)
  exact ⟨δ2, L2, n, A, ρ2, hm δ2 L2 hi, ev3.lens hn, kn2, re2, k.after ev3 (Nat.le_refl _)⟩
def wSet (i : Nat) (wa : WE) : WS := fun _ A δ L => wa δ L fun x L1 => A.nx (δ.set i (some x)) L1
theorem set_up {P : Program} {w : World} {K : PySem.W.Frag} {i : Nat} {wa : WE} {D : Ends} {σ : St} {H : Hp} (h : upS P w K (wSet i wa) D σ H) : tAsg (upE P w K wa) (gName i) D σ H := by
  obtain ⟨δ, L, n, A, ρ, hw, hn, kn, re, k⟩ := h
  exact upE.run hw kn re fun x L1 ρ1 u H1 h1 e1 kn1 r1 re1 => k.nx _ L1 ρ1 _ H1 h1 (e1.le hn) kn1 (re1.set i r1)
theorem as_set {x : Str} {wa : WE} {pos' : Pos} (i : Nat) (hN : X.N.Nodup) (hi : X.N[i]? = some x) (hx : Loc X.env.scope x) (ha : AE X e wa) (hs : swapsWith e (some (.Name x pos')) pos.line X.env = pure false := by rfl) (hf : X.fn x = true ∨ X.env.scope.names.lookup x = some .local := by first | exact .inl rfl | exact .inr rfl | assumption) :
    AS X (.Assign [.Name x pos'] e pos) (wSet i wa) := PS.of (ps_set hN hi hx ha hs hf) fun _ _ _ h => set_up h
def wAsg (wa : WE) (t : Tg) : WS := fun _ A δ L => wa δ L fun x L1 => tgA t x δ fun δ' => A.nx δ' L1
theorem as_asg {tg : Expr} {wa : WE} {t : Tg} (ha : AE X e wa) (hg : AG X tg t) (hs : swapsWithSole [tg] e pos.line X.env = pure false := by rfl) (hw : swappedStores [tg] e X.env = pure none := by rfl)
    (h1 : (assignEach [tg] X.env).map (·.2) = [assign tg X.env] := by rfl) : AS X (.Assign [tg] e pos) (wAsg wa t) := by
  refine PS.of (ps_asg ha hg hs hw h1) fun D σ H h => ?_
  obtain ⟨δ, L, n, A, ρ, hw, hn, kn, re, k⟩ := h
  refine upE.run hw kn re fun x L1 ρ1 u H1 h1 e1 kn1 r1 re1 => ?_
  exact tg_run (vs := []) kn1 t x u δ σ _ _ h1 r1 re1 fun δ' σ' hk hr _ => k.nx δ' L1 ρ1 σ' H1 hk (e1.le hn) kn1 hr
/-- xs[i] = v -/
def bSetIx (o i v : AV) (L : List AO) (q : List AO → Prop) : Prop := asInt i fun i => asRef o fun k => at0 L k fun ob => match ob with
  | .dl ds => asD v fun d => ∃ j, ixN ds.length i = some j ∧ q (L.set k (.dl (ds.set j d)))
  | .rl ks => asRef v fun d => ∃ j, ixN ks.length i = some j ∧ q (L.set k (.rl (ks.set j d)))
  | _ => False
def wSetIx (wv wo wi : WE) : WS := fun _ A δ L => wv δ L fun v L1 => wo δ L1 fun o L2 => wi δ L2 fun i L3 => bSetIx o i v L3 fun L4 => A.nx δ L4
theorem Paired.set {α β : Type} {F : α → β → Prop} {xs : List α} {ys : List β} {x : α} {y : β} (h : Paired F xs ys) (r : F x y) (j : Nat) : Paired F (xs.set j x) (ys.set j y) := by
  induction h generalizing j with
  | nil => exact .nil
  | cons q t ih =>
    cases j with
    | zero => exact .cons r t
    | succ j => exact .cons q (ih j)
theorem as_setIx {o i v : Expr} {wv wo wi : WE} {tpos : Pos} (hv : AE X v wv) (ho : AE X o wo) (hi : AE X i wi) (hs : swapsWithSole [.Subscript o i tpos] v pos.line X.env = pure false := by rfl) (hw : swappedStores [.Subscript o i tpos] v X.env = pure none := by rfl)
    (h1 : (assignEach [.Subscript o i tpos] X.env).map (·.2) = [assign (.Subscript o i tpos) X.env] := by rfl)
    (ha : ∀ v, assign (.Subscript o i tpos) X.env v = (do
      let ov ← holding [v] (eval o X.env)
      let iv ← holding [v, ov] (eval i X.env)
      standAt tpos
      holding [v, ov, iv] (setItem ov iv v)
      release [v, ov, iv] []) := by intro _; rfl) : AS X (.Assign [.Subscript o i tpos] v pos) (wSetIx wv wo wi) := by
  refine PS.of (ps_asg hv (pg_sub ho hi set_list ha) hs hw h1) fun D σ H h => ?_
  obtain ⟨δ, L, n, A, ρ, hw, hn, kn, re, k⟩ := h
  refine upE.run hw kn re fun x L1 ρ1 u H1 h1 e1 kn1 r1 re1 => ?_
  refine upE.run h1 kn1 re1 fun y L2 ρ2 u2 H2 h2 e2 kn2 r2 re2 => ?_
  refine upE.run h2 kn2 re2 fun z L3 ρ3 u3 H3 h3 e3 kn3 r3 re3 => ?_
  have rx := (r1.mono kn1 e2 (Nat.le_refl _)).mono kn2 e3 (Nat.le_refl _)
  have ry := r2.mono kn2 e3 (Nat.le_refl _)
  have ev : Ev ρ.length ρ H ρ3 H3 := e1.trans (e2.trans e3 (e2.lens (Nat.le_refl _))) (e1.lens (Nat.le_refl _))
  obtain ⟨j, rfl, h4⟩ := asInt.of h3
  obtain ⟨m, rfl, h5⟩ := asRef.of h4
  obtain ⟨ob, hob, h6⟩ := at0.of h5
  obtain ⟨p, hp, rfl⟩ := ry
  split at h6
  · obtain ⟨d, rfl, jj, hj, hq⟩ := asD.of h6
    obtain ⟨p', vs, g1, g2, g3⟩ := kn3.dl hob
    rw [hp] at g1; cases g1
    obtain ⟨kn', ev'⟩ := kn3.putL hp (g3.set jj rx)
    refine ⟨p, vs, j, jj, rfl, r3, g2, by rw [g3.len]; exact hj, ?_⟩
    have ev2 := ev.trans ev' (ev.lens (Nat.le_refl _))
    exact k.nx δ _ ρ3 σ _ hq (ev2.le hn) kn' (re3.mono kn3 ev' (Nat.le_refl _))
  · obtain ⟨d, rfl, jj, hj, hq⟩ := asRef.of h6
    obtain ⟨p', as, g1, g2, g3⟩ := kn3.rl hob
    rw [hp] at g1; cases g1
    obtain ⟨b, hb, rfl⟩ := rx
    obtain ⟨kn', ev'⟩ := kn3.putR hp (Paired.set g3 hb jj)
    refine ⟨p, _, j, jj, rfl, r3, g2, by rw [List.length_map, ← Paired.length g3]; exact hj, ?_⟩
    have e : (as.map V.ref).set jj (V.ref b) = (as.set jj b).map V.ref := by rw [List.map_set]
    rw [e]
    have ev2 := ev.trans ev' (ev.lens (Nat.le_refl _))
    exact k.nx δ _ ρ3 σ _ hq (ev2.le hn) kn' (re3.mono kn3 ev' (Nat.le_refl _))
  · exact h6.elim
/-- x += e, x -= e of ints -/
def wAugI (g : Int → Int → Int) (i : Nat) (wa : WE) : WS := fun _ A δ L => wVar i δ L fun x _ => asInt x fun m => wa δ L fun y L1 => asInt y fun n => A.nx (δ.set i (some (.d (.int (g m n))))) L1
theorem as_augI {x : Str} {wa : WE} {op : Operator} {g : Int → Int → Int} {pos' : Pos} (i : Nat) (hN : X.N.Nodup) (hi : X.N[i]? = some x) (hx : Loc X.env.scope x) (ha : AE X e wa) (ho : PIp X op (ipI g)) (hf : X.fn x = true ∨ X.env.scope.names.lookup x = some .local := by first | exact .inl rfl | exact .inr rfl | assumption) :
    AS X (.AugAssign (.Name x pos') op e pos) (wAugI g i wa) := by
  refine PS.of (ps_aug hN hi hx ha ho hf) fun D σ H h => ?_
  obtain ⟨δ, L, n, A, ρ, hw, hn, kn, re, k⟩ := h
  unfold wAugI wVar at hw
  split at hw
  · rename_i x hx'
    obtain ⟨m, rfl, hw⟩ := asInt.of hw
    obtain ⟨v, e1, e2⟩ := re.get hx'
    refine ⟨v, e1, upE.run hw kn re fun y L1 ρ1 u H1 h1 ev kn1 r1 re1 => ?_⟩
    obtain ⟨j, rfl, hq⟩ := asInt.of h1
    exact ⟨m, j, e2, r1, k.nx _ L1 ρ1 _ H1 hq (ev.le hn) kn1 (re1.set i rfl)⟩
  · exact hw.elim

/-! ### for, while -/
def wFor (wi : WI) (t : Tg) (s : WS) : WS := fun n A δ L => wi δ L fun xs keep m L1 => ∃ I : Nat → Env1 → List AO → Prop, I 0 δ L1 ∧ (∀ i δ' L', i ≤ xs.length → I i δ' L' → keep L') ∧
  (∀ i x δ' L', xs[i]? = some x → I i δ' L' → tgA t x δ' fun δ2 => s (max n m) { A with nx := Back (max n m) (I (i + 1)), ct := Back (max n m) (I (i + 1)), bk := A.nx } δ2 L') ∧
  (∀ δ' L', I xs.length δ' L' → A.nx δ' L')
theorem as_for {tg iter : Expr} {body : List Stmt} {wi : WI} {t : Tg} {s : WS} (hp : PassesOwn (model X.prog X.w) X.A X.env X.xe) (hc : X.calm = true) (hi : AI X tg iter wi) (hg : AG X tg t) (hb : ASs X body s) (hs : ∀ x, foldedSetIterable iter X.env x = pure x := by intro _; rfl) : AS X (.For tg iter body [] pos) (wFor wi t s) := by
  refine PS.of (ps_for hp hc hi hg hb hs) fun D σ H h => ?_
  obtain ⟨δ, L, n, A, ρ, hw, hn, kn, re, k⟩ := h
  refine upI.run hw kn re fun xs keep m L1 ρ1 H1 ⟨I, i0, ik, is, ie⟩ e1 kn1 re1 J wk => ?_
  obtain ⟨⟨G, Y, hW, hG, hY⟩, hm⟩ := wk
  have hn1 : n ≤ ρ1.length := (e1.le hn).lens hn
  have k1 := k.after e1 hn
  have hmx : max n m ≤ ρ1.length := Nat.max_le.mpr ⟨hn1, hm⟩
  refine for_it hW (fun i σ' H' => ∃ δ' L' ρ', I i δ' L' ∧ Kn X.prog X.w X.K H' ρ' L' ∧ RE X.K H' ρ' δ' σ' ∧ Ev (max n m) ρ1 H1 ρ' H') ⟨δ, L1, ρ1, i0, kn1, re1, Ev.refl⟩ ?_ ?_ ?_
  · rintro i σ' H' hi ⟨δ', L', ρ', h1, h2, h3, h4⟩
    exact hG ρ' L' H' (ik i δ' L' hi h1) (h4.le (Nat.le_max_right _ _)) h2
  · rintro i v σ' H' H2 hi ⟨δ', L', ρ', h1, h2, h3, h4⟩ hy
    have hx : xs[i]? = some xs[i] := List.getElem?_eq_getElem hi
    obtain ⟨ev5, kn5, ra5⟩ := hY i ρ' L' H' _ v H2 hx (ik i δ' L' (Nat.le_of_lt hi) h1) (h4.le (Nat.le_max_right _ _)) h2 hy
    have ev6 : Ev (max n m) ρ1 H1 ρ' H2 := h4.trans (ev5.le (h4.lens hmx)) (Nat.le_refl _)
    refine tg_run (vs := []) kn5 t _ v δ' σ' _ _ (is i _ δ' L' hx h1) ra5 (h3.mono h2 ev5 (Nat.le_refl _)) fun δ2 σ2 hk hr _ => ?_
    refine ⟨δ2, L', max n m, _, ρ', hk, ev6.lens hmx, kn5, hr, ⟨fun δ3 L3 ρ3 σ3 H3 h7 ev7 kn7 re7 => ?_, fun x L3 ρ3 v3 H3 h7 ev7 kn7 ra7 => ?_, fun δ3 L3 ρ3 σ3 H3 h7 ev7 kn7 re7 => ?_, fun δ3 L3 ρ3 σ3 H3 h7 ev7 kn7 re7 => ?_⟩⟩
    · have ev8 := ev6.trans ev7 (Nat.le_refl _)
      obtain ⟨ρ9, δ9, L9, h9, kn9, re9, ev9⟩ := Back.go h7 kn7 re7 (ev8.lens hmx)
      exact ⟨δ9, L9, ρ9, h9, kn9, re9, ev8.trans ev9 (Nat.le_refl _)⟩
    · exact k1.rt x L3 ρ3 v3 H3 h7 ((ev6.trans ev7 (Nat.le_refl _)).le (Nat.le_max_left _ _)) kn7 ra7
    · exact k1.nx δ3 L3 ρ3 σ3 H3 h7 ((ev6.trans ev7 (Nat.le_refl _)).le (Nat.le_max_left _ _)) kn7 re7
    · have ev8 := ev6.trans ev7 (Nat.le_refl _)
      obtain ⟨ρ9, δ9, L9, h9, kn9, re9, ev9⟩ := Back.go h7 kn7 re7 (ev8.lens hmx)
      exact ⟨δ9, L9, ρ9, h9, kn9, re9, ev8.trans ev9 (Nat.le_refl _)⟩
  · rintro σ' H' ⟨δ', L', ρ', h1, h2, h3, h4⟩
    exact k1.nx δ' L' ρ' σ' H' (ie δ' L' h1) (h4.le (Nat.le_max_left _ _)) h2 h3
def wWhile (t : WT) (s : WS) : WS := fun n A δ L => ∃ I : Nat → Env1 → List AO → Prop, (∃ m, I m δ L) ∧ ∀ m δ' L', I m δ' L' → t δ' L' fun b L1 =>
  (b = true → s n { A with nx := Back n (fun δ2 L2 => ∃ m', m' < m ∧ I m' δ2 L2), ct := Back n (fun δ2 L2 => ∃ m', m' < m ∧ I m' δ2 L2), bk := A.nx } δ' L1) ∧ (b = false → A.nx δ' L1)
theorem as_while {c : Expr} {body : List Stmt} {t : WT} {s : WS} (hp : PassesOwn (model X.prog X.w) X.A X.env X.xe) (hc : AT X c t) (hb : ASs X body s) : AS X (.While c body [] pos) (wWhile t s) := by
  refine PS.of (ps_while hp hc hb) fun D σ H h => ?_
  obtain ⟨δ, L, n, A, ρ, ⟨I, ⟨m0, i0⟩, is⟩, hn, kn, re, k⟩ := h
  refine ⟨fun m σ' H' => ∃ δ' L' ρ', I m δ' L' ∧ Kn X.prog X.w X.K H' ρ' L' ∧ RE X.K H' ρ' δ' σ' ∧ Ev n ρ H ρ' H', ⟨m0, δ, L, ρ, i0, kn, re, Ev.refl⟩, ?_⟩
  rintro m σ' H' ⟨δ', L', ρ', h1, h2, h3, h4⟩
  refine upT.run (is m δ' L' h1) h2 h3 fun b L1 ρ1 H1 hb1 e1 kn1 re1 => ?_
  have hn' := h4.lens hn
  have ev1 : Ev n ρ H ρ1 H1 := h4.trans (e1.le hn') (Nat.le_refl _)
  cases b with
  | true =>
    refine ⟨fun σ2 H2 => ∃ m', m' < m ∧ ∃ δ2 L2 ρ2, I m' δ2 L2 ∧ Kn X.prog X.w X.K H2 ρ2 L2 ∧ RE X.K H2 ρ2 δ2 σ2 ∧ Ev n ρ H ρ2 H2, fun σ2 H2 ⟨m', hm, h⟩ => ⟨m', hm, h⟩, ?_⟩
    refine ⟨δ', L1, n, _, ρ1, hb1.1 rfl, ev1.lens hn, kn1, re1, ⟨fun δ3 L3 ρ3 σ3 H3 h7 ev7 kn7 re7 => ?_, fun x L3 ρ3 v3 H3 h7 ev7 kn7 ra7 => ?_, fun δ3 L3 ρ3 σ3 H3 h7 ev7 kn7 re7 => ?_, fun δ3 L3 ρ3 σ3 H3 h7 ev7 kn7 re7 => ?_⟩⟩
    · have ev8 := ev1.trans ev7 (Nat.le_refl _)
      have h7' : Back n (fun δ2 L2 => ∃ m', m' < m ∧ I m' δ2 L2) δ3 L3 := h7
      obtain ⟨ρ9, δ9, L9, ⟨m', hm, h9⟩, kn9, re9, ev9⟩ := h7'.go kn7 re7 (ev8.lens hn)
      exact ⟨m', hm, δ9, L9, ρ9, h9, kn9, re9, ev8.trans ev9 (Nat.le_refl _)⟩
    · exact k.rt x L3 ρ3 v3 H3 h7 (ev1.trans ev7 (Nat.le_refl _)) kn7 ra7
    · exact k.nx δ3 L3 ρ3 σ3 H3 h7 (ev1.trans ev7 (Nat.le_refl _)) kn7 re7
    · have ev8 := ev1.trans ev7 (Nat.le_refl _)
      have h7' : Back n (fun δ2 L2 => ∃ m', m' < m ∧ I m' δ2 L2) δ3 L3 := h7
      obtain ⟨ρ9, δ9, L9, ⟨m', hm, h9⟩, kn9, re9, ev9⟩ := h7'.go kn7 re7 (ev8.lens hn)
      exact ⟨m', hm, δ9, L9, ρ9, h9, kn9, re9, ev8.trans ev9 (Nat.le_refl _)⟩
  | false => exact k.nx δ' L1 ρ1 σ' H1 (hb1.2 rfl) ev1 kn1 re1

/-! ### comprehensions -/
def wipeA (δ : Env1) : List Nat → Env1
  | [] => δ
  | v :: vs => (wipeA δ vs).set v none
theorem RE.wipe {H : Hp} {ρ : List Addr} {δ : Env1} {σ : St} (h : RE K H ρ δ σ) : ∀ vs : List Nat, RE K H ρ (wipeA δ vs) (L2.wipe σ vs)
  | [] => h
  | v :: vs => by
    unfold wipeA L2.wipe
    have h' := RE.wipe h vs
    generalize wipeA δ vs = d at h' ⊢
    generalize L2.wipe σ vs = s at h' ⊢
    induction h' generalizing v with
    | nil => exact .nil
    | cons q t ih =>
      cases v with
      | zero => exact .cons (fun x hx => by cases hx) t
      | succ v => exact .cons q (ih v)
theorem wipe_wipe (σ : St) (vs : List Nat) : wipe (wipe σ vs) vs = wipe σ vs := by
  have : ∀ (us : List Nat) (σ : St), (∀ j ∈ us, j ∈ vs) → wipe (wipe σ us) vs = wipe σ vs := by
    intro us
    induction us with
    | nil => intro σ _; rfl
    | cons u us ih =>
      intro σ h
      show wipe ((wipe σ us).set u none) vs = _
      rw [wipe_set (h u (by simp)), ih σ fun j hj => h j (by simp [hj])]
  exact this vs σ fun _ h => h
def wYes : WT := fun _ L Q => Q true L
def wLc (wi : WI) (t : Tg) (wt : WT) (we : WE) (vs : List Nat) : WE := fun δ L Q => wi δ L fun xs keep m L1 => xs.length ≤ 16777215 ∧ ∃ I : Nat → List D → List AO → Prop, I 0 [] L1 ∧ (∀ i acc L', i ≤ xs.length → I i acc L' → keep L') ∧
  (∀ i x acc L', xs[i]? = some x → acc.length ≤ i → I i acc L' → tgA t x (wipeA δ vs) fun δ2 => wt δ2 L' fun b L2 =>
    (b = true → we δ2 L2 fun y L3 => asD y fun d => Back0 L1.length (I (i + 1) (acc ++ [d])) L3) ∧ (b = false → Back0 L1.length (I (i + 1) acc) L2)) ∧
  (∀ acc L', acc.length ≤ xs.length → I xs.length acc L' → Q (.ref L'.length) (L' ++ [.dl acc]))
theorem line24 : (16777215 : Nat) < sizeLine := by rw [sizeLine_eq]; decide
/-- the new list beside the ledger -/
theorem up_lc {P : Program} {w : World} {K : PySem.W.Frag} {wi : WI} {t : Tg} {wt : WT} {we : WE} {vs : List Nat} (hv : ∀ j ∈ tgN t, j ∈ vs) {σ : St} {H : Hp} {q : VK} (h : upE P w K (wLc wi t wt we vs) σ H q) :
    tLc (upI P w K wi) (tgT K t) (upT P w K wt) (upE P w K we) vs σ H q := by
  obtain ⟨δ, L, Q, ρ, hw, kn, re, k⟩ := h
  refine upI.run hw kn re fun xs keep m L1 ρ1 H1 ⟨hz, I, i0, ik, is, ie⟩ e1 kn1 re1 J wk Dl hD => ?_
  obtain ⟨⟨G, Y, hW, hG, hY⟩, hm⟩ := wk
  have hl1 : L1.length = ρ1.length := kn1.len.symm
  have hDr : ∀ (ρ' : List Addr) (H' : Hp), Ev ρ1.length ρ1 H1 ρ' H' → True := fun _ _ _ => trivial
  -- a step on the rest of the heap
  have him : Im H1 (upd H1 Dl (.lst [])) := Im.upd hD
  have hDρ : Dl ∉ ρ1 := fun hm => by
    obtain ⟨j, hj⟩ := List.getElem?_of_mem hm
    have hlt : j < L1.length := by rw [← kn1.len]; exact (List.getElem?_eq_some_iff.mp hj).1
    obtain ⟨b, u, q1, q2, _⟩ := kn1.ats j L1[j] (List.getElem?_eq_getElem hlt)
    rw [hj] at q1; cases q1
    rw [hD] at q2; cases q2
  have knU : ∀ (H' : Hp) (ρ' : List Addr) (L' : List AO) (o : List V), Kn P w K H' ρ' L' → Dl ∉ ρ' → (∀ u, H' Dl = some u → ∃ xs, u = .lst xs) → Kn P w K (upd H' Dl (.lst o)) ρ' L' ∧ Im H' (upd H' Dl (.lst o)) := by
    intro H' ρ' L' o kn' hd ht
    have im' : Im H' (upd H' Dl (.lst o)) := by
      refine ⟨fun a xs h => ?_, fun a ob x h => ?_⟩
      · rw [upd_ne (fun (e : a = Dl) => by obtain ⟨ys, z⟩ := ht _ (by rw [← e]; exact h); cases z)]; exact h
      · rw [upd_ne (fun (e : a = Dl) => by obtain ⟨ys, z⟩ := ht _ (by rw [← e]; exact h); cases z)]; exact h
    refine ⟨⟨kn'.nd, kn'.len, fun j o' h => ?_⟩, im'⟩
    obtain ⟨a, u, q1, q2, q3⟩ := kn'.ats j o' h
    refine ⟨a, u, q1, ?_, q3.mono im' fun _ _ h => h⟩
    rw [upd_ne (fun (e : a = Dl) => hd (by rw [← e]; exact List.mem_of_getElem? q1))]
    exact q2
  have kn1' := (knU H1 ρ1 L1 [] kn1 hDρ (fun u h => by rw [hD] at h; cases h)).1
  -- the base: H1 with the new list
  refine lc_it hW (fun i H' => ∃ acc L' ρ' us, I i acc L' ∧ acc.length ≤ i ∧ Kn P w K H' ρ' L' ∧ H' Dl = some (.lst us) ∧ Rs K H' acc us ∧ Dl ∉ ρ' ∧ Ev ρ1.length ρ1 H1 ρ' H') ?_ ?_ ?_ ?_
  · refine ⟨[], L1, ρ1, [], i0, Nat.le_refl _, kn1', upd_same, rfl, hDρ, ⟨fun _ _ _ h => h, fun _ h => .inl h, fun b o h _ => by rw [upd_ne (ne_of_none h hD)]; exact h⟩⟩
  · rintro i H' hi ⟨acc, L', ρ', us, h1, h1', h2, h3, h4, h5, h6⟩
    exact hG ρ' L' H' (ik i acc L' hi h1) (h6.le hm) h2
  · rintro i v H' H2 hi ⟨acc, L', ρ', us, h1, h1', h2, h3, h4, h5, h6⟩ hy
    have hx : xs[i]? = some xs[i] := List.getElem?_eq_getElem hi
    obtain ⟨ev5, kn5, ra5⟩ := hY i ρ' L' H' _ v H2 hx (ik i acc L' (Nat.le_of_lt hi) h1) (h6.le hm) h2 hy
    have hl' : ρ1.length ≤ ρ'.length := h6.lens (Nat.le_refl _)
    have ev6 : Ev ρ1.length ρ1 H1 ρ' H2 := h6.trans (ev5.le hl') (Nat.le_refl _)
    have hD2 : H2 Dl = some (.lst us) := ev5.fr Dl _ h3 h5
    have re5 : RE K H2 ρ' (wipeA δ vs) (wipe σ vs) := RE.wipe (re1.mono kn1 ev6 (Nat.le_refl _)) vs
    have rs5 := Rs.mono (h2.im ev5) acc us h4
    refine tg_run (vs := vs) kn5 t _ v (wipeA δ vs) (wipe σ vs) _ _ (is i _ acc L' hx h1' h1) ra5 re5 fun δ2 σ2 hk hr hwp => ?_
    refine ⟨(hwp hv).trans (wipe_wipe σ vs), ?_⟩
    refine upT.run hk kn5 hr fun b L2 ρ2 H3 hb e3 kn3 re3 => ?_
    have hD3 : H3 Dl = some (.lst us) := e3.fr Dl _ hD2 h5
    have nD3 : Dl ∉ ρ2 := fun hm => by
      rcases e3.new Dl hm with z | z
      · exact h5 z
      · rw [hD2] at z; cases z
    have ev7 : Ev ρ1.length ρ1 H1 ρ2 H3 := ev6.trans (e3.le hl') (Nat.le_refl _)
    have rs3 := Rs.mono (kn5.im e3) acc us rs5
    cases b with
    | true =>
      refine upE.run (hb.1 rfl) kn3 re3 fun y L3 ρ3 u H4 hy2 e4 kn4 r4 re4 => ?_
      obtain ⟨d, rfl, hbk⟩ := asD.of hy2
      have hl2 : ρ1.length ≤ ρ2.length := ev7.lens (Nat.le_refl _)
      have ev8 : Ev ρ1.length ρ1 H1 ρ3 H4 := ev7.trans (e4.le hl2) (Nat.le_refl _)
      have hD4 : H4 Dl = some (.lst us) := e4.fr Dl _ hD3 nD3
      have nD4 : Dl ∉ ρ3 := fun hm => by
        rcases e4.new Dl hm with z | z
        · exact nD3 z
        · rw [hD3] at z; cases z
      have rs4 := Rs.mono (kn3.im e4) acc us rs3
      rw [hl1] at hbk
      obtain ⟨ρ9, L9, h9, kn9, ev9⟩ := hbk.go kn4 (ev8.lens (Nat.le_refl _))
      have nD9 : Dl ∉ ρ9 := fun hm => by
        rcases ev9.new Dl hm with z | z
        · exact nD4 z
        · rw [hD4] at z; cases z
      obtain ⟨knF, imF⟩ := knU H4 ρ9 L9 (us ++ [u]) kn9 nD9 (fun u h => by rw [hD4] at h; cases h; exact ⟨_, rfl⟩)
      refine ⟨us, hD4, ?_, acc ++ [d], L9, ρ9, us ++ [u], h9, by rw [List.length_append, List.length_singleton]; omega, knF, upd_same, (Rs.mono imF acc us rs4).snoc (R.mono imF d u r4), nD9, ?_⟩
      · rw [rs4.len]
        exact Nat.lt_of_le_of_lt (by omega) line24
      · have ev10 := ev8.trans ev9 (Nat.le_refl _)
        refine ⟨ev10.pre, ev10.new, fun b o hb hn => ?_⟩
        rw [upd_ne (fun (e : b = Dl) => by rw [e, hD] at hb; cases hb)]
        exact ev10.fr b o hb hn
    | false =>
      have hbk := hb.2 rfl
      rw [hl1] at hbk
      obtain ⟨ρ9, L9, h9, kn9, ev9⟩ := hbk.go kn3 (ev7.lens (Nat.le_refl _))
      have nD9 : Dl ∉ ρ9 := fun hm => by
        rcases ev9.new Dl hm with z | z
        · exact nD3 z
        · rw [hD3] at z; cases z
      exact ⟨acc, L9, ρ9, us, h9, by omega, kn9, hD3, rs3, nD9, ev7.trans ev9 (Nat.le_refl _)⟩
  · rintro H' ⟨acc, L', ρ', us, h1, h1', h2, h3, h4, h5, h6⟩
    have knN : Kn P w K H' (ρ' ++ [Dl]) (L' ++ [.dl acc]) := by
      refine ⟨?_, by simp [h2.len], fun j o h => ?_⟩
      · rw [List.nodup_append]
        refine ⟨h2.nd, by simp, fun a ha b hb => ?_⟩
        simp at hb
        subst hb
        exact fun e => h5 (e ▸ ha)
      · have pre : ∀ (j : Nat) (a : Addr), ρ'[j]? = some a → (ρ' ++ [Dl])[j]? = some a := fun j a h => by
          rw [List.getElem?_append_left (List.getElem?_eq_some_iff.mp h).1]; exact h
        by_cases hj : j < L'.length
        · rw [List.getElem?_append_left hj] at h
          obtain ⟨a, u, q1, q2, q3⟩ := h2.ats j o h
          exact ⟨a, u, pre j a q1, q2, q3.mono ⟨fun _ _ h => h, fun _ _ _ h => h⟩ pre⟩
        · have hj' : j = L'.length := by
            have := (List.getElem?_eq_some_iff.mp h).1
            simp at this
            omega
          subst hj'
          simp at h
          subst h
          exact ⟨Dl, _, by rw [← h2.len]; simp, h3, us, rfl, h4⟩
    have hl' : ρ1.length ≤ ρ'.length := h6.lens (Nat.le_refl _)
    have evN : Ev ρ1.length ρ1 H1 (ρ' ++ [Dl]) H' := by
      refine ⟨fun j a hj h => ?_, fun a ha => ?_, h6.fr⟩
      · have := h6.pre j a hj h
        rw [List.getElem?_append_left (List.getElem?_eq_some_iff.mp this).1]; exact this
      · simp at ha
        rcases ha with ha | ha
        · exact h6.new a ha
        · subst ha; exact .inr hD
    exact k _ _ (ρ' ++ [Dl]) (.ref Dl) H' (ie acc L' h1' h1) (e1.trans evN (e1.lens (Nat.le_refl _))) knN ⟨Dl, by rw [← h2.len]; simp, rfl⟩
end
end AB

set_option Elab.async false
set_option linter.all false
set_option maxRecDepth 100000
set_option autoImplicit false
namespace AB
open PySem L2

/-! ### comprehensions as rules -/
section
variable {X : Cx} {pos : Pos} {e a b : Expr}
theorem ats_nil : PTs X [] (upT X.prog X.w X.K wYes) := ⟨fun pins s σ H Q I h => by
  obtain ⟨δ, L, q, ρ, hw, kn, re, k⟩ := h
  exact pts_nil.run pins s σ H Q I (k true L ρ H hw Ev.refl kn)⟩
theorem ats_one {c : Expr} {t : WT} (h : AT X c t) : PTs X [c] (upT X.prog X.w X.K t) := pts_one h
theorem a_lc {elt tg iter : Expr} {ifs : List Expr} {scope : Scope} {wi : WI} {t : Tg} {wt : WT} {we : WE} (own : List (Str × Nat)) (hc : X.calm = true) (hN : X.N.Nodup) (hi : AI X tg iter wi) (ok : BlkOk X.N X.env.scope scope own)
    (hg : ∀ (s : Shared) (H : Hp) (C : Addr) (cl : List (Str × Addr)) (fp : List Addr), AG (X.blk s H scope (compEnvC scope cl C X.env) fp) tg t) (ht : ∀ (s : Shared) (H : Hp) (C : Addr) (cl : List (Str × Addr)) (fp : List Addr), PTs (X.blk s H scope (compEnvC scope cl C X.env) fp) ifs (upT X.prog X.w X.K wt))
    (he : ∀ (s : Shared) (H : Hp) (C : Addr) (cl : List (Str × Addr)) (fp : List Addr), AE (X.blk s H scope (compEnvC scope cl C X.env) fp) elt we) (hv : ∀ j ∈ tgN t, j ∈ own.map (·.2) := by decide) (hs : ∀ x, foldedSetIterable iter X.env x = pure x := by intro _; rfl) :
    AE X (.ListComp elt [⟨tg, iter, ifs, 0⟩] scope pos) (wLc wi t wt we (own.map (·.2))) := PE.of (pe_lc (te := upE X.prog X.w X.K we) (g := tgT X.K t) hc hN hi ok hg ht he hs) fun _ _ _ h => up_lc hv h
theorem as_setLc {y : Str} {py spos : Pos} {elt tg iter : Expr} {ifs : List Expr} {scope : Scope} {wi : WI} {t : Tg} {wt : WT} {we : WE} (i : Nat) (own : List (Str × Nat)) (hc : X.calm = true) (hN : X.N.Nodup) (hy : X.N[i]? = some y) (hyl : X.env.scope.names.lookup y = some .local)
    (hsw : swapsWith (.ListComp elt [⟨tg, iter, ifs, 0⟩] scope pos) (some (.Name y py)) spos.line X.env = pure true) (hi : AI X tg iter wi) (ok : BlkOk X.N X.env.scope scope own)
    (hg : ∀ (s : Shared) (H : Hp) (C : Addr) (cl : List (Str × Addr)) (fp : List Addr), AG (X.blk s H scope (compEnvC scope cl C X.env) fp) tg t) (ht : ∀ (s : Shared) (H : Hp) (C : Addr) (cl : List (Str × Addr)) (fp : List Addr), PTs (X.blk s H scope (compEnvC scope cl C X.env) fp) ifs (upT X.prog X.w X.K wt))
    (he : ∀ (s : Shared) (H : Hp) (C : Addr) (cl : List (Str × Addr)) (fp : List Addr), AE (X.blk s H scope (compEnvC scope cl C X.env) fp) elt we) (hv : ∀ j ∈ tgN t, j ∈ own.map (·.2) := by decide) (hs : ∀ x, foldedSetIterable iter X.env x = pure x := by intro _; rfl) :
    AS X (.Assign [.Name y py] (.ListComp elt [⟨tg, iter, ifs, 0⟩] scope pos) spos) (wSet i (wLc wi t wt we (own.map (·.2)))) := by
  refine PS.of (ps_setLc (te := upE X.prog X.w X.K we) (g := tgT X.K t) hc hN hy hyl hsw hi ok hg ht he hs) fun D σ H h => ?_
  have h2 := set_up h
  exact up_lc hv h2
end

/-! ### defs -/
abbrev ASp := List AV → List AO → WK → Prop
def upF (P : Program) (w : World) (K : PySem.W.Frag) (sp : ASp) : Sp := fun vs H Q _ => ∃ xs L q ρ, sp xs L q ∧ Kn P w K H ρ L ∧ Paired (RA K H ρ) xs vs ∧
  ∀ x L' ρ' v H', q x L' → Ev L.length ρ H ρ' H' → Kn P w K H' ρ' L' → RA K H' ρ' x v → Q v H'
def startA (N : List Str) (xs : List AV) : Env1 := xs.map some ++ List.replicate (N.length - xs.length) none
theorem re_start {K : PySem.W.Frag} {H : Hp} {ρ : List Addr} {N : List Str} {xs : List AV} {vs : List V} (h : Paired (RA K H ρ) xs vs) : RE K H ρ (startA N xs) (L2.start N vs) := by
  unfold startA L2.start
  have hl := Paired.length h
  rw [hl]
  generalize N.length - vs.length = n
  clear hl
  induction h with
  | nil =>
    induction n with
    | zero => exact .nil
    | succ n ih => exact .cons (fun x hx => by cases hx) ih
  | cons q _ ih => exact .cons (fun x hx => by cases hx; exact ⟨_, rfl, q⟩) ih
section
variable {P : Program} {w : World} {K : PySem.W.Frag} {mg : Str → Option Value} {base : Heap}
theorem fn_ok {x qual : Str} {st : Stmt} {f : Addr} {fd : FuncData} {N ps : List Str} {k : Nat} {sp : ASp} {wb : WS} (F : Fun K x qual st f fd) (S : FnScope N ps (defScope st)) (len : ∀ xs L q, sp xs L q → xs.length = ps.length)
    (hbody : ∀ (cdv : Value) (A : Around) (outer : List Env) (s : Shared) (H : Hp) (E : XK), Room k (A.deeper (PyProof.Rows.envOfC qual (defScope st) s.heap.objs.size f cdv)) → ASs (cxOf CX0 P w K mg base N qual (defScope st) f cdv A outer s H E).nox (defBody st) wb)
    (hsp : ∀ xs L q, sp xs L q → wb L.length ⟨fun _ L' => Exit L.length q (.d .none) L', fun x L' => Exit L.length q x L', fun _ _ => False, fun _ _ => False⟩ (startA N xs) L) :
    FnOk P w K mg base CX0 (k + 1) f fd ps (upF P w K sp) := by
  refine F.ok S (fun vs H Q E h => ?_) (fun cdv A outer s H vs Q E hr h => ?_)
  · obtain ⟨xs, L, q, ρ, h1, h2, h3, h4⟩ := h
    rw [← Paired.length h3]
    exact len xs L q h1
  · obtain ⟨xs, L, q, ρ, h1, h2, h3, h4⟩ := h
    refine ⟨_, hbody cdv A outer s H E hr, startA N xs, L, L.length, _, ρ, hsp xs L q h1, Nat.le_of_eq h2.len.symm, h2, re_start h3, ⟨fun δ' L' ρ' σ' H' h' ev kn' re' => ?_, fun x L' ρ' v H' h' ev kn' ra' => ?_, fun _ _ _ _ _ h' => h'.elim, fun _ _ _ _ _ h' => h'.elim⟩⟩
    · obtain ⟨ρ2, y, L2, hq, kn2, ra2, ev2⟩ := Exit.go (x := .d .none) (v := .non) h' kn' rfl (ev.lens (Nat.le_of_eq h2.len.symm))
      exact h4 y L2 ρ2 _ H' hq (ev.trans ev2 (Nat.le_refl _)) kn2 ra2
    · obtain ⟨ρ2, y, L2, hq, kn2, ra2, ev2⟩ := Exit.go h' kn' ra' (ev.lens (Nat.le_of_eq h2.len.symm))
      exact h4 y L2 ρ2 v H' hq (ev.trans ev2 (Nat.le_refl _)) kn2 ra2
end

/-! ### calls of defs: the callee sees the lists that it is handed, by their turn -/
def refsOf : List AV → List Nat
  | [] => []
  | .ref k :: r => k :: refsOf r
  | .d _ :: r => refsOf r
  | .raw _ :: r => refsOf r
def unK (ks : List Nat) (N j : Nat) : Nat := match ks[j]? with
  | some k => k
  | none => N + (j - ks.length)
def unA (ks : List Nat) (N : Nat) : AV → AV
  | .d x => .d x
  | .raw v => .raw v
  | .ref j => .ref (unK ks N j)
def unO (ks : List Nat) (N : Nat) : AO → AO
  | .dl ds => .dl ds
  | .rl js => .rl (js.map (unK ks N))
  | .dd kvs => .dd kvs
  | .dr kvs => .dr (kvs.map fun p => (p.1, unK ks N p.2))
  | .dt kvs => .dt kvs
  | .st S n => .st S n
def putAll : List Nat → List AO → List AO → List AO
  | k :: ks, o :: os, L => putAll ks os (L.set k o)
  | _, _, L => L
def merge (ks : List Nat) (L L' : List AO) : List AO := putAll ks (L'.map (unO ks L.length)) L ++ (L'.drop ks.length).map (unO ks L.length)
def KsOk (ks : List Nat) (m : Nat) : Prop := ks.Nodup ∧ ∀ j ∈ ks, j < m
instance (ks : List Nat) (m : Nat) : Decidable (KsOk ks m) := by unfold KsOk; infer_instance
/-- what a call does, where the callee is handed the places ks -/
@[irreducible] def callK (ks : List Nat) (sp : ASp) (xs : List AV) (L : List AO) (Q : WK) : Prop := KsOk ks L.length ∧ ∃ xl Ll, allSome (xs.map (renA ks)) = some xl ∧ pick ks L = some Ll ∧ sp xl Ll fun y L' => Q (unA ks L.length y) (merge ks L L')
def wCall (sp : ASp) (wa : WA) : WE := fun δ L Q => wa δ L fun xs L1 => callK (refsOf xs) sp xs L1 Q
theorem putAll_len : ∀ (ks : List Nat) (os L : List AO), (putAll ks os L).length = L.length
  | [], os, L => by cases os <;> rfl
  | k :: ks, [], L => rfl
  | k :: ks, o :: os, L => by show (putAll ks os (L.set k o)).length = _; rw [putAll_len, List.length_set]
theorem putAll_out : ∀ (ks : List Nat) (os L : List AO) (j : Nat), j ∉ ks → (putAll ks os L)[j]? = L[j]?
  | [], os, L, j, _ => by cases os <;> rfl
  | k :: ks, [], L, j, _ => rfl
  | k :: ks, o :: os, L, j, h => by
    simp only [List.mem_cons, not_or] at h
    show (putAll ks os (L.set k o))[j]? = _
    rw [putAll_out ks os _ j h.2, List.getElem?_set_ne (Ne.symm h.1)]
theorem putAll_in : ∀ (ks : List Nat) (os L : List AO) (i j : Nat), ks.Nodup → (∀ j ∈ ks, j < L.length) → ks[i]? = some j → ks.length ≤ os.length → (putAll ks os L)[j]? = os[i]?
  | [], os, L, i, j, _, _, h, _ => by simp at h
  | k :: ks, [], L, i, j, _, _, _, h => by simp at h
  | k :: ks, o :: os, L, 0, j, nd, hb, h, hl => by
    simp at h
    subst h
    rw [List.nodup_cons] at nd
    show (putAll ks os (L.set k o))[k]? = _
    rw [putAll_out ks os _ k nd.1, List.getElem?_set_self (hb k (by simp))]
    rfl
  | k :: ks, o :: os, L, i + 1, j, nd, hb, h, hl => by
    rw [List.nodup_cons] at nd
    show (putAll ks os (L.set k o))[j]? = _
    rw [putAll_in ks os _ i j nd.2 (fun j hj => by rw [List.length_set]; exact hb j (by simp [hj])) (by simpa using h) (by simpa using hl)]
    rfl
section
variable {P : Program} {w : World} {K : PySem.W.Frag} {H H' : Hp} {ρ ρ' : List Addr} {L L' : List AO} {ks : List Nat}
theorem RA.un {N : Nat} {ρ2 : List Addr} (hp : ∀ (j : Nat) (a : Addr), ρ'[j]? = some a → ρ2[unK ks N j]? = some a) {x : AV} {v : V} (r : RA K H ρ' x v) : RA K H ρ2 (unA ks N x) v := by
  cases x with
  | d x => exact r
  | raw u => exact r
  | ref j => obtain ⟨a, h1, h2⟩ := r; exact ⟨a, hp j a h1, h2⟩
theorem RO.un {N : Nat} {ρ2 : List Addr} (hp : ∀ (j : Nat) (a : Addr), ρ'[j]? = some a → ρ2[unK ks N j]? = some a) {o : AO} {a : Addr} {u : HO} (r : RO P w K H ρ' a o u) : RO P w K H ρ2 a (unO ks N o) u := by
  cases o with
  | dl ds => exact r
  | dd ds => exact r
  | dt ds => exact r
  | st S m => exact r
  | rl js =>
    obtain ⟨as, rfl, h⟩ := r
    refine ⟨as, rfl, ?_⟩
    induction h with
    | nil => exact .nil
    | cons q _ ih => exact .cons (hp _ _ q) ih
  | dr js =>
    obtain ⟨as, rfl, h⟩ := r
    refine ⟨as, rfl, ?_⟩
    induction h with
    | nil => exact .nil
    | cons q _ ih =>
      obtain ⟨b, h1, h2⟩ := q.2
      exact .cons ⟨q.1, b, hp _ _ h1, h2⟩ ih
/-- behind a call -/
theorem Kn.merge (kn : Kn P w K H ρ L) (ok : KsOk ks L.length) (kn' : Kn P w K H' ρ' L') (ev : Ev ks.length (AB.sub ρ ks) H ρ' H') :
    ∃ ρ2, Kn P w K H' ρ2 (AB.merge ks L L') ∧ Ev ρ.length ρ H ρ2 H' ∧ ∀ x v, RA K H' ρ' x v → RA K H' ρ2 (unA ks L.length x) v := by
  obtain ⟨nd, hb⟩ := ok
  have hb' : ∀ j ∈ ks, j < ρ.length := by rw [kn.len]; exact hb
  have hsl : (AB.sub ρ ks).length = ks.length := by simp [AB.sub]
  have hl : ks.length ≤ ρ'.length := ev.lens (Nat.le_of_eq hsl.symm)
  have hfirst : ∀ i j, ks[i]? = some j → ∃ a, ρ[j]? = some a ∧ ρ'[i]? = some a := fun i j h => by
    obtain ⟨a, h1, h2⟩ := sub_get hb' h
    exact ⟨a, h1, ev.pre i a ((List.getElem?_eq_some_iff.mp h).1) h2⟩
  have hsubm : ∀ a, a ∈ AB.sub ρ ks → ∃ i j : Nat, ks[i]? = some j ∧ ρ[j]? = some a ∧ ρ'[i]? = some a := fun a ha => by
    obtain ⟨i, hi⟩ := List.getElem?_of_mem ha
    have hik : i < ks.length := by rw [← hsl]; exact (List.getElem?_eq_some_iff.mp hi).1
    obtain ⟨b, h1, h2⟩ := hfirst i ks[i] (List.getElem?_eq_getElem hik)
    obtain ⟨c, h3, h4⟩ := sub_get hb' (List.getElem?_eq_getElem hik : ks[i]? = some ks[i])
    rw [hi] at h4; cases h4
    rw [h3] at h1; cases h1
    exact ⟨i, ks[i], List.getElem?_eq_getElem hik, h3, h2⟩
  let ρ2 := ρ ++ ρ'.drop ks.length
  have hp : ∀ (j : Nat) (a : Addr), ρ'[j]? = some a → ρ2[unK ks L.length j]? = some a := fun j a h => by
    unfold unK
    cases hk : ks[j]? with
    | some m =>
      obtain ⟨b, h1, h2⟩ := hfirst j m hk
      rw [h] at h2; cases h2
      show (ρ ++ _)[m]? = _
      rw [List.getElem?_append_left (List.getElem?_eq_some_iff.mp h1).1]
      exact h1
    | none =>
      have hj : ks.length ≤ j := List.getElem?_eq_none_iff.mp hk
      show (ρ ++ _)[L.length + (j - ks.length)]? = _
      rw [List.getElem?_append_right (by rw [kn.len]; omega), kn.len, List.getElem?_drop]
      have : ks.length + (L.length + (j - ks.length) - L.length) = j := by omega
      rw [this]
      exact h
  have hmemH : ∀ a, a ∈ ρ → ∃ u, H a = some u := fun a ha => by
    obtain ⟨i, hi⟩ := List.getElem?_of_mem ha
    have hlt : i < L.length := by rw [← kn.len]; exact (List.getElem?_eq_some_iff.mp hi).1
    obtain ⟨b, u, q1, q2, _⟩ := kn.ats i L[i] (List.getElem?_eq_getElem hlt)
    rw [hi] at q1; cases q1
    exact ⟨u, q2⟩
  have hdisj : ∀ a, a ∈ ρ → a ∉ ρ'.drop ks.length := fun a ha hd => by
    have hm : a ∈ ρ' := List.mem_of_mem_drop hd
    obtain ⟨i, hi⟩ := List.getElem?_of_mem hd
    rw [List.getElem?_drop] at hi
    rcases ev.new a hm with z | z
    · obtain ⟨i', j', g1, g2, g3⟩ := hsubm a z
      have := nodup_at kn'.nd hi g3
      have := (List.getElem?_eq_some_iff.mp g1).1
      omega
    · obtain ⟨u, hu⟩ := hmemH a ha
      rw [hu] at z; cases z
  have him : Im H H' := by
    refine ⟨fun a xs h => ev.fr a _ h fun z => ?_, fun a o u h => ev.fr a _ h fun z => ?_⟩
    · obtain ⟨_, _, _, g2, _⟩ := hsubm a z
      exact kn.notIm h (.inl ⟨xs, rfl⟩) (List.mem_of_getElem? g2)
    · obtain ⟨_, _, _, g2, _⟩ := hsubm a z
      exact kn.notIm h (.inr ⟨o, u, rfl⟩) (List.mem_of_getElem? g2)
  have hpre : ∀ (j : Nat) (a : Addr), ρ[j]? = some a → ρ2[j]? = some a := fun j a h => by
    show (ρ ++ _)[j]? = _
    rw [List.getElem?_append_left (List.getElem?_eq_some_iff.mp h).1]; exact h
  have hL' : ks.length ≤ (L'.map (unO ks L.length)).length := by rw [List.length_map, ← kn'.len]; exact hl
  refine ⟨ρ2, ⟨?_, ?_, fun j o h => ?_⟩, ⟨fun j a _ h => hpre j a h, fun a ha => ?_, fun b o h hn => ev.fr b o h fun z => ?_⟩, fun x v r => RA.un hp r⟩
  · show (ρ ++ _).Nodup
    rw [List.nodup_append]
    exact ⟨kn.nd, List.Sublist.nodup (List.drop_sublist _ _) kn'.nd, fun a ha b hb e => hdisj a ha (e ▸ hb)⟩
  · show (ρ ++ _).length = _
    unfold AB.merge
    simp only [List.length_append, List.length_drop, List.length_map, putAll_len, kn.len, kn'.len]
  · unfold AB.merge at h
    by_cases hj : j < L.length
    · rw [List.getElem?_append_left (by rw [putAll_len]; exact hj)] at h
      by_cases hjk : j ∈ ks
      · obtain ⟨i, hi⟩ := List.getElem?_of_mem hjk
        rw [putAll_in ks _ L i j nd hb hi hL', List.getElem?_map] at h
        cases ho : L'[i]? with
        | none => rw [ho] at h; cases h
        | some o' =>
          rw [ho] at h
          cases h
          obtain ⟨a, u, q1, q2, q3⟩ := kn'.ats i o' ho
          obtain ⟨b, g1, g2⟩ := hfirst i j hi
          rw [q1] at g2; cases g2
          exact ⟨a, u, hpre j a g1, q2, q3.un hp⟩
      · rw [putAll_out ks _ L j hjk] at h
        obtain ⟨a, u, q1, q2, q3⟩ := kn.ats j o h
        refine ⟨a, u, hpre j a q1, ev.fr a u q2 fun z => ?_, q3.mono him hpre⟩
        obtain ⟨i', j', g1, g2, g3⟩ := hsubm a z
        have := nodup_at kn.nd q1 g2
        subst this
        exact hjk (List.mem_of_getElem? g1)
    · rw [List.getElem?_append_right (by rw [putAll_len]; omega), putAll_len, List.getElem?_map, List.getElem?_drop] at h
      cases ho : L'[ks.length + (j - L.length)]? with
      | none => rw [ho] at h; cases h
      | some o' =>
        rw [ho] at h
        cases h
        obtain ⟨a, u, q1, q2, q3⟩ := kn'.ats _ o' ho
        refine ⟨a, u, ?_, q2, q3.un hp⟩
        show (ρ ++ _)[j]? = _
        rw [List.getElem?_append_right (by rw [kn.len]; omega), kn.len, List.getElem?_drop]
        exact q1
  · rcases List.mem_append.mp ha with z | z
    · exact .inl z
    · rcases ev.new a (List.mem_of_mem_drop z) with y | y
      · obtain ⟨i', j', g1, g2, g3⟩ := hsubm a y
        exact .inl (List.mem_of_getElem? g2)
      · exact .inr y
  · obtain ⟨i', j', g1, g2, g3⟩ := hsubm b z
    exact hn (List.mem_of_getElem? g2)
theorem RAs.ren (hb : ∀ j ∈ ks, j < ρ.length) : ∀ {xs ys : List AV} {vs : List V}, allSome (xs.map (renA ks)) = some ys → Paired (RA K H ρ) xs vs → Paired (RA K H (sub ρ ks)) ys vs
  | [], ys, vs, h, r => by cases h; cases r; exact .nil
  | x :: xs, ys, vs, h, r => by
    cases r with
    | cons q t =>
      have e := allSome_get h
      cases ys with
      | nil => simp at e
      | cons y ys =>
        simp only [List.map_cons, List.cons.injEq] at e
        refine .cons (q.ren hb e.1) (RAs.ren hb (xs := xs) ?_ t)
        cases hx : allSome (xs.map (renA ks)) with
        | none =>
          rw [List.map_cons, e.1] at h
          unfold allSome at h
          rw [hx] at h
          cases h
        | some zs =>
          rw [List.map_cons, e.1] at h
          unfold allSome at h
          rw [hx] at h
          cases h
          rfl
theorem Kn.pick (kn : Kn P w K H ρ L) {Ll : List AO} (ok : KsOk ks L.length) (hp : AB.pick ks L = some Ll) : Kn P w K H (AB.sub ρ ks) Ll := (kn.sub (n := 0) ⟨ok.1, ok.2, by simp⟩ hp).1
theorem callK.go {sp : ASp} {xs : List AV} {vs : List V} {Q : WK} {q : VK} {E : XK} (h : callK ks sp xs L Q) (kn : Kn P w K H ρ L) (r : Paired (RA K H ρ) xs vs)
    (k : ∀ z L' ρ' z' H', Q z L' → Ev ρ.length ρ H ρ' H' → Kn P w K H' ρ' L' → RA K H' ρ' z z' → q z' H') : upF P w K sp vs H q E := by
  unfold callK at h
  obtain ⟨ok, xl, Ll, h1, h2, h3⟩ := h
  have hb' : ∀ j ∈ ks, j < ρ.length := by rw [kn.len]; exact ok.2
  have kl := kn.pick ok h2
  refine ⟨xl, Ll, _, sub ρ ks, h3, kl, RAs.ren hb' h1 r, fun y L' ρ' v H' hq ev kn' ra => ?_⟩
  have hlen : Ll.length = ks.length := by rw [← kl.len]; simp [sub]
  rw [hlen] at ev
  obtain ⟨ρ2, k2, e2, r2⟩ := kn.merge ok kn' ev
  exact k _ _ ρ2 v H' hq e2 k2 (r2 y v ra)
end
section
variable {X : Cx} {pos : Pos} {e : Expr}
theorem a_call {k : Nat} {f : Addr} {fd : FuncData} {ps : List Str} {sp : ASp} {x : Str} {p : Pos} {es : List Expr} {wa : WA} (F : FnOk X.prog X.w X.K X.mg X.base CX0 k f fd ps (upF X.prog X.w X.K sp)) (hr : Room k X.A) (hg : Gl X x) (hm : X.mg x = some (.ref f)) (hk : PySem.W.keepIn X.K (.ref f) = true)
    (hb : Binds X.K fd ps []) (ha : AA X (e :: es) wa) (hdb : (x == ("__debug__" : Str)) = false := by decide) (he : starEach (e :: es) X.env = (false, eval e X.env) :: starEach es X.env := by rfl) (hpl : (backTo pos (starEach es X.env)).any (·.1) = false := by rfl) :
    AE X (.Call (.Name x p) (e :: es) [] pos) (wCall sp wa) := by
  refine PE.of (pe_call (dvs := []) (E := E0) F hr hg hm hk hb .nil pass0 ha hdb he hpl) fun σ H q h => ?_
  obtain ⟨δ, L, Q, ρ, hw, kn, re, kk⟩ := h
  refine upA.run hw kn re fun xs L1 ρ1 vs H1 h1 e1 kn1 r1 re1 => ?_
  rw [List.append_nil]
  exact h1.go kn1 r1 fun z L' ρ' z' H' hq ev kn' rz => kk z L' ρ' z' H' hq (e1.trans ev (e1.lens (Nat.le_refl _))) kn' rz
end
end AB

set_option Elab.async false
set_option linter.all false
set_option maxRecDepth 100000
set_option autoImplicit false
namespace AB
open PySem L2 PyProof.Rows

/-! ### enumerate of a tuple -/
set_option maxHeartbeats 1000000 in
theorem meets_enumerate_newB1 {v : Value} {o : Obj} {H : Heap → Prop} (B : Begins v o H) :
    Meets (Builtin.«enumerate.__new__» ⟨[.type "enumerate", v], []⟩) (fun _ R s => H s.heap ∧
      R (.ok (.ret (.ref (s.heap.push o).objs.size))) { s with heap := (s.heap.push o).push { cls := .type "enumerate", data := .fields #[.none, .bool false, .ref s.heap.objs.size, rawInt 0, .none, .none] } }) :=
  .of_wp fun prog w A R s h => by
    obtain ⟨hp, g, d, tk, os⟩ := s; obtain ⟨h1, h⟩ := h
    have hsub := sub_enumerate
    have q1 : ∀ {A' : Around} {E : Value → Shared → Prop} {Q : Value → Shared → Prop}, Q (.ref hp.objs.size) ⟨hp.push o, g, d, tk, os⟩ → wpAny (model prog w) A' (pyIter v) Q E ⟨hp, g, d, tk, os⟩ :=
      fun q => B.iter prog w _ _ ⟨hp, g, d, tk, os⟩ _ h1 q
    wp_walk using q1
    refine wpAny_stack_any fun st => wpAny_pure ?_
    split
    · rename_i c _ _ _ _ _
      cases (c == Value.type "enumerate")
      · wp_walk using q1
        exact ⟨_, rfl, h⟩
      · wp_walk using q1
        exact ⟨_, rfl, h⟩
    · wp_walk using q1
      exact ⟨_, rfl, h⟩
theorem enum_begins1 {prog : Program} {w : World} {A : Around} {E : Value → Shared → Prop} {s : Shared} {v : Value} {o : Obj} {H : Heap → Prop} {Q : Value → Shared → Prop} (B : Begins v o H) (h1 : H s.heap)
    (h : ∀ h', IsEnum h' (s.heap.objs.size + 1) s.heap.objs.size 0 .none → h'.get? s.heap.objs.size = some o → h'.objs.size = s.heap.objs.size + 2 →
      (∀ b o, s.heap.get? b = some o → h'.get? b = some o) → Q (.ref (s.heap.objs.size + 1)) { s with heap := h' }) :
    wpAny (model prog w) A (call (.type "enumerate") [v]) Q E s := by
  refine callType_new F.called_enumerate (by decide) (F.typeCall_enumerate_1 _) (F.newCall_enumerate_1 _) (fun obj => F.args_object_init_2 obj _) F.entry_enumerate_new
    (meets_enumerate_newB1 B) ⟨h1, ?_⟩
  have hz : (s.heap.push o).objs.size = s.heap.objs.size + 1 := Heap.size_push ..
  show _ ∧ _
  rw [hz]
  have he : IsEnum ((s.heap.push o).push { cls := .type "enumerate", data := .fields #[.none, .bool false, .ref s.heap.objs.size, rawInt 0, .none, .none] }) (s.heap.objs.size + 1) s.heap.objs.size 0 .none := by
    have := Heap.get?_push_size (s.heap.push o) (o := { cls := .type "enumerate", data := .fields #[.none, .bool false, .ref s.heap.objs.size, rawInt 0, .none, .none] }) rfl
    rw [hz] at this; exact this
  refine ⟨⟨_, he, rfl⟩, h _ he (Heap.get?_push_of_some _ (Heap.get?_push_size _ B.free)) (by rw [Heap.size_push, hz]) fun b o x => Heap.get?_push_of_some _ (Heap.get?_push_of_some _ x)⟩
/-- the tuple at a, each item in a new pair -/
def IteT (K : PySem.W.Frag) (a : Addr) : It :=
  ⟨fun i H => ∃ (xs : List V) (x : V), SqT K H a xs ∧ xs[i]? = some x, fun i H v H' => ∃ T x, v = .ref T ∧ H T = none ∧ H' = upd H T (.tup [.int (i : Nat), x]) ∧ ∀ xs, SqT K H a xs → xs[i]? = some x, fun i H => ∃ xs : List V, SqT K H a xs ∧ xs.length ≤ i⟩
theorem turn_enumT {P : Program} {w : World} {K : PySem.W.Frag} {elts : List Expr} {kk : Nat} {tpos : Pos} (a e it : Addr) :
    Turn P w K (.Tuple elts kk tpos) (IteT K a) [e, it] e (fun i h => (∃ old, IsEnum h e it ((i : Nat) : Int) old) ∧ h.IsTupleIter it a i ∧ e ≠ it) where
  mem := by simp
  obj := fun i h st b hb => by
    obtain ⟨⟨old, he⟩, ⟨o, ho, hc, hd⟩, _⟩ := st
    have e' : b = e ∨ b = it := by simpa using hb
    rcases e' with z | z
    · rw [z]; exact ⟨_, he, fun v q => nomatch q⟩
    · rw [z]; exact ⟨o, ho, fun v q => by rw [hd] at q; cases q⟩
  keep := fun i h h' st k => let ⟨⟨old, he⟩, hi, hne⟩ := st; ⟨⟨old, k e (by simp) _ he⟩, hi.at fun o q => k it (by simp) o q, hne⟩
  item := by
    intro X hP hw hK hc i pins s σ H E I hf st hg
    subst hP hw hK
    obtain ⟨⟨old, he⟩, hit, hne⟩ := st
    obtain ⟨xs, x, hq, hx⟩ := hg
    obtain ⟨its, rv, p, hz⟩ := I.tuple hq
    obtain ⟨u, hu, ru⟩ := rv.get hx
    have hel : e < s.heap.objs.size := Heap.lt_size he
    have hil : it < s.heap.objs.size := by obtain ⟨_, q, _⟩ := hit; exact Heap.lt_size q
    have hae : a ≠ e := fun z => by
      obtain ⟨o, ho, hoc, _⟩ := p
      rw [z, he] at ho; cases ho; simp at hoc
    have hai : a ≠ it := fun z => by
      obtain ⟨o, ho, hoc, _⟩ := p
      obtain ⟨o', ho', hoc', _⟩ := hit
      rw [z, ho'] at ho; cases ho; rw [hoc] at hoc'; simp at hoc'
    have hlt : i < its.toArray.size := by
      have := (List.getElem?_eq_some_iff.mp hu).1
      simpa using this
    refine wpAny_pyNext_enum_itemC (Draws.tuple (A := X.A.in1) (I.ok.hd hc) it a hai its.toArray) he ⟨hit, p⟩ hlt hne (by simp [hne, hae.symm]) fun x' h' tk hx' ho hit' hT hsz hk => ?_
    have ex : x' = u := by
      have hx2 : its.toArray[i]? = some x' := hx'
      rw [List.getElem?_toArray, hu] at hx2
      exact (Option.some.inj hx2).symm
    subst ex
    refine ⟨_, rfl, wpAny_letOwnedTupleGo_enum (s := { s with heap := h', toks := tk + 1 }) ho fun h'' he' sb => ?_⟩
    have hT2 : h''.get? s.heap.objs.size = some { cls := .type "tuple", data := .seq #[.int i tk, x'] } := (sb.2 _ (Nat.ne_of_gt hel)).trans hT
    have new : ObjOk X.prog X.w (upd H s.heap.objs.size (.tup [.int (i : Nat), x])) h'' s.heap.objs.size (.tup [.int (i : Nat), x]) :=
      ⟨by show 2 ≤ sizeLine; decide, [.int i tk, x'], .cons ⟨_, rfl⟩ (.cons ru .nil), ⟨_, hT2, rfl, _, rfl⟩⟩
    have I1 : L2.Inv X pins σ (upd H s.heap.objs.size (.tup [.int (i : Nat), x])) { s with heap := h'', toks := tk + 1 } :=
      I.turnedNew (ch := [e, it]) (fun b ob hb q => (sb.2 b (fun z => hb (by simp [z]))).trans (hk b ob (fun z => hb (by simp [z])) (fun z => hb (by simp [z])) q)) hf (Nat.le_refl _) new
    refine ⟨.ref s.heap.objs.size, _, I1, rfl, ⟨_, x, rfl, I.hok.fresh (Nat.le_refl _), rfl, fun ys hy => by rw [I.tuple_inj hy hq]; exact hx⟩, ⟨⟨x', ?_⟩, hit'.1.at fun o q => (sb.2 it (Ne.symm hne)).trans q, hne⟩, fun b hb => ?_⟩
    · have e1 : ((i + 1 : Nat) : Int) = (i : Int) + 1 := by omega
      rw [e1]; exact he'
    · have hb' : b < s.heap.objs.size := by
        have e' : b = e ∨ b = it := by simpa using hb
        rcases e' with z | z
        · rw [z]; exact hel
        · rw [z]; exact hil
      rw [upd_ne (Nat.ne_of_lt hb')]
      exact (hf b hb).1
  done := by
    intro X hP hw hK hc i pins s σ H E I hf st hg
    subst hP hw hK
    obtain ⟨⟨old, he⟩, hit, hne⟩ := st
    obtain ⟨xs, hq, hx⟩ := hg
    obtain ⟨its, rv, p, hz⟩ := I.tuple hq
    obtain ⟨f0, f1, f2, f3, f4, f5⟩ := hf it (by simp)
    have hl := rv.length
    have hai : a ≠ it := fun z => by
      obtain ⟨o, ho, hoc, _⟩ := p
      obtain ⟨o', ho', hoc', _⟩ := hit
      rw [z, ho'] at ho; cases ho; rw [hoc] at hoc'; simp at hoc'
    have hend : its.toArray[i]? = none := by simp; omega
    unfold pyNext
    have hT : s.TypeIs (.ref e) "enumerate" := ⟨_, he, rfl⟩
    refine wpAny_bind (wpAny_attempt (wpAny_callSpecial?_slot (name := Str.ofString "__next__") hT F.slot_enumerate_next
      (wpAny_call_entry F.slot_enumerate_next hT F.entry_enumerate_next ?_ (F.args_enumerate_next_1 _))))
    show wpAny _ _ (field (.ref e) 2 >>= _) _ _ _
    refine wpAny_bind (wpAny_field he rfl (x := .ref it) rfl ?_)
    refine wpAny_bind (wpAny_nextOf_tuple_end (A := X.A.in1) (I.ok.hd hc) hit p hend fun h' x he' hx' => ?_)
    obtain ⟨o, ho, hc⟩ := hx'
    refine wpAny_bind (wpAny_isInstance (T := "StopIteration") (b := true) ⟨o, ho, hc⟩ isSubtype_stop ?_)
    exact wpAny_pure ⟨rfl, I.turned (t' := s.toks) (fun b o hb q => he' b o hb q) f0 f1 f3 f4 f5⟩
  self := fun A i s Q E st h => let ⟨⟨_, he⟩, _⟩ := st; wpAny_pyIter_enum he h
/-! ### a list or a tuple, walked, enumerated -/
section
variable {K : PySem.W.Frag} {X : Cx} {tg : Expr} {pos : Pos} {e a b : Expr}
def iSeq (K : PySem.W.Frag) (tl : TE) : TI := fun σ H R => tl σ H fun x H1 => ∃ a, x = .ref a ∧ (((∃ xs, SqL K H1 a xs) ∧ R (Itl K a) H1) ∨ ((∃ xs, SqT K H1 a xs) ∧ R (Itt K a) H1))
theorem pi_seq {l : Expr} {tl : TE} (hl : PE X l tl) : PI X tg l (iSeq X.K tl) := by
  refine ⟨fun pins s σ H R I h => ?_⟩
  refine thn (hl.run pins s σ H _ I h) fun v s1 ⟨x, H1, I1, r1, q1⟩ => ?_
  obtain ⟨a, e, q1⟩ := q1
  subst e
  cases r1
  rcases q1 with ⟨⟨xs, hq⟩, q⟩ | ⟨⟨xs, hq⟩, q⟩
  · obtain ⟨its, rv, p, hz⟩ := I1.list hq
    refine wpAny_pyIter_list p.isList ?_
    refine ⟨s1.heap.objs.size, [s1.heap.objs.size], _, _, H1, rfl, I1.kept (t' := s1.toks) fun b o e => Heap.get?_push_of_some _ e, turn_list a _, ⟨_, Heap.get?_push_size _ rfl, rfl, rfl⟩, fun b hb => ?_, q⟩
    have e : b = s1.heap.objs.size := by simpa using hb
    subst e
    exact I1.fpOk (Nat.le_refl _) (I1.hok.fresh (Nat.le_refl _))
  · obtain ⟨its, rv, p, hz⟩ := I1.tuple hq
    refine wpAny_pyIter_tuple (show s1.heap.IsTuple a its.toArray from p) ?_
    refine ⟨s1.heap.objs.size, [s1.heap.objs.size], _, _, H1, rfl, I1.kept (t' := s1.toks) fun b o e => Heap.get?_push_of_some _ e, turn_tuple a _, ⟨_, Heap.get?_push_size _ rfl, rfl, rfl⟩, fun b hb => ?_, q⟩
    have e : b = s1.heap.objs.size := by simpa using hb
    subst e
    exact I1.fpOk (Nat.le_refl _) (I1.hok.fresh (Nat.le_refl _))
def wISeq (wa : WE) : WI := fun δ L Q => wa δ L fun x L1 => match x with
  | .d (.tuple ds) => Q (ds.map AV.d) (fun _ => True) 0 L1
  | .d (.list ds) => Q (ds.map AV.d) (fun _ => True) 0 L1
  | .ref k => at0 L1 k fun o => match o with
    | .dl ds => Q (ds.map AV.d) (fun L => L[k]? = some (.dl ds)) (k + 1) L1
    | .rl ks => Q (ks.map AV.ref) (fun L => L[k]? = some (.rl ks)) (k + 1) L1
    | _ => False
  | _ => False
theorem ai_seq {wa : WE} (ha : AE X a wa) : AI X tg a (wISeq wa) := by
  refine PI.of (pi_seq ha) fun σ H q h => ?_
  obtain ⟨δ, L, Q, ρ, hw, kn, re, k⟩ := h
  refine upE.run hw kn re fun x L1 ρ1 u H1 h1 e1 kn1 r1 re1 => ?_
  split at h1
  · obtain ⟨a', vs, rfl, g1, g2⟩ := r1
    exact ⟨a', rfl, .inr ⟨⟨vs, SqT.of g1⟩, k _ _ _ L1 ρ1 H1 h1 e1 kn1 _ (tup_keep kn1 g1 g2)⟩⟩
  · obtain ⟨a', vs, rfl, g1, g2⟩ := r1
    exact ⟨a', rfl, .inl ⟨⟨vs, g1.sq⟩, k _ _ _ L1 ρ1 H1 h1 e1 kn1 _ (fz_keep kn1 g1 g2)⟩⟩
  · obtain ⟨o, ho, h3⟩ := at0.of h1
    obtain ⟨a', ha', rfl⟩ := r1
    have hi := (List.getElem?_eq_some_iff.mp ha').1
    split at h3
    · obtain ⟨b', vs, g1, g2, g3⟩ := kn1.dl ho
      rw [ha'] at g1; cases g1
      exact ⟨a', rfl, .inl ⟨⟨vs, SqL.of g2⟩, k _ _ _ L1 ρ1 H1 h3 e1 kn1 _ (seq_keep kn1 ha' hi)⟩⟩
    · obtain ⟨b', vs, g1, g2, g3⟩ := kn1.rl ho
      rw [ha'] at g1; cases g1
      exact ⟨a', rfl, .inl ⟨⟨_, SqL.of g2⟩, k _ _ _ L1 ρ1 H1 h3 e1 kn1 _ (ref_keep kn1 ha' hi)⟩⟩
    · exact h3.elim
  · exact h1.elim
def iEnumU (K : PySem.W.Frag) (ta : TA) : TI := fun σ H R => ta σ H fun vs H1 => ∃ a, vs = [.ref a] ∧ ((∃ xs, SqL K H1 a xs ∧ R (Ite K a) H1) ∨ (∃ xs, SqT K H1 a xs ∧ R (IteT K a) H1))
theorem pi_enumU {ta : TA} {p tpos : Pos} {elts : List Expr} {kk : Nat} (hg : Gl X "enumerate") (hm : X.mg "enumerate" = none) (ha : PA X [e] ta) (hs : starEach [e] X.env = [(false, eval e X.env)] := by rfl) :
    PI X (.Tuple elts kk tpos) (.Call (.Name "enumerate" p) [e] [] pos) (iEnumU X.K ta) := by
  refine ⟨fun pins s σ H R I h => ?_⟩
  refine Call_ (ld_blt I hg hm boot_enumerate (PyProof.Rows.callWith_type1 (thn (ha.run pos pins s σ H _ I h) fun us s1 ⟨vs, H1, I1, r1, q1⟩ => ?_) hs rfl))
  obtain ⟨a, ex, q1⟩ := q1
  subst ex
  cases r1 with
  | cons r rr =>
    cases rr
    cases r
    have fpok : ∀ b ∈ [s1.heap.objs.size + 1, s1.heap.objs.size], FpOk X pins H1 b := fun b hb => by
      have e' : b = s1.heap.objs.size + 1 ∨ b = s1.heap.objs.size := by simpa using hb
      have hle : s1.heap.objs.size ≤ b := by
        rcases e' with z | z
        · rw [z]; exact Nat.le_add_right _ _
        · rw [z]; exact Nat.le_refl _
      exact I1.fpOk hle (I1.hok.fresh hle)
    rcases q1 with ⟨xs, hq, q⟩ | ⟨xs, hq, q⟩
    · obtain ⟨its, rv, p', hz⟩ := I1.list hq
      refine call_enumerate_list p'.isList fun h' he hit hsz hk => wpAny_pyIter_enum he ?_
      have I2 : L2.Inv X pins σ H1 { s1 with heap := h' } := I1.kept (t' := s1.toks) hk
      exact ⟨s1.heap.objs.size + 1, [s1.heap.objs.size + 1, s1.heap.objs.size], _, _, H1, rfl, I2, turn_enum a (s1.heap.objs.size + 1) s1.heap.objs.size, ⟨⟨.none, he⟩, hit, Nat.succ_ne_self _⟩, fpok, q⟩
    · obtain ⟨its, rv, p', hz⟩ := I1.tuple hq
      refine enum_begins1 (begins_tuple a its.toArray) (show s1.heap.IsTuple a its.toArray from p') fun h' he hit hsz hk => wpAny_pyIter_enum he ?_
      have I2 : L2.Inv X pins σ H1 { s1 with heap := h' } := I1.kept (t' := s1.toks) hk
      exact ⟨s1.heap.objs.size + 1, [s1.heap.objs.size + 1, s1.heap.objs.size], _, _, H1, rfl, I2, turn_enumT a (s1.heap.objs.size + 1) s1.heap.objs.size, ⟨⟨.none, he⟩, ⟨_, hit, rfl, rfl⟩, Nat.succ_ne_self _⟩, fpok, q⟩
/-- the pairs that enumerate gives -/
def enumD (ds : List D) : List AV := ds.mapIdx fun i d => AV.d (.tuple [.int (i : Int), d])
theorem enumD_at {ds : List D} {i : Nat} {x : AV} (h : (enumD ds)[i]? = some x) : ∃ d, ds[i]? = some d ∧ x = .d (.tuple [.int (i : Int), d]) := by
  unfold enumD at h
  rw [List.getElem?_mapIdx] at h
  obtain ⟨d, h1, h2⟩ := Option.map_eq_some_iff.mp h
  exact ⟨d, h1, h2.symm⟩
theorem enumD_len (ds : List D) : (enumD ds).length = ds.length := by simp [enumD]
theorem pair_new {P : Program} {w : World} {H1 H2 : Hp} {ρ1 : List Addr} {L1 : List AO} {T : Addr} {i : Nat} {d : D} {v : V} (kn1 : Kn P w K H1 ρ1 L1) (hT : H1 T = none) (e : H2 = upd H1 T (.tup [.int (i : Int), v])) (r : R K H1 d v) :
    Ev ρ1.length ρ1 H1 ρ1 H2 ∧ Kn P w K H2 ρ1 L1 ∧ RA K H2 ρ1 (.d (.tuple [.int (i : Int), d])) (.ref T) := by
  subst e
  obtain ⟨kn', ev', r'⟩ := kn1.tup (ds := [.int (i : Int), d]) (vs := [.int (i : Int), v]) hT ⟨_, _, rfl, rfl, Rs.one r⟩
  exact ⟨ev', kn', r'⟩
theorem enumT_keep {P : Program} {w : World} {H : Hp} {ρ : List Addr} {L : List AO} {a : Addr} {vs : List V} {ds : List D} (kn : Kn P w K H ρ L) (ha : H a = some (.tup vs)) (hr : Rs K H ds vs) :
    WalkA P w K (IteT K a) (enumD ds) (fun _ => True) 0 ρ H := by
  refine ⟨⟨fun H => SqT K H a vs, fun i H v H' => ∃ T x, v = .ref T ∧ H T = none ∧ H' = upd H T (.tup [.int (i : Nat), x]) ∧ vs[i]? = some x, ⟨?_, ?_, ?_⟩, ?_, ?_⟩, Nat.zero_le _⟩
  · intro i H hi hq
    rw [enumD_len, ← hr.len] at hi
    exact ⟨vs, vs[i], hq, List.getElem?_eq_getElem hi⟩
  · intro H hq
    exact ⟨vs, hq, by rw [enumD_len, hr.len]; exact Nat.le_refl _⟩
  · rintro i H x H' hi hq ⟨T, y, h1, h2, h3, h4⟩
    exact ⟨T, y, h1, h2, h3, h4 vs hq⟩
  · intro ρ1 L1 H1 _ ev kn1
    exact SqT.of ((kn.im ev).1 a vs ha)
  · intro i ρ1 L1 H1 x v H2 hx _ ev kn1 hy
    obtain ⟨T, y, rfl, h2, h3, h4⟩ := hy
    obtain ⟨d, h5, rfl⟩ := enumD_at hx
    obtain ⟨d', h6, h7⟩ := (Rs.mono (kn.im ev) ds vs hr).get h4
    rw [h5] at h6; cases h6
    exact pair_new kn1 h2 h3 h7
theorem enumL_keep {P : Program} {w : World} {H : Hp} {ρ : List Addr} {L : List AO} {k : Nat} {a : Addr} {ds : List D} (kn : Kn P w K H ρ L) (ha : ρ[k]? = some a)
    (hk : k < ρ.length) : WalkA P w K (Ite K a) (enumD ds) (fun L => L[k]? = some (.dl ds)) (k + 1) ρ H := by
  refine ⟨⟨fun H => ∃ vs, SqL K H a vs ∧ Rs K H ds vs, fun i H v H' => ∃ T x, v = .ref T ∧ H T = none ∧ H' = upd H T (.tup [.int (i : Nat), x]) ∧ ∃ vs, Rs K H ds vs ∧ vs[i]? = some x, ⟨?_, ?_, ?_⟩, ?_, ?_⟩, hk⟩
  · rintro i H hi ⟨vs, h1, h2⟩
    rw [enumD_len, ← h2.len] at hi
    exact ⟨vs, vs[i], h1, List.getElem?_eq_getElem hi⟩
  · rintro H ⟨vs, h1, h2⟩
    exact ⟨vs, h1, by rw [enumD_len, h2.len]; exact Nat.le_refl _⟩
  · rintro i H x H' hi ⟨vs, h1, h2⟩ ⟨T, y, g1, g2, g3, g4⟩
    exact ⟨T, y, g1, g2, g3, vs, h2, g4 vs h1⟩
  · intro ρ1 L1 H1 hL ev kn1
    have h1 := ev.pre k a (Nat.lt_succ_self _) ha
    obtain ⟨a', ws, g1, g2, g3⟩ := kn1.dl hL
    rw [h1] at g1
    cases g1
    exact ⟨ws, SqL.of g2, g3⟩
  · intro i ρ1 L1 H1 x v H2 hx hL ev kn1 hy
    obtain ⟨T, y, rfl, h2, h3, vs, h4, h5⟩ := hy
    obtain ⟨d, h6, rfl⟩ := enumD_at hx
    obtain ⟨d', h7, h8⟩ := h4.get h5
    rw [h6] at h7; cases h7
    exact pair_new kn1 h2 h3 h8
def wIEnum (wa : WA) : WI := fun δ L Q => wa δ L fun xs L1 => arg1 xs fun x => match x with
  | .d (.tuple ds) => Q (enumD ds) (fun _ => True) 0 L1
  | .ref k => at0 L1 k fun o => match o with
    | .dl ds => Q (enumD ds) (fun L => L[k]? = some (.dl ds)) (k + 1) L1
    | _ => False
  | _ => False
theorem ai_enum {wa : WA} {p tpos : Pos} {elts : List Expr} {kk : Nat} (hg : Gl X "enumerate") (hm : X.mg "enumerate" = none) (ha : AA X [e] wa) (hs : starEach [e] X.env = [(false, eval e X.env)] := by rfl) :
    AI X (.Tuple elts kk tpos) (.Call (.Name "enumerate" p) [e] [] pos) (wIEnum wa) := by
  refine PI.of (pi_enumU hg hm ha hs) fun σ H q h => ?_
  obtain ⟨δ, L, Q, ρ, hw, kn, re, k⟩ := h
  refine upA.run hw kn re fun xs L1 ρ1 vs H1 h1 e1 kn1 r1 re1 => ?_
  obtain ⟨x, rfl, h2⟩ := arg1.of h1
  obtain ⟨v, rfl, rv⟩ := one_of r1
  clear h1 r1
  split at h2
  · obtain ⟨a', vs, rfl, g1, g2⟩ := rv
    exact ⟨a', rfl, .inr ⟨vs, SqT.of g1, k _ _ _ L1 ρ1 H1 h2 e1 kn1 _ (enumT_keep kn1 g1 g2)⟩⟩
  · obtain ⟨o, ho, h3⟩ := at0.of h2
    obtain ⟨a', ha', rfl⟩ := rv
    have hi := (List.getElem?_eq_some_iff.mp ha').1
    split at h3
    · obtain ⟨b', vs, g1, g2, g3⟩ := kn1.dl ho
      rw [ha'] at g1; cases g1
      exact ⟨a', rfl, .inl ⟨vs, SqL.of g2, k _ _ _ L1 ρ1 H1 h3 e1 kn1 _ (enumL_keep kn1 ha' hi)⟩⟩
    · exact h3.elim
  · exact h2.elim
end
end AB

set_option Elab.async false
set_option linter.all false
set_option maxRecDepth 100000
set_option autoImplicit false
namespace AB
open PySem L2
theorem room65 {k : Nat} {A : Around} (r : Room k A) : A.units + 65 < cLine := by have := r.un; omega
section
variable {X : Cx} {pos : Pos}
/-- a built-in class as a value -/
def wRaw (v : V) : WE := fun _ L Q => Q (.raw v) L
theorem a_ty {x : Str} {T : String} (hg : Gl X x) (hm : X.mg x = none) (hv : bootBuiltins x = some (.type T)) (hn : x ≠ "__name__" := by decide) (hd : (x == ("__debug__" : Str)) = false := by decide) : AE X (.Name x pos) (wRaw (.ty T)) := by
  refine PE.of (pe_bltn (v := .ty T) hg hm hv rfl hn hd) fun σ H q h => ?_
  obtain ⟨δ, L, Q, ρ, hw, kn, re, k⟩ := h
  exact k _ L ρ _ H hw Ev.refl kn rfl
/-- isinstance(x, T) -/
def isiB (a T : String) : Bool := a == T || (a == "bool" && T == "int")
def isiNames : List String := ["NoneType", "bool", "int", "str", "tuple", "list", "dict"]
def isiTypes : List String := ["bool", "int", "str", "tuple", "list", "dict"]
theorem isi_ok : ∀ a ∈ isiNames, ∀ T ∈ isiTypes, kitB a T = some (isiB a T) := by decide +kernel
def tyName (x : AV) (L : List AO) (k : String → Prop) : Prop := match x with
  | .d .none => k "NoneType"
  | .d (.bool _) => k "bool"
  | .d (.int _) => k "int"
  | .d (.str _) => k "str"
  | .d (.tuple _) => k "tuple"
  | .ref i => at0 L i fun o => match o with
    | .dl _ => k "list"
    | .rl _ => k "list"
    | .dd _ => k "dict"
    | .dr _ => k "dict"
    | _ => False
  | _ => False
def bIsi : List AV → List AO → WK → Prop := fun xs L Q => arg2 xs fun x c => match c with
  | .raw (.ty T) => T ∈ isiTypes ∧ tyName x L fun a => Q (.d (.bool (isiB a T))) L
  | _ => False
theorem tyName.of {P : Program} {w : World} {K : PySem.W.Frag} {L : List AO} {ρ : List Addr} {H : Hp} {x : AV} {v : V} {k : String → Prop} (h : tyName x L k) (kn : Kn P w K H ρ L) (r : RA K H ρ x v) : ∃ a, a ∈ isiNames ∧ TyX K H v (.type a) ∧ k a := by
  unfold tyName at h
  split at h
  · exact ⟨_, by decide, by rw [show v = .non from r]; exact .base .non, h⟩
  · exact ⟨_, by decide, by rw [show v = .bl _ from r]; exact .base (.bl _), h⟩
  · exact ⟨_, by decide, by rw [show v = .int _ from r]; exact .base (.int _), h⟩
  · exact ⟨_, by decide, by rw [show v = .str _ from r]; exact .base (.str _), h⟩
  · obtain ⟨a, vs, rfl, h1, h2⟩ := r
    exact ⟨_, by decide, .base (.tup h1), h⟩
  · obtain ⟨a, ha, rfl⟩ := r
    obtain ⟨o, ho, h⟩ := at0.of h
    obtain ⟨u, h1, h2⟩ := kn.at ho ha
    split at h
    · obtain ⟨vs, rfl, _⟩ := h2
      exact ⟨_, by decide, .base (.lst h1), h⟩
    · obtain ⟨vs, rfl, _⟩ := h2
      exact ⟨_, by decide, .base (.lst h1), h⟩
    · obtain ⟨vs, rfl, _⟩ := h2
      exact ⟨_, by decide, .base (.dK h1), h⟩
    · obtain ⟨vs, rfl, _⟩ := h2
      exact ⟨_, by decide, .base (.dK h1), h⟩
    · exact h.elim
  · exact h.elim
theorem cal_isi {P : Program} {w : World} {K : PySem.W.Frag} : Cal P w K (rIsi K) bIsi := by
  intro xs vs L Q ρ H q hb kn rx k
  obtain ⟨x, c, rfl, hb1⟩ := arg2.of hb
  obtain ⟨u, v, rfl, r1, r2⟩ := two_of rx
  split at hb1
  · rename_i T
    obtain ⟨hT, h2⟩ := hb1
    obtain ⟨a, ha, ht, hq⟩ := h2.of kn r1
    have e : v = .ty T := r2
    subst e
    exact ⟨u, .ty T, .type a, .type T, isiB a T, rfl, .ty T, ht, kit_ty (isi_ok a ha T hT), k _ L ρ _ H hq Ev.refl kn rfl⟩
  · exact hb1.elim
end
end AB

set_option Elab.async false
set_option linter.all false
set_option maxRecDepth 100000
set_option autoImplicit false
/-! AB11: going on by steps. -/
namespace AB
open PySem L2
/-- whole numbers alone -/
def DR (ds : List D) : Prop := ∀ d ∈ ds, ∃ i, d = .int i
theorem DR.nil : DR [] := fun _ h => by cases h
theorem DR.snoc {ds : List D} {i : Int} (h : DR ds) : DR (ds ++ [.int i]) := fun d hd => by
  rcases List.mem_append.mp hd with h1 | h1
  · exact h d h1
  · exact ⟨i, by simpa using h1⟩
theorem DR.app {ds es : List D} (h : DR ds) (k : DR es) : DR (ds ++ es) := fun d hd => by
  rcases List.mem_append.mp hd with h1 | h1
  · exact h d h1
  · exact k d h1
theorem DR.rev {ds : List D} (h : DR ds) : DR ds.reverse := fun d hd => h d (by simpa using hd)
theorem DR.dropLast {ds : List D} (h : DR ds) : DR ds.dropLast := fun d hd => h d (List.dropLast_subset _ hd)
theorem DR.take {ds : List D} (h : DR ds) (n : Nat) : DR (ds.take n) := fun d hd => h d (List.mem_of_mem_take hd)
theorem DR.drop {ds : List D} (h : DR ds) (n : Nat) : DR (ds.drop n) := fun d hd => h d (List.mem_of_mem_drop hd)
theorem DR.set {ds : List D} (h : DR ds) (n : Nat) (i : Int) : DR (ds.set n (.int i)) := fun d hd => by
  rcases List.mem_or_eq_of_mem_set hd with h1 | h1
  · exact h d h1
  · exact ⟨i, h1⟩
theorem DR.ints (ns : List Int) : DR (ns.map PyData.int) := fun d hd => by
  obtain ⟨i, _, rfl⟩ := List.mem_map.mp hd
  exact ⟨i, rfl⟩
theorem DR.of {ds : List D} (h : DR ds) : ∃ ns : List Int, ds = ns.map PyData.int := by
  induction ds with
  | nil => exact ⟨[], rfl⟩
  | cons d ds ih =>
    obtain ⟨i, rfl⟩ := h d (by simp)
    obtain ⟨ns, rfl⟩ := ih fun d hd => h d (by simp [hd])
    exact ⟨i :: ns, rfl⟩
theorem DR.at {ds : List D} (h : DR ds) {j : Nat} {d : D} (e : ds[j]? = some d) : ∃ i, d = .int i := h d (List.mem_of_getElem? e)
/-- items -/
theorem atI_nn {α : Type} {xs : List α} {i : Int} (h0 : 0 ≤ i) (h1 : i < (xs.length : Int)) : ∃ d, xs[i.toNat]? = some d ∧ atI xs i = some d := by
  have hi : i.toNat < xs.length := by omega
  refine ⟨xs[i.toNat], List.getElem?_eq_getElem hi, ?_⟩
  unfold atI ixN
  rw [if_pos h0, if_pos h1]
  exact List.getElem?_eq_getElem hi
theorem DR.atI {ds : List D} (h : DR ds) {i : Int} (h0 : 0 ≤ i) (h1 : i < (ds.length : Int)) : ∃ n : Int, ds[i.toNat]? = some (.int n) ∧ L2.atI ds i = some (.int n) := by
  obtain ⟨d, e1, e2⟩ := atI_nn h0 h1
  obtain ⟨n, rfl⟩ := h.at e1
  exact ⟨n, e1, e2⟩
theorem ixN_nn {n : Nat} {i : Int} (h0 : 0 ≤ i) (h1 : i < (n : Int)) : ixN n i = some i.toNat := by
  unfold ixN
  rw [if_pos h0, if_pos h1]
theorem last_some {α : Type} {ds : List α} (h : ds ≠ []) : ∃ d, ds.getLast? = some d ∧ d ∈ ds := by
  refine ⟨ds.getLast h, List.getLast?_eq_some_getLast h, List.getLast_mem h⟩
/-- a call: its reading, computed -/
theorem call_go {ks : List Nat} {sp : ASp} {xs : List AV} {L : List AO} {Q : WK} {xl : List AV} {Ll : List AO} (h3 : sp xl Ll fun y L' => Q (unA ks L.length y) (merge ks L L')) (ok : ksB ks L.length = true := by rfl) (h1 : allSome (xs.map (renA ks)) = some xl := by rfl) (h2 : pick ks L = some Ll := by rfl) : callK ks sp xs L Q := by
  unfold ksB at ok
  rw [Bool.and_eq_true] at ok
  unfold callK
  exact ⟨⟨nodupB_ok ok.1, allB_ok ok.2⟩, xl, Ll, h1, h2, h3⟩
theorem range_at {lo : Int} {n i : Nat} {x : AV} (h : (rangeA lo n)[i]? = some x) : i < n ∧ x = .d (.int (lo + (i : Int))) := by
  unfold rangeA at h
  rw [List.getElem?_map] at h
  obtain ⟨j, h1, h2⟩ := Option.map_eq_some_iff.mp h
  obtain ⟨h3, h4⟩ := List.getElem?_eq_some_iff.mp h1
  simp at h3 h4
  subst h4
  exact ⟨h3, h2.symm⟩
theorem rangeC_at {lo c : Int} {n i : Nat} {x : AV} (h : (rangeC lo c n)[i]? = some x) : i < n ∧ x = .d (.int (lo + (i : Int) * c)) := by
  unfold rangeC at h
  rw [List.getElem?_map] at h
  obtain ⟨j, h1, h2⟩ := Option.map_eq_some_iff.mp h
  obtain ⟨h3, h4⟩ := List.getElem?_eq_some_iff.mp h1
  simp at h3 h4
  subst h4
  exact ⟨h3, h2.symm⟩
@[simp] theorem range_len (lo : Int) (n : Nat) : (rangeA lo n).length = n := by simp [rangeA]
@[simp] theorem rangeC_len (lo c : Int) (n : Nat) : (rangeC lo c n).length = n := by simp [rangeC]
theorem d_at {ds : List D} {i : Nat} {x : AV} (h : (ds.map AV.d)[i]? = some x) : ∃ d, ds[i]? = some d ∧ x = .d d := by
  rw [List.getElem?_map] at h
  obtain ⟨d, h1, h2⟩ := Option.map_eq_some_iff.mp h
  exact ⟨d, h1, h2.symm⟩
theorem ref_at {ks : List Nat} {i : Nat} {x : AV} (h : (ks.map AV.ref)[i]? = some x) : ∃ k, ks[i]? = some k ∧ x = .ref k := by
  rw [List.getElem?_map] at h
  obtain ⟨d, h1, h2⟩ := Option.map_eq_some_iff.mp h
  exact ⟨d, h1, h2.symm⟩
/-- loops, comprehensions: by what is walked -/
theorem for_go {n m : Nat} {A : AEnds} {δ : Env1} {L1 : List AO} {t : Tg} {s : WS} {xs : List AV} {keep : List AO → Prop} (I : Nat → Env1 → List AO → Prop) (h0 : I 0 δ L1) (hk : ∀ i δ' L', i ≤ xs.length → I i δ' L' → keep L')
    (hs : ∀ i x δ' L', xs[i]? = some x → I i δ' L' → tgA t x δ' fun δ2 => s (max n m) { A with nx := Back (max n m) (I (i + 1)), ct := Back (max n m) (I (i + 1)), bk := A.nx } δ2 L') (he : ∀ δ' L', I xs.length δ' L' → A.nx δ' L') :
    ∃ I : Nat → Env1 → List AO → Prop, I 0 δ L1 ∧ (∀ i δ' L', i ≤ xs.length → I i δ' L' → keep L') ∧
      (∀ i x δ' L', xs[i]? = some x → I i δ' L' → tgA t x δ' fun δ2 => s (max n m) { A with nx := Back (max n m) (I (i + 1)), ct := Back (max n m) (I (i + 1)), bk := A.nx } δ2 L') ∧ (∀ δ' L', I xs.length δ' L' → A.nx δ' L') := ⟨I, h0, hk, hs, he⟩
theorem fits_small {a : Int} (h : -4000000000 ≤ a) (h' : a ≤ 4000000000) : Builtin.Range.rangeFitsLong a = true := by
  unfold Builtin.Range.rangeFitsLong
  simp
  omega
theorem rg_pos {b c : Int} (hb : 0 ≤ b) (hb' : b < 1000000000) (hc : 0 < c) (hc' : c < 1000000000) : ∃ n : Nat, RgC 0 b c n ∧ (n : Int) ≤ b ∧ ∀ i : Nat, i < n → (i : Int) * c < b := by
  have hd : (b - 1) / c * c ≤ b - 1 := Int.ediv_mul_le _ (by omega)
  by_cases h : 0 < b
  · have h0 : 0 ≤ (b - 1) / c := Int.ediv_nonneg (by omega) (by omega)
    have h1 : (b - 1) / c ≤ b - 1 := Int.ediv_le_self _ (by omega)
    have e : Builtin.Range.rangeSize 0 b c = (((b - 1) / c + 1).toNat : Int) := by
      unfold Builtin.Range.rangeSize
      rw [if_pos hc, if_pos h]
      simp only [Int.sub_zero]
      omega
    refine ⟨((b - 1) / c + 1).toNat, ⟨by omega, by omega, ?_, e⟩, ?_, ?_⟩
    · unfold Builtin.Range.small
      rw [e]
      simp
      rw [if_pos hc]
      exact ⟨⟨⟨⟨fits_small (by omega) (by omega), fits_small (by omega) (by omega)⟩, fits_small (by omega) (by omega)⟩, fits_small (by omega) (by omega)⟩, Or.inr (fits_small (by omega) (by omega))⟩
    · omega
    · intro i hi
      have : (i : Int) ≤ (b - 1) / c := by omega
      have := Int.mul_le_mul_of_nonneg_right this (show 0 ≤ c by omega)
      omega
  · have e : Builtin.Range.rangeSize 0 b c = 0 := by
      unfold Builtin.Range.rangeSize
      rw [if_pos hc, if_neg h]
    refine ⟨0, ⟨by omega, by omega, ?_, e⟩, by omega, fun i hi => by omega⟩
    unfold Builtin.Range.small
    rw [e]
    simp
    exact ⟨⟨⟨fits_small (by omega) (by omega), fits_small (by omega) (by omega)⟩, fits_small (by omega) (by omega)⟩, fits_small (by omega) (by omega)⟩
theorem cutD_perm (xs : List D) (lo hi : Option Int) : ∃ rest, List.Perm (cutD xs lo hi ++ rest) xs := by
  unfold cutD
  refine ⟨(xs.drop (HT.sIx xs.length 0 lo)).drop (HT.sIx xs.length xs.length hi - HT.sIx xs.length 0 lo) ++ xs.take (HT.sIx xs.length 0 lo), ?_⟩
  rw [← List.append_assoc, List.take_append_drop]
  refine List.perm_append_comm.trans ?_
  rw [List.take_append_drop]
theorem cutD_ne {xs : List D} {a b : Int} (h0 : 0 ≤ a) (h1 : a < (xs.length : Int)) (h2 : a < b) : cutD xs (some a) (some b) ≠ [] := by
  intro e
  have := congrArg List.length e
  unfold cutD at this
  rw [List.length_take, List.length_drop] at this
  simp only [HT.sIx, List.length_nil] at this
  rw [if_neg (by omega), if_neg (by omega)] at this
  omega
end AB

set_option Elab.async false
set_option linter.all false
set_option maxRecDepth 100000
set_option autoImplicit false
/-! AB12: comprehensions of lists. -/
namespace AB
open PySem L2
def FR (ρ : List Addr) (ks : List Nat) (us : List V) : Prop := Paired (fun k u => ∃ a, ρ[k]? = some a ∧ u = V.ref a) ks us
theorem FR.mono {ρ ρ' : List Addr} {H H' : Hp} (e : Ev ρ.length ρ H ρ' H') {ks : List Nat} {us : List V} (h : FR ρ ks us) : FR ρ' ks us :=
  Paired.mapP h fun k u ⟨a, h1, h2⟩ => ⟨a, e.pre k a (List.getElem?_eq_some_iff.mp h1).1 h1, h2⟩
theorem FR.refs {ρ : List Addr} {ks : List Nat} {us : List V} (h : FR ρ ks us) : ∃ as : List Addr, us = as.map V.ref ∧ Paired (fun k b => ρ[k]? = some b) ks as := by
  unfold FR at h
  induction h with
  | nil => exact ⟨[], rfl, .nil⟩
  | cons q _ ih =>
    obtain ⟨a, h1, rfl⟩ := q
    obtain ⟨as, rfl, h2⟩ := ih
    exact ⟨a :: as, rfl, .cons h1 h2⟩
def wLr (wi : WI) (t : Tg) (wt : WT) (we : WE) (vs : List Nat) : WE := fun δ L Q => wi δ L fun xs keep m L1 => xs.length ≤ 16777215 ∧ ∃ I : Nat → List Nat → List AO → Prop, I 0 [] L1 ∧ (∀ i acc L', i ≤ xs.length → I i acc L' → keep L') ∧
  (∀ i x acc L', xs[i]? = some x → acc.length ≤ i → I i acc L' → tgA t x (wipeA δ vs) fun δ2 => wt δ2 L' fun b L2 =>
    (b = true → we δ2 L2 fun y L3 => asRef y fun k => I (i + 1) (acc ++ [k]) L3) ∧ (b = false → I (i + 1) acc L2)) ∧
  (∀ acc L', acc.length ≤ xs.length → I xs.length acc L' → Q (.ref L'.length) (L' ++ [.rl acc]))
theorem up_lr {P : Program} {w : World} {K : PySem.W.Frag} {wi : WI} {t : Tg} {wt : WT} {we : WE} {vs : List Nat} (hv : ∀ j ∈ tgN t, j ∈ vs) {σ : St} {H : Hp} {q : VK} (h : upE P w K (wLr wi t wt we vs) σ H q) :
    tLc (upI P w K wi) (tgT K t) (upT P w K wt) (upE P w K we) vs σ H q := by
  obtain ⟨δ, L, Q, ρ, hw, kn, re, k⟩ := h
  refine upI.run hw kn re fun xs keep m L1 ρ1 H1 ⟨hz, I, i0, ik, is, ie⟩ e1 kn1 re1 J wk Dl hD => ?_
  obtain ⟨⟨G, Y, hW, hG, hY⟩, hm⟩ := wk
  have hl1 : L1.length = ρ1.length := kn1.len.symm
  have hDr : ∀ (ρ' : List Addr) (H' : Hp), Ev ρ1.length ρ1 H1 ρ' H' → True := fun _ _ _ => trivial
  -- a step on the rest of the heap
  have him : Im H1 (upd H1 Dl (.lst [])) := Im.upd hD
  have hDρ : Dl ∉ ρ1 := fun hm => by
    obtain ⟨j, hj⟩ := List.getElem?_of_mem hm
    have hlt : j < L1.length := by rw [← kn1.len]; exact (List.getElem?_eq_some_iff.mp hj).1
    obtain ⟨b, u, q1, q2, _⟩ := kn1.ats j L1[j] (List.getElem?_eq_getElem hlt)
    rw [hj] at q1; cases q1
    rw [hD] at q2; cases q2
  have knU : ∀ (H' : Hp) (ρ' : List Addr) (L' : List AO) (o : List V), Kn P w K H' ρ' L' → Dl ∉ ρ' → (∀ u, H' Dl = some u → ∃ xs, u = .lst xs) → Kn P w K (upd H' Dl (.lst o)) ρ' L' ∧ Im H' (upd H' Dl (.lst o)) := by
    intro H' ρ' L' o kn' hd ht
    have im' : Im H' (upd H' Dl (.lst o)) := by
      refine ⟨fun a xs h => ?_, fun a ob x h => ?_⟩
      · rw [upd_ne (fun (e : a = Dl) => by obtain ⟨ys, z⟩ := ht _ (by rw [← e]; exact h); cases z)]; exact h
      · rw [upd_ne (fun (e : a = Dl) => by obtain ⟨ys, z⟩ := ht _ (by rw [← e]; exact h); cases z)]; exact h
    refine ⟨⟨kn'.nd, kn'.len, fun j o' h => ?_⟩, im'⟩
    obtain ⟨a, u, q1, q2, q3⟩ := kn'.ats j o' h
    refine ⟨a, u, q1, ?_, q3.mono im' fun _ _ h => h⟩
    rw [upd_ne (fun (e : a = Dl) => hd (by rw [← e]; exact List.mem_of_getElem? q1))]
    exact q2
  have kn1' := (knU H1 ρ1 L1 [] kn1 hDρ (fun u h => by rw [hD] at h; cases h)).1
  -- the base: H1 with the new list
  refine lc_it hW (fun i H' => ∃ acc L' ρ' us, I i acc L' ∧ acc.length ≤ i ∧ Kn P w K H' ρ' L' ∧ H' Dl = some (.lst us) ∧ FR ρ' acc us ∧ Dl ∉ ρ' ∧ Ev ρ1.length ρ1 H1 ρ' H') ?_ ?_ ?_ ?_
  · refine ⟨[], L1, ρ1, [], i0, Nat.le_refl _, kn1', upd_same, .nil, hDρ, ⟨fun _ _ _ h => h, fun _ h => .inl h, fun b o h _ => by rw [upd_ne (ne_of_none h hD)]; exact h⟩⟩
  · rintro i H' hi ⟨acc, L', ρ', us, h1, h1', h2, h3, h4, h5, h6⟩
    exact hG ρ' L' H' (ik i acc L' hi h1) (h6.le hm) h2
  · rintro i v H' H2 hi ⟨acc, L', ρ', us, h1, h1', h2, h3, h4, h5, h6⟩ hy
    have hx : xs[i]? = some xs[i] := List.getElem?_eq_getElem hi
    obtain ⟨ev5, kn5, ra5⟩ := hY i ρ' L' H' _ v H2 hx (ik i acc L' (Nat.le_of_lt hi) h1) (h6.le hm) h2 hy
    have hl' : ρ1.length ≤ ρ'.length := h6.lens (Nat.le_refl _)
    have ev6 : Ev ρ1.length ρ1 H1 ρ' H2 := h6.trans (ev5.le hl') (Nat.le_refl _)
    have hD2 : H2 Dl = some (.lst us) := ev5.fr Dl _ h3 h5
    have re5 : RE K H2 ρ' (wipeA δ vs) (wipe σ vs) := RE.wipe (re1.mono kn1 ev6 (Nat.le_refl _)) vs
    have rs5 := h4
    refine tg_run (vs := vs) kn5 t _ v (wipeA δ vs) (wipe σ vs) _ _ (is i _ acc L' hx h1' h1) ra5 re5 fun δ2 σ2 hk hr hwp => ?_
    refine ⟨(hwp hv).trans (wipe_wipe σ vs), ?_⟩
    refine upT.run hk kn5 hr fun b L2 ρ2 H3 hb e3 kn3 re3 => ?_
    have hD3 : H3 Dl = some (.lst us) := e3.fr Dl _ hD2 h5
    have nD3 : Dl ∉ ρ2 := fun hm => by
      rcases e3.new Dl hm with z | z
      · exact h5 z
      · rw [hD2] at z; cases z
    have ev7 : Ev ρ1.length ρ1 H1 ρ2 H3 := ev6.trans (e3.le hl') (Nat.le_refl _)
    have rs3 := FR.mono e3 rs5
    cases b with
    | true =>
      refine upE.run (hb.1 rfl) kn3 re3 fun y L3 ρ3 u H4 hy2 e4 kn4 r4 re4 => ?_
      obtain ⟨d, rfl, hbk⟩ := asRef.of hy2
      have hl2 : ρ1.length ≤ ρ2.length := ev7.lens (Nat.le_refl _)
      have ev8 : Ev ρ1.length ρ1 H1 ρ3 H4 := ev7.trans (e4.le hl2) (Nat.le_refl _)
      have hD4 : H4 Dl = some (.lst us) := e4.fr Dl _ hD3 nD3
      have nD4 : Dl ∉ ρ3 := fun hm => by
        rcases e4.new Dl hm with z | z
        · exact nD3 z
        · rw [hD3] at z; cases z
      have rs4 := FR.mono e4 rs3
      obtain ⟨knF, imF⟩ := knU H4 ρ3 L3 (us ++ [u]) kn4 nD4 (fun u h => by rw [hD4] at h; cases h; exact ⟨_, rfl⟩)
      refine ⟨us, hD4, ?_, acc ++ [d], L3, ρ3, us ++ [u], hbk, by rw [List.length_append, List.length_singleton]; omega, knF, upd_same, Paired.snoc rs4 r4, nD4, ?_⟩
      · rw [← Paired.length rs4]
        exact Nat.lt_of_le_of_lt (by omega) line24
      · refine ⟨ev8.pre, ev8.new, fun b o hb hn => ?_⟩
        rw [upd_ne (fun (e : b = Dl) => by rw [e, hD] at hb; cases hb)]
        exact ev8.fr b o hb hn
    | false =>
      exact ⟨acc, L2, ρ2, us, hb.2 rfl, by omega, kn3, hD3, rs3, nD3, ev7⟩
  · rintro H' ⟨acc, L', ρ', us, h1, h1', h2, h3, h4, h5, h6⟩
    have knN : Kn P w K H' (ρ' ++ [Dl]) (L' ++ [.rl acc]) := by
      refine ⟨?_, by simp [h2.len], fun j o h => ?_⟩
      · rw [List.nodup_append]
        refine ⟨h2.nd, by simp, fun a ha b hb => ?_⟩
        simp at hb
        subst hb
        exact fun e => h5 (e ▸ ha)
      · have pre : ∀ (j : Nat) (a : Addr), ρ'[j]? = some a → (ρ' ++ [Dl])[j]? = some a := fun j a h => by
          rw [List.getElem?_append_left (List.getElem?_eq_some_iff.mp h).1]; exact h
        by_cases hj : j < L'.length
        · rw [List.getElem?_append_left hj] at h
          obtain ⟨a, u, q1, q2, q3⟩ := h2.ats j o h
          exact ⟨a, u, pre j a q1, q2, q3.mono ⟨fun _ _ h => h, fun _ _ _ h => h⟩ pre⟩
        · have hj' : j = L'.length := by
            have := (List.getElem?_eq_some_iff.mp h).1
            simp at this
            omega
          subst hj'
          simp at h
          subst h
          obtain ⟨as, e1, e2⟩ := FR.refs h4
          exact ⟨Dl, _, by rw [← h2.len]; simp, h3, as, by rw [e1], Paired.mapP e2 fun k b hk => pre k b hk⟩
    have hl' : ρ1.length ≤ ρ'.length := h6.lens (Nat.le_refl _)
    have evN : Ev ρ1.length ρ1 H1 (ρ' ++ [Dl]) H' := by
      refine ⟨fun j a hj h => ?_, fun a ha => ?_, h6.fr⟩
      · have := h6.pre j a hj h
        rw [List.getElem?_append_left (List.getElem?_eq_some_iff.mp this).1]; exact this
      · simp at ha
        rcases ha with ha | ha
        · exact h6.new a ha
        · subst ha; exact .inr hD
    exact k _ _ (ρ' ++ [Dl]) (.ref Dl) H' (ie acc L' h1' h1) (e1.trans evN (e1.lens (Nat.le_refl _))) knN ⟨Dl, by rw [← h2.len]; simp, rfl⟩
section
variable {X : Cx} {pos : Pos} {e a b : Expr}
theorem a_lr {elt tg iter : Expr} {ifs : List Expr} {scope : Scope} {wi : WI} {t : Tg} {wt : WT} {we : WE} (own : List (Str × Nat)) (hc : X.calm = true) (hN : X.N.Nodup) (hi : AI X tg iter wi) (ok : BlkOk X.N X.env.scope scope own)
    (hg : ∀ (s : Shared) (H : Hp) (C : Addr) (cl : List (Str × Addr)) (fp : List Addr), AG (X.blk s H scope (compEnvC scope cl C X.env) fp) tg t) (ht : ∀ (s : Shared) (H : Hp) (C : Addr) (cl : List (Str × Addr)) (fp : List Addr), PTs (X.blk s H scope (compEnvC scope cl C X.env) fp) ifs (upT X.prog X.w X.K wt))
    (he : ∀ (s : Shared) (H : Hp) (C : Addr) (cl : List (Str × Addr)) (fp : List Addr), AE (X.blk s H scope (compEnvC scope cl C X.env) fp) elt we) (hv : ∀ j ∈ tgN t, j ∈ own.map (·.2) := by decide) (hs : ∀ x, foldedSetIterable iter X.env x = pure x := by intro _; rfl) :
    AE X (.ListComp elt [⟨tg, iter, ifs, 0⟩] scope pos) (wLr wi t wt we (own.map (·.2))) := PE.of (pe_lc (te := upE X.prog X.w X.K we) (g := tgT X.K t) hc hN hi ok hg ht he hs) fun _ _ _ h => up_lr hv h
theorem as_setLr {y : Str} {py spos : Pos} {elt tg iter : Expr} {ifs : List Expr} {scope : Scope} {wi : WI} {t : Tg} {wt : WT} {we : WE} (i : Nat) (own : List (Str × Nat)) (hc : X.calm = true) (hN : X.N.Nodup) (hy : X.N[i]? = some y) (hyl : X.env.scope.names.lookup y = some .local)
    (hsw : swapsWith (.ListComp elt [⟨tg, iter, ifs, 0⟩] scope pos) (some (.Name y py)) spos.line X.env = pure true) (hi : AI X tg iter wi) (ok : BlkOk X.N X.env.scope scope own)
    (hg : ∀ (s : Shared) (H : Hp) (C : Addr) (cl : List (Str × Addr)) (fp : List Addr), AG (X.blk s H scope (compEnvC scope cl C X.env) fp) tg t) (ht : ∀ (s : Shared) (H : Hp) (C : Addr) (cl : List (Str × Addr)) (fp : List Addr), PTs (X.blk s H scope (compEnvC scope cl C X.env) fp) ifs (upT X.prog X.w X.K wt))
    (he : ∀ (s : Shared) (H : Hp) (C : Addr) (cl : List (Str × Addr)) (fp : List Addr), AE (X.blk s H scope (compEnvC scope cl C X.env) fp) elt we) (hv : ∀ j ∈ tgN t, j ∈ own.map (·.2) := by decide) (hs : ∀ x, foldedSetIterable iter X.env x = pure x := by intro _; rfl) :
    AS X (.Assign [.Name y py] (.ListComp elt [⟨tg, iter, ifs, 0⟩] scope pos) spos) (wSet i (wLr wi t wt we (own.map (·.2)))) := by
  refine PS.of (ps_setLc (te := upE X.prog X.w X.K we) (g := tgT X.K t) hc hN hy hyl hsw hi ok hg ht he hs) fun D σ H h => ?_
  have h2 := set_up h
  exact up_lr hv h2
end
end AB


set_option Elab.async false
set_option linter.all false
set_option maxRecDepth 100000
set_option maxHeartbeats 4000000
namespace T
open PySem L2 AB PyProof.Rows
local macro_rules | `(tactic| walk_at "w") => `(tactic| (conv => whnf))
local macro_rules | `(tactic| walk_at "s") => `(tactic| first | assumption | omega | (simp only [List.length_map, range_len, rangeC_len, Int.toNat_natCast]; omega) | rfl | decide | (show (0 : Int) < _; first | decide | omega) | (refine And.intro ?_ ?_ <;> first | decide | omega) | (refine And.intro ?_ (And.intro ?_ ?_) <;> first | decide | omega) | (rw [sizeLine_eq]; omega) | (rw [sizeLine_eq]; simp; done) | (rw [sizeLine_eq]; simp; omega) | (refine Or.inr ?_; decide) | (refine Or.inl ?_; decide) | (refine Or.inl (And.intro ?_ ?_) <;> omega) | (refine Or.inr (And.intro ?_ ?_) <;> omega))
local macro_rules | `(tactic| walk_at "g") => `(tactic| (walk_at "w"; repeat (refine And.intro (by walk_at "s") ?_; walk_at "w")))
local macro_rules | `(tactic| walk_at "l") => `(tactic| (intro xs L q h; (split at h <;> first | rfl | exact h.elim)))
local macro_rules | `(tactic| walk_at "c") => `(tactic| (walk_at "g"; refine call_go ?_; walk_at "g"))
local macro_rules | `(tactic| walk_at "b") => `(tactic| first | refine And.intro (fun (z : false = true) => by cases z) (fun (_ : false = false) => ?_) | refine And.intro (fun (_ : true = true) => ?_) (fun (z : true = false) => by cases z) | refine And.intro (fun (z : decide _ = true) => (fun _ => ?_) (of_decide_eq_true z)) (fun (z : decide _ = false) => (fun _ => ?_) (of_decide_eq_false z)) | refine And.intro (fun (_ : _ = true) => ?_) (fun (_ : _ = false) => ?_) | fail)
local macro_rules | `(tactic| walk_at "v") => `(tactic| (walk_at "g"; repeat' (walk_at "b" <;> walk_at "g")))

def topS (i : Nat) : Stmt := PySem.Challenge.pw_nochaingains_k04_buys_and_sells.main.body.getD i (.Pass ⟨0, 0, 0, 0⟩)
section
variable {P : Program} {w : World} {K : PySem.W.Frag} {mg : Str → Option Value} {base : Heap}
def sp_law_draws : ASp := fun xs L q => match xs, L with
  | [.d (.list ss), .d (.int m)], [] => DR ss ∧ ss.length ≤ 63 ∧ 0 ≤ m ∧ m ≤ 3000 ∧ ∀ ds, DR ds → q (.ref 0) [.dl ds]
  | _, _ => False
theorem len_law_draws : ∀ xs L q, sp_law_draws xs L q → xs.length = 2 := by
  unfold sp_law_draws
  walk_at "l"
def sp_law_take : ASp := fun xs L q => match xs, L with
  | [.ref 0, .d (.int m)], [.dl ds] => DR ds ∧ 0 < m ∧ ∀ r ds', DR ds' → 0 ≤ r → r < m → q (.d (.int r)) [.dl ds']
  | _, _ => False
theorem len_law_take : ∀ xs L q, sp_law_take xs L q → xs.length = 2 := by
  unfold sp_law_take
  walk_at "l"
abbrev st_law_take : Stmt := topS 5
theorem sc_law_take : FnScope ["draws", "many"] ["draws", "many"] (defScope st_law_take) := ⟨rfl, rfl, rfl, by decide +kernel, rfl, by decide +kernel, by decide +kernel⟩
theorem ok_law_take {f : Addr} {fd : FuncData} (F : Fun K "_law_take" "_law_take" st_law_take f fd) (z_len : mg "len" = none) (z_int : mg "int" = none) : FnOk P w K mg base CX0 1 f fd ["draws", "many"] (upF P w K sp_law_take) := by
  refine fn_ok F sc_law_take len_law_take (fun cdv A outer s H E hr => (as_cons (as_if (at_cmp (op_eqP hr.units) bin_eq (a_callB call_lenU cal_len (by rfl) z_len (by decide +kernel) (aa_cons (a_var 0) aa_nil)) a_int (nomark _)) (as_one (as_ret a_int)) as_nil)
    (as_one (as_ret (a_mod (a_callTy call_int1 cal_int (by rfl) z_int (by decide +kernel) (aa_cons (a_met0 PySem.F.plainAttrs_list PySem.F.slot_list_pop PySem.F.type_list_pop mt_pop met_pop (a_var 0)) aa_nil)) (a_var 1)))))) (fun xs L q h => ?_)
  unfold sp_law_take at h
  split at h
  · rename_i m ds
    obtain ⟨hd, hm, hq⟩ := h
    walk_at "g"
    refine ⟨fun hb => ?_, fun hb => ?_⟩
    · walk_at "w"
      exact Exit.mk [0] (hq 0 ds hd (by omega) hm)
    · walk_at "g"
      have hne : ds ≠ [] := fun e => by subst e; simp at hb
      obtain ⟨d, e1, e2⟩ := last_some hne
      obtain ⟨i, rfl⟩ := hd d e2
      refine ⟨_, e1, ?_⟩
      walk_at "g"
      exact Exit.mk [0] (hq _ _ hd.dropLast (Int.emod_nonneg _ (by omega)) (Int.emod_lt_of_pos _ hm))
  · exact h.elim
abbrev st_law_draws : Stmt := topS 4
theorem sc_law_draws : FnScope ["script", "many", "cells", "cell", "rest", "draws", "k", "at", "once"] ["script", "many"] (defScope st_law_draws) := ⟨rfl, rfl, rfl, by decide +kernel, rfl, by decide +kernel, by decide +kernel⟩
theorem ok_law_draws {f : Addr} {fd : FuncData} (F : Fun K "_law_draws" "_law_draws" st_law_draws f fd) (z_list : mg "list" = none) (z_range : mg "range" = none) (z_int : mg "int" = none) (z_len : mg "len" = none) : FnOk P w K mg base CX0 1 f fd ["script", "many"] (upF P w K sp_law_draws) := by
  refine fn_ok F sc_law_draws len_law_draws (fun cdv A outer s H E hr => (as_cons (as_setLc 2 [("cell", 3)] rfl sc_law_draws.nd rfl rfl (sw_true rfl rfl rfl (by decide +kernel)) (ai_seq (a_var 0)) (blkOk_by (own := [("cell", 3)]) (N := ["script", "many", "cells", "cell", "rest", "draws", "k", "at", "once"]) (sc := defScope st_law_draws) (by decide +kernel)) (fun _ _ _ _ _ => (ag_name 3 sc_law_draws.nd rfl (by first | exact Or.inl rfl | exact Or.inr rfl))) (fun _ _ _ _ _ => ats_nil) (fun _ _ _ _ _ => (a_callTy call_int1 cal_int (by rfl) z_int (by decide +kernel) (aa_cons (a_var 3) aa_nil))))
    (as_cut (as_if (at_cmp (op_eqP hr.units) bin_eq (a_callB call_lenU cal_len (by rfl) z_len (by decide +kernel) (aa_cons (a_var 2) aa_nil)) a_int (nomark _)) (as_one (as_expr (a_append (a_var 2) a_int))) as_nil)
    (as_cons (as_set 4 sc_law_draws.nd rfl (by first | exact Or.inl rfl | exact Or.inr rfl) (a_callTy call_list_of cal_list (by rfl) z_list (by decide +kernel) (aa_cons (a_var 2) aa_nil)))
    (as_cons (as_set 5 sc_law_draws.nd rfl (by first | exact Or.inl rfl | exact Or.inr rfl) (a_lst aa_nil))
    (as_cons (as_for PassesOwn.never rfl (ai_range1 (by rfl) z_range (aa_cons (a_var 1) aa_nil)) (ag_name 6 sc_law_draws.nd rfl (by first | exact Or.inl rfl | exact Or.inr rfl)) (as_cons (as_set 7 sc_law_draws.nd rfl (by first | exact Or.inl rfl | exact Or.inr rfl) (a_mod (a_var 6) (a_callB call_lenU cal_len (by rfl) z_len (by decide +kernel) (aa_cons (a_var 2) aa_nil))))
    (as_one (as_if (at_cmp op_ge bin_ge (a_ix (a_var 2) (a_var 7)) (a_pow a_int a_int) (nomark _)) (as_cons (as_expr (a_append (a_var 5) (a_mod (a_callTy call_int1 cal_int (by rfl) z_int (by decide +kernel) (aa_cons (a_ix (a_var 4) (a_var 7)) aa_nil)) a_int)))
    (as_one (as_setIx (a_fdiv (a_ix (a_var 4) (a_var 7)) a_int) (a_var 4) (a_var 7)))) (as_cons (as_set 8 sc_law_draws.nd rfl (by first | exact Or.inl rfl | exact Or.inr rfl) (a_mod (a_callTy call_int1 cal_int (by rfl) z_int (by decide +kernel) (aa_cons (a_add (a_add (a_mul (a_ix (a_var 2) (a_var 7)) a_int) (a_mul (a_var 6) a_int)) a_int) aa_nil)) a_int))
    (as_one (as_expr (a_append (a_var 5) (a_mod (a_callTy call_int1 cal_int (by rfl) z_int (by decide +kernel) (aa_cons (a_add (a_add (a_mul (a_var 8) (a_var 8)) (a_mul a_int (a_var 8))) (a_var 6)) aa_nil)) a_int)))))))))
    (as_cons (as_expr (a_met0 PySem.F.plainAttrs_list PySem.F.slot_list_reverse PySem.F.type_list_reverse mt_reverse met_rev (a_var 5)))
    (as_one (as_ret (a_var 5)))))))))) (fun xs L q h => ?_)
  unfold sp_law_draws at h
  split at h
  · rename_i ss m
    obtain ⟨hs, hl, hm0, hm, hq⟩ := h
    -- cells
    walk_at "w"
    refine ⟨by rw [List.length_map]; omega, fun i acc L' => L' = [] ∧ DR acc ∧ acc.length = i, ⟨rfl, DR.nil, rfl⟩, fun _ _ _ _ _ => trivial, ?_, ?_⟩
    · rintro i x acc L' hx - ⟨rfl, h1, h2⟩
      obtain ⟨d, hd, rfl⟩ := d_at hx
      obtain ⟨c, rfl⟩ := hs.at hd
      walk_at "w"
      refine ⟨fun _ => ?_, fun z => by cases z⟩
      walk_at "w"
      exact Back0.mk [] ⟨rfl, h1.snoc, by simp [h2]⟩
    · rintro cs L' - ⟨rfl, hc, hl2⟩
      rw [List.length_map] at hl2
      -- an empty script
      walk_at "w"
      refine ⟨fun δ' L' => ∃ cs, DR cs ∧ 0 < cs.length ∧ cs.length ≤ 64 ∧ δ' = [some (.d (.list ss)), some (.d (.int m)), some (.ref 0), none, none, none, none, none, none] ∧ L' = [.dl cs], ?_, ?_⟩
      · walk_at "w"
        refine ⟨fun hb => ?_, fun hb => ?_⟩
        · walk_at "g"
          exact Back.mk [0] ⟨cs ++ [.int 0], hc.snoc, by simp, by simp; omega, rfl, rfl⟩
        · walk_at "w"
          refine Back.mk [0] ⟨cs, hc, ?_, by omega, rfl, rfl⟩
          simp at hb
          cases cs with
          | nil => simp at hb
          | cons c cs => simp
      · rintro δ' L' ⟨cs, hc, hc0, hc1, rfl, rfl⟩
        walk_at "g"
        refine ⟨fun i δ L => ∃ rs ds y6 y7 y8, DR rs ∧ rs.length = cs.length ∧ DR ds ∧ ds.length = i ∧ δ = [some (.d (.list ss)), some (.d (.int m)), some (.ref 0), none, some (.ref 1), some (.ref 2), y6, y7, y8] ∧ L = [.dl cs, .dl rs, .dl ds],
          ⟨cs, [], _, _, _, hc, rfl, DR.nil, rfl, rfl, rfl⟩, fun _ _ _ _ _ => trivial, ?_, ?_⟩
        · rintro i x δ' L' hx ⟨rs, ds, y6, y7, y8, hr, hrl, hd, hdl, rfl, rfl⟩
          obtain ⟨hi, rfl⟩ := range_at hx
          have hpos : (0 : Int) < (cs.length : Int) := by omega
          have b0 := Int.emod_nonneg (0 + (i : Int)) (b := (cs.length : Int)) (by omega)
          have b1 := Int.emod_lt_of_pos (0 + (i : Int)) hpos
          obtain ⟨c, c1, c2⟩ := hc.atI b0 b1
          obtain ⟨r, r1, r2⟩ := hr.atI (i := (0 + (i : Int)) % (cs.length : Int)) b0 (by rw [hrl]; exact b1)
          walk_at "g"
          refine ⟨_, c2, ?_⟩
          walk_at "g"
          refine ⟨fun hb => ?_, fun hb => ?_⟩
          · walk_at "g"
            refine ⟨_, r2, ?_⟩
            walk_at "g"
            refine ⟨_, r2, ?_⟩
            walk_at "g"
            refine ⟨_, ixN_nn b0 (by rw [hrl]; exact b1), ?_⟩
            walk_at "w"
            exact Back.mk [0, 1, 2] ⟨_, _, _, _, _, hr.set _ _, by simp [hrl], hd.snoc, by simp [hdl], rfl, rfl⟩
          · walk_at "g"
            refine ⟨_, c2, ?_⟩
            have o0 : 0 ≤ (c * 48271 + (0 + (i : Int)) * 69621 + 11) % 2147483647 := Int.emod_nonneg _ (by decide)
            have o1 : (c * 48271 + (0 + (i : Int)) * 69621 + 11) % 2147483647 < 2147483647 := Int.emod_lt_of_pos _ (by decide)
            walk_at "g"
            exact Back.mk [0, 1, 2] ⟨_, _, _, _, _, hr, hrl, hd.snoc, by simp [hdl], rfl, rfl⟩
        · rintro δ' L' ⟨rs, ds, y6, y7, y8, hr, hrl, hd, hdl, rfl, rfl⟩
          walk_at "g"
          exact Exit.mk [2] (hq _ hd.rev)
  · exact h.elim
end
end T


set_option Elab.async false
set_option linter.all false
set_option maxRecDepth 100000
set_option maxHeartbeats 4000000
namespace T
open PySem L2 AB PyProof.Rows
local macro_rules | `(tactic| walk_at "w") => `(tactic| (conv => whnf))
local macro_rules | `(tactic| walk_at "s") => `(tactic| first | assumption | omega | (simp only [List.length_map, range_len, rangeC_len, Int.toNat_natCast]; omega) | rfl | decide | (show (0 : Int) < _; first | decide | omega) | (refine And.intro ?_ ?_ <;> first | decide | omega) | (refine And.intro ?_ (And.intro ?_ ?_) <;> first | decide | omega) | (rw [sizeLine_eq]; omega) | (rw [sizeLine_eq]; simp; done) | (rw [sizeLine_eq]; simp; omega) | (refine Or.inr ?_; decide) | (refine Or.inl ?_; decide) | (refine Or.inl (And.intro ?_ ?_) <;> omega) | (refine Or.inr (And.intro ?_ ?_) <;> omega))
local macro_rules | `(tactic| walk_at "g") => `(tactic| (walk_at "w"; repeat (refine And.intro (by walk_at "s") ?_; walk_at "w")))
local macro_rules | `(tactic| walk_at "l") => `(tactic| (intro xs L q h; (split at h <;> first | rfl | exact h.elim)))
local macro_rules | `(tactic| walk_at "c") => `(tactic| (walk_at "g"; refine call_go ?_; walk_at "g"))
local macro_rules | `(tactic| walk_at "b") => `(tactic| first | refine And.intro (fun (z : false = true) => by cases z) (fun (_ : false = false) => ?_) | refine And.intro (fun (_ : true = true) => ?_) (fun (z : true = false) => by cases z) | refine And.intro (fun (z : decide _ = true) => (fun _ => ?_) (of_decide_eq_true z)) (fun (z : decide _ = false) => (fun _ => ?_) (of_decide_eq_false z)) | refine And.intro (fun (_ : _ = true) => ?_) (fun (_ : _ = false) => ?_) | fail)
local macro_rules | `(tactic| walk_at "v") => `(tactic| (walk_at "g"; repeat' (walk_at "b" <;> walk_at "g")))

section
variable {P : Program} {w : World} {K : PySem.W.Frag} {mg : Str → Option Value} {base : Heap}
theorem str_app_len (a b : Str) : (a ++ b).length = a.length + b.length := by
  show (a.cps ++ b.cps).size = _
  exact Array.size_append
def sp_law_cell : ASp := fun xs L q => match xs, L with
  | [.d (.list ss), .ref 0], [.dl ds] => DR ss ∧ DR ds ∧ ss.length ≤ 63 ∧ ∀ r ds', DR ds' → q (.d (.int r)) [.dl ds']
  | _, _ => False
theorem len_law_cell : ∀ xs L q, sp_law_cell xs L q → xs.length = 2 := by
  unfold sp_law_cell
  walk_at "l"
abbrev st_law_cell : Stmt := topS 6
theorem sc_law_cell : FnScope ["script", "draws"] ["script", "draws"] (defScope st_law_cell) := ⟨rfl, rfl, rfl, by decide +kernel, rfl, by decide +kernel, by decide +kernel⟩
theorem ok_law_cell {f : Addr} {fd : FuncData} (F : Fun K "_law_cell" "_law_cell" st_law_cell f fd) {f_law_take : Addr} {fd_law_take : FuncData} (g_law_take : mg "_law_take" = some (.ref f_law_take)) (k_law_take : PySem.W.keepIn K (.ref f_law_take) = true) (b_law_take : Binds K fd_law_take ["draws", "many"] []) (G_law_take : FnOk P w K mg base CX0 1 f_law_take fd_law_take ["draws", "many"] (upF P w K sp_law_take)) (z_int : mg "int" = none) (z_len : mg "len" = none) : FnOk P w K mg base CX0 2 f fd ["script", "draws"] (upF P w K sp_law_cell) := by
  refine fn_ok F sc_law_cell len_law_cell (fun cdv A outer s H E hr => (as_cons (as_if (at_cmp (op_eqP hr.units) bin_eq (a_callB call_lenU cal_len (by rfl) z_len (by decide +kernel) (aa_cons (a_var 0) aa_nil)) a_int (nomark _)) (as_one (as_ret a_int)) as_nil)
    (as_one (as_ret (a_callTy call_int1 cal_int (by rfl) z_int (by decide +kernel) (aa_cons (a_ix (a_var 0) (a_call G_law_take (hr.mono (by decide)) (by rfl) g_law_take k_law_take b_law_take (aa_cons (a_var 1) (aa_cons (a_callB call_lenU cal_len (by rfl) z_len (by decide +kernel) (aa_cons (a_var 0) aa_nil)) aa_nil)))) aa_nil)))))) (fun xs L q h => ?_)
  unfold sp_law_cell at h
  split at h
  · rename_i ss ds
    obtain ⟨hs, hd, hl, hq⟩ := h
    walk_at "g"
    refine ⟨fun hb => ?_, fun hb => ?_⟩
    · walk_at "g"
      exact Exit.mk [0] (hq _ _ hd)
    · walk_at "g"
      refine call_go ?_
      simp at hb
      have : 0 < ss.length := List.length_pos_iff.mpr hb
      walk_at "g"
      intro r ds' hd' h0 h1
      obtain ⟨c, c1, c2⟩ := hs.atI h0 h1
      walk_at "g"
      refine ⟨_, c2, ?_⟩
      walk_at "g"
      exact Exit.mk [0] (hq _ _ hd')
  · exact h.elim
def sp_law_word : ASp := fun xs L q => match xs, L with
  | [.d (.int n)], [] => ∀ s : Str, s.length ≤ 60 → q (.d (.str s)) []
  | _, _ => False
theorem len_law_word : ∀ xs L q, sp_law_word xs L q → xs.length = 1 := by
  unfold sp_law_word
  walk_at "l"
abbrev st_law_word : Stmt := topS 7
theorem sc_law_word : FnScope ["number", "word", "k"] ["number"] (defScope st_law_word) := ⟨rfl, rfl, rfl, by decide +kernel, rfl, by decide +kernel, by decide +kernel⟩
theorem ok_law_word {f : Addr} {fd : FuncData} (F : Fun K "_law_word" "_law_word" st_law_word f fd) (z_range : mg "range" = none) (z_int : mg "int" = none) : FnOk P w K mg base CX0 1 f fd ["number"] (upF P w K sp_law_word) := by
  refine fn_ok F sc_law_word len_law_word (fun cdv A outer s H E hr => (as_cons (as_set 1 sc_law_word.nd rfl (by first | exact Or.inl rfl | exact Or.inr rfl) a_str)
    (as_cons (as_for PassesOwn.never rfl (ai_range1 (by rfl) z_range (aa_cons a_int aa_nil)) (ag_name 2 sc_law_word.nd rfl (by first | exact Or.inl rfl | exact Or.inr rfl)) (as_cons (as_if (at_cmp op_ltU bin_lt (a_var 0) a_int (nomark _)) (as_one as_break) as_nil)
    (as_cons (as_set 1 sc_law_word.nd rfl (by first | exact Or.inl rfl | exact Or.inr rfl) (a_add (a_ix a_str (a_mod (a_callTy call_int1 cal_int (by rfl) z_int (by decide +kernel) (aa_cons (a_sub (a_var 0) a_int) aa_nil)) a_int)) (a_var 1)))
    (as_one (as_set 0 sc_law_word.nd rfl (by first | exact Or.inl rfl | exact Or.inr rfl) (a_fdiv (a_sub (a_var 0) a_int) a_int))))))
    (as_one (as_ret (a_var 1)))))) (fun xs L q h => ?_)
  unfold sp_law_word at h
  split at h
  · rename_i n
    walk_at "g"
    refine ⟨fun i δ L => ∃ (n : Int) (s : Str) (y : Option AV), s.length ≤ i ∧ δ = [some (.d (.int n)), some (.d (.str s)), y] ∧ L = [], ⟨_, _, _, Nat.zero_le _, rfl, rfl⟩, fun _ _ _ _ _ => trivial, ?_, ?_⟩
    · rintro i x δ' L' hx ⟨n, s, y, hl, rfl, rfl⟩
      obtain ⟨hi, rfl⟩ := range_at hx
      walk_at "g"
      refine ⟨fun hb => ?_, fun hb => ?_⟩
      · walk_at "g"
        exact Exit.mk [] (h s (by omega))
      · walk_at "g"
        have b0 := Int.emod_nonneg (n - 1) (b := 26) (by decide)
        have b1 := Int.emod_lt_of_pos (n - 1) (b := 26) (by decide)
        obtain ⟨c, -, c2⟩ := atI_nn (xs := (Str.ofString "abcdefghijklmnopqrstuvwxyz").cps.toList) b0 b1
        refine ⟨c, by walk_at "s", c2, ?_⟩
        walk_at "w"
        refine ⟨?_, ?_⟩
        · rw [sizeLine_eq]
          show 1 + _ ≤ _
          omega
        walk_at "g"
        refine Back.mk [] ⟨_, _, _, ?_, rfl, rfl⟩
        rw [str_app_len]
        show 1 + _ ≤ _
        omega
    · rintro δ' L' ⟨n, s, y, hl, rfl, rfl⟩
      walk_at "g"
      exact Exit.mk [] (h s (by simp at hl; omega))
  · exact h.elim
def sp_law_some_word : ASp := fun xs L q => match xs, L with
  | [.ref 0], [.dl ds] => DR ds ∧ ∀ s ds', DR ds' → s.length ≤ 72 → q (.d (.str s)) [.dl ds']
  | _, _ => False
theorem len_law_some_word : ∀ xs L q, sp_law_some_word xs L q → xs.length = 1 := by
  unfold sp_law_some_word
  walk_at "l"
abbrev st_law_some_word : Stmt := topS 8
theorem sc_law_some_word : FnScope ["draws", "number", "great"] ["draws"] (defScope st_law_some_word) := ⟨rfl, rfl, rfl, by decide +kernel, rfl, by decide +kernel, by decide +kernel⟩
theorem ok_law_some_word {f : Addr} {fd : FuncData} (F : Fun K "_law_some_word" "_law_some_word" st_law_some_word f fd) {f_law_take : Addr} {fd_law_take : FuncData} (g_law_take : mg "_law_take" = some (.ref f_law_take)) (k_law_take : PySem.W.keepIn K (.ref f_law_take) = true) (b_law_take : Binds K fd_law_take ["draws", "many"] []) (G_law_take : FnOk P w K mg base CX0 1 f_law_take fd_law_take ["draws", "many"] (upF P w K sp_law_take)) {f_law_word : Addr} {fd_law_word : FuncData} (g_law_word : mg "_law_word" = some (.ref f_law_word)) (k_law_word : PySem.W.keepIn K (.ref f_law_word) = true) (b_law_word : Binds K fd_law_word ["number"] []) (G_law_word : FnOk P w K mg base CX0 1 f_law_word fd_law_word ["number"] (upF P w K sp_law_word)) (z_int : mg "int" = none) : FnOk P w K mg base CX0 2 f fd ["draws"] (upF P w K sp_law_some_word) := by
  refine fn_ok F sc_law_some_word len_law_some_word (fun cdv A outer s H E hr => (as_cons (as_set 1 sc_law_some_word.nd rfl (by first | exact Or.inl rfl | exact Or.inr rfl) (a_call G_law_take (hr.mono (by decide)) (by rfl) g_law_take k_law_take b_law_take (aa_cons (a_var 0) (aa_cons a_int aa_nil))))
    (as_cons (as_if (at_cmp op_ltU bin_lt (a_var 1) a_int (nomark _)) (as_one (as_ret (a_call G_law_word (hr.mono (by decide)) (by rfl) g_law_word k_law_word b_law_word (aa_cons (a_add (a_add a_int (a_mod (a_callTy call_int1 cal_int (by rfl) z_int (by decide +kernel) (aa_cons (a_var 1) aa_nil)) a_int)) (a_mul a_int (a_mod (a_callTy call_int1 cal_int (by rfl) z_int (by decide +kernel) (aa_cons (a_fdiv (a_var 1) a_int) aa_nil)) a_int))) aa_nil)))) as_nil)
    (as_cons (as_if (at_cmp op_ltU bin_lt (a_var 1) a_int (nomark _)) (as_one (as_ret (a_call G_law_word (hr.mono (by decide)) (by rfl) g_law_word k_law_word b_law_word (aa_cons (a_add a_int (a_call G_law_take (hr.mono (by decide)) (by rfl) g_law_take k_law_take b_law_take (aa_cons (a_var 0) (aa_cons a_int aa_nil)))) aa_nil)))) as_nil)
    (as_cons (as_if (at_cmp op_ltU bin_lt (a_var 1) a_int (nomark _)) (as_one (as_ret (a_add a_str (a_call G_law_word (hr.mono (by decide)) (by rfl) g_law_word k_law_word b_law_word (aa_cons (a_add a_int (a_call G_law_take (hr.mono (by decide)) (by rfl) g_law_take k_law_take b_law_take (aa_cons (a_var 0) (aa_cons a_int aa_nil)))) aa_nil))))) as_nil)
    (as_cons (as_set 2 sc_law_some_word.nd rfl (by first | exact Or.inl rfl | exact Or.inr rfl) (a_add (a_mul a_int (a_call G_law_take (hr.mono (by decide)) (by rfl) g_law_take k_law_take b_law_take (aa_cons (a_var 0) (aa_cons a_int aa_nil)))) (a_mul a_int (a_call G_law_take (hr.mono (by decide)) (by rfl) g_law_take k_law_take b_law_take (aa_cons (a_var 0) (aa_cons a_int aa_nil))))))
    (as_cons (as_if (at_cmp op_ge bin_ge (a_var 1) a_int (nomark _)) (as_one (as_set 2 sc_law_some_word.nd rfl (by first | exact Or.inl rfl | exact Or.inr rfl) (a_mul (a_var 2) (a_pow a_int a_int)))) as_nil)
    (as_one (as_ret (a_call G_law_word (hr.mono (by decide)) (by rfl) g_law_word k_law_word b_law_word (aa_cons (a_add (a_add a_int (a_var 2)) (a_call G_law_take (hr.mono (by decide)) (by rfl) g_law_take k_law_take b_law_take (aa_cons (a_var 0) (aa_cons a_int aa_nil)))) aa_nil))))))))))) (fun xs L q h => ?_)
  unfold sp_law_some_word at h
  split at h
  · rename_i ds
    obtain ⟨hd, hq⟩ := h
    walk_at "g"
    refine call_go ?_
    walk_at "g"
    intro r ds' hd' h0 h1
    walk_at "g"
    refine ⟨fun hb => ?_, fun hb => ?_⟩
    · walk_at "g"
      refine call_go ?_
      walk_at "g"
      intro s hs
      walk_at "g"
      exact Exit.mk [0] (hq s _ hd' (by omega))
    · walk_at "g"
      refine ⟨fun hb => ?_, fun hb => ?_⟩
      · walk_at "g"
        refine call_go ?_
        walk_at "g"
        intro r ds' hd' h0 h1
        walk_at "g"
        refine call_go ?_
        walk_at "g"
        intro s hs
        walk_at "g"
        exact Exit.mk [0] (hq s _ hd' (by omega))
      · walk_at "g"
        refine ⟨fun hb => ?_, fun hb => ?_⟩
        · walk_at "g"
          refine call_go ?_
          walk_at "g"
          intro r ds' hd' h0 h1
          walk_at "g"
          refine call_go ?_
          walk_at "g"
          intro s hs
          walk_at "w"
          refine ⟨?_, ?_⟩
          · rw [sizeLine_eq]
            show 12 + _ ≤ _
            omega
          walk_at "g"
          refine Exit.mk [0] (hq (Str.ofString "abcdefghijkl" ++ s) _ hd' ?_)
          rw [str_app_len]
          show 12 + _ ≤ _
          omega
        · walk_at "g"
          refine call_go ?_
          walk_at "g"
          intro r1 ds1 hd1 h10 h11
          walk_at "g"
          refine call_go ?_
          walk_at "g"
          intro r2 ds2 hd2 h20 h21
          walk_at "g"
          refine ⟨fun hb => ?_, fun hb => ?_⟩
          all_goals
            walk_at "c"
            intro r3 ds3 hd3 h30 h31
            walk_at "c"
            intro s hs
            walk_at "g"
            exact Exit.mk [0] (hq s _ hd3 (by omega))
  · exact h.elim
/-- texts of a bounded size -/
def DS (n : Nat) (ds : List D) : Prop := ∀ d ∈ ds, ∃ s : Str, d = .str s ∧ s.length ≤ n
theorem DS.snoc {n : Nat} {ds : List D} {s : Str} (h : DS n ds) (k : s.length ≤ n) : DS n (ds ++ [.str s]) := fun d hd => by
  rcases List.mem_append.mp hd with h1 | h1
  · exact h d h1
  · exact ⟨s, by simpa using h1, k⟩
theorem DS.atI {n : Nat} {ds : List D} (h : DS n ds) {i : Int} (h0 : 0 ≤ i) (h1 : i < (ds.length : Int)) : ∃ s : Str, L2.atI ds i = some (.str s) ∧ s.length ≤ n := by
  obtain ⟨d, e1, e2⟩ := atI_nn h0 h1
  obtain ⟨s, rfl, hs⟩ := h d (List.mem_of_getElem? e1)
  exact ⟨s, e2, hs⟩
theorem plainAll_of {ds : List D} (h : ∀ d ∈ ds, d.plain = true) : PyData.plainAll ds = true := by
  induction ds with
  | nil => rfl
  | cons d ds ih =>
    show (d.plain && PyData.plainAll ds) = true
    rw [h d (by simp), ih fun d hd => h d (by simp [hd])]
    rfl
theorem DS.inOk {n : Nat} {ds : List D} (h : DS n ds) (s : Str) : InOk (.str s) ds := by
  refine ⟨rfl, plainAll_of fun d hd => ?_, Or.inr (by first | exact Nat.zero_le _ | simp [PyData.depth])⟩
  obtain ⟨s, rfl, -⟩ := h d hd
  rfl
def sp_law_names : ASp := fun xs L q => match xs, L with
  | [.ref 0, .d (.int m)], [.dl ds] => DR ds ∧ 0 ≤ m ∧ m ≤ 3000 ∧ ∀ ds' ns, DR ds' → DS 3100 ns → (ns.length : Int) = m → q (.ref 1) [.dl ds', .dl ns]
  | _, _ => False
theorem len_law_names : ∀ xs L q, sp_law_names xs L q → xs.length = 2 := by
  unfold sp_law_names
  walk_at "l"
abbrev st_law_names : Stmt := topS 9
theorem sc_law_names : FnScope ["draws", "many", "known", "names", "k", "name", "j"] ["draws", "many"] (defScope st_law_names) := ⟨rfl, rfl, rfl, by decide +kernel, rfl, by decide +kernel, by decide +kernel⟩
theorem ok_law_names {f : Addr} {fd : FuncData} (F : Fun K "_law_names" "_law_names" st_law_names f fd) {f_law_some_word : Addr} {fd_law_some_word : FuncData} (g_law_some_word : mg "_law_some_word" = some (.ref f_law_some_word)) (k_law_some_word : PySem.W.keepIn K (.ref f_law_some_word) = true) (b_law_some_word : Binds K fd_law_some_word ["draws"] []) (G_law_some_word : FnOk P w K mg base CX0 2 f_law_some_word fd_law_some_word ["draws"] (upF P w K sp_law_some_word)) {f_law_take : Addr} {fd_law_take : FuncData} (g_law_take : mg "_law_take" = some (.ref f_law_take)) (k_law_take : PySem.W.keepIn K (.ref f_law_take) = true) (b_law_take : Binds K fd_law_take ["draws", "many"] []) (G_law_take : FnOk P w K mg base CX0 1 f_law_take fd_law_take ["draws", "many"] (upF P w K sp_law_take)) (z_range : mg "range" = none) : FnOk P w K mg base CX0 3 f fd ["draws", "many"] (upF P w K sp_law_names) := by
  refine fn_ok F sc_law_names len_law_names (fun cdv A outer s H E hr => (as_cons (as_set 2 sc_law_names.nd rfl (by first | exact Or.inl rfl | exact Or.inr rfl) (a_lst (aa_cons a_str (aa_cons a_str (aa_cons a_str (aa_cons a_str (aa_cons a_str (aa_cons a_str (aa_cons a_str (aa_cons a_str aa_nil))))))))))
    (as_cons (as_set 3 sc_law_names.nd rfl (by first | exact Or.inl rfl | exact Or.inr rfl) (a_lst aa_nil))
    (as_cons (as_for PassesOwn.never rfl (ai_range1 (by rfl) z_range (aa_cons (a_var 1) aa_nil)) (ag_name 4 sc_law_names.nd rfl (by first | exact Or.inl rfl | exact Or.inr rfl)) (as_cons (as_set 5 sc_law_names.nd rfl (by first | exact Or.inl rfl | exact Or.inr rfl) (a_call G_law_some_word (hr.mono (by decide)) (by rfl) g_law_some_word k_law_some_word b_law_some_word (aa_cons (a_var 0) aa_nil)))
    (as_cut (as_if (at_cmp (op_eqP hr.units) bin_eq (a_call G_law_take (hr.mono (by decide)) (by rfl) g_law_take k_law_take b_law_take (aa_cons (a_var 0) (aa_cons a_int aa_nil))) a_int (nomark _)) (as_one (as_set 5 sc_law_names.nd rfl (by first | exact Or.inl rfl | exact Or.inr rfl) (a_ix (a_var 2) (a_call G_law_take (hr.mono (by decide)) (by rfl) g_law_take k_law_take b_law_take (aa_cons (a_var 0) (aa_cons a_int aa_nil)))))) as_nil)
    (as_cons (as_for PassesOwn.never rfl (ai_range1 (by rfl) z_range (aa_cons (a_var 1) aa_nil)) (ag_name 6 sc_law_names.nd rfl (by first | exact Or.inl rfl | exact Or.inr rfl)) (as_one (as_if (at_cmp (op_inP (room65 hr)) bin_in (a_var 5) (a_var 3) (by rfl)) (as_one (as_set 5 sc_law_names.nd rfl (by first | exact Or.inl rfl | exact Or.inr rfl) (a_add (a_var 5) (a_ix a_str (a_call G_law_take (hr.mono (by decide)) (by rfl) g_law_take k_law_take b_law_take (aa_cons (a_var 0) (aa_cons a_int aa_nil))))))) as_nil)))
    (as_one (as_expr (a_append (a_var 3) (a_var 5))))))))
    (as_one (as_ret (a_var 3))))))) (fun xs L q h => ?_)
  unfold sp_law_names at h
  split at h
  · rename_i m ds
    obtain ⟨hd, hm0, hm, hq⟩ := h
    walk_at "g"
    refine ⟨fun i δ L => ∃ ds kn ns y4 y5 y6, DR ds ∧ DS 20 kn ∧ kn.length = 8 ∧ DS 3100 ns ∧ ns.length = i ∧ δ = [some (.ref 0), some (.d (.int m)), some (.ref 1), some (.ref 2), y4, y5, y6] ∧ L = [.dl ds, .dl kn, .dl ns],
      ⟨ds, _, [], none, none, none, hd, ?_, rfl, fun _ h => by (cases h), rfl, rfl, rfl⟩, fun _ _ _ _ _ => trivial, ?_, ?_⟩
    · intro d hd
      simp only [List.mem_cons, List.not_mem_nil, or_false] at hd
      rcases hd with rfl | rfl | rfl | rfl | rfl | rfl | rfl | rfl <;> exact ⟨_, rfl, by decide⟩
    · rintro i x δ' L' hx ⟨ds, kn, ns, y4, y5, y6, hd, hk, hkl, hn, hl, rfl, rfl⟩
      obtain ⟨hi, rfl⟩ := range_at hx
      walk_at "c"
      intro s ds' hd' hs
      walk_at "g"
      refine ⟨fun δ' L' => ∃ ds s y6, DR ds ∧ s.length ≤ 72 ∧ δ' = [some (.ref 0), some (.d (.int m)), some (.ref 1), some (.ref 2), some (.d (.int (0 + (i : Int)))), some (.d (.str s)), y6] ∧ L' = [.dl ds, .dl kn, .dl ns], ?_, ?_⟩
      · walk_at "c"
        intro r ds' hd' h0 h1
        walk_at "g"
        refine ⟨fun hb => ?_, fun hb => ?_⟩
        · walk_at "c"
          intro r ds' hd' h0 h1
          walk_at "g"
          obtain ⟨s, hs1, hs2⟩ := hk.atI h0 (by rw [hkl]; exact h1)
          refine ⟨_, hs1, ?_⟩
          walk_at "g"
          exact Back.mk [0, 1, 2] ⟨_, s, _, hd', by omega, rfl, rfl⟩
        · walk_at "w"
          exact Back.mk [0, 1, 2] ⟨_, s, _, hd', hs, rfl, rfl⟩
      · rintro δ' L' ⟨ds, s, y6, hd, hs, rfl, rfl⟩
        walk_at "g"
        refine ⟨fun j δ L => ∃ ds s y6, DR ds ∧ s.length ≤ 72 + j ∧ δ = [some (.ref 0), some (.d (.int m)), some (.ref 1), some (.ref 2), some (.d (.int (0 + (i : Int)))), some (.d (.str s)), y6] ∧ L = [.dl ds, .dl kn, .dl ns],
          ⟨_, s, _, hd, hs, rfl, rfl⟩, fun _ _ _ _ _ => trivial, ?_, ?_⟩
        · rintro j x δ' L' hx ⟨ds, s, y6, hd, hs, rfl, rfl⟩
          obtain ⟨hj, rfl⟩ := range_at hx
          walk_at "w"
          refine ⟨hn.inOk s, ?_⟩
          walk_at "g"
          refine ⟨fun hb => ?_, fun hb => ?_⟩
          · walk_at "c"
            intro r ds' hd' h0 h1
            obtain ⟨c, -, c2⟩ := atI_nn (xs := (Str.ofString "abc").cps.toList) h0 h1
            walk_at "g"
            refine ⟨c, by walk_at "s", c2, ?_⟩
            walk_at "w"
            refine ⟨?_, ?_⟩
            · rw [sizeLine_eq]
              show _ + 1 ≤ _
              omega
            walk_at "g"
            refine Back.mk [0, 1, 2] ⟨_, _, _, hd', ?_, rfl, rfl⟩
            rw [str_app_len]
            show _ + 1 ≤ _
            omega
          · walk_at "g"
            exact Back.mk [0, 1, 2] ⟨_, s, _, hd, by omega, rfl, rfl⟩
        · rintro δ' L' ⟨ds, s, y6, hd, hs, rfl, rfl⟩
          simp at hs
          walk_at "g"
          exact Back.mk [0, 1, 2] ⟨_, _, _, _, _, _, hd, hk, hkl, hn.snoc (s := s) (by omega), by simp [hl], rfl, rfl⟩
    · rintro δ' L' ⟨ds, kn, ns, y4, y5, y6, hd, -, -, hn, hl, rfl, rfl⟩
      walk_at "g"
      exact Exit.mk [0, 2] (hq _ _ hd hn (by rw [hl, range_len]; omega))
  · exact h.elim
def sp_law_shuffled : ASp := fun xs L q => match xs, L with
  | [.ref 0, .ref 1], [.dl ds, .dl es] => DR ds ∧ es.length ≤ 100000 ∧ ∀ ds' fs, DR ds' → fs.Perm es → q (.ref 2) [.dl ds', .dl es, .dl fs]
  | _, _ => False
theorem len_law_shuffled : ∀ xs L q, sp_law_shuffled xs L q → xs.length = 2 := by
  unfold sp_law_shuffled
  walk_at "l"
abbrev st_law_shuffled : Stmt := topS 10
theorem sc_law_shuffled : FnScope ["draws", "row", "found", "item"] ["draws", "row"] (defScope st_law_shuffled) := ⟨rfl, rfl, rfl, by decide +kernel, rfl, by decide +kernel, by decide +kernel⟩
theorem ok_law_shuffled {f : Addr} {fd : FuncData} (F : Fun K "_law_shuffled" "_law_shuffled" st_law_shuffled f fd) {f_law_take : Addr} {fd_law_take : FuncData} (g_law_take : mg "_law_take" = some (.ref f_law_take)) (k_law_take : PySem.W.keepIn K (.ref f_law_take) = true) (b_law_take : Binds K fd_law_take ["draws", "many"] []) (G_law_take : FnOk P w K mg base CX0 1 f_law_take fd_law_take ["draws", "many"] (upF P w K sp_law_take)) (z_len : mg "len" = none) : FnOk P w K mg base CX0 2 f fd ["draws", "row"] (upF P w K sp_law_shuffled) := by
  refine fn_ok F sc_law_shuffled len_law_shuffled (fun cdv A outer s H E hr => (as_cons (as_set 2 sc_law_shuffled.nd rfl (by first | exact Or.inl rfl | exact Or.inr rfl) (a_lst aa_nil))
    (as_cons (as_for PassesOwn.never rfl (ai_seq (a_var 1)) (ag_name 3 sc_law_shuffled.nd rfl (by first | exact Or.inl rfl | exact Or.inr rfl)) (as_one (as_expr (a_met PySem.F.plainAttrs_list PySem.F.slot_list_insert PySem.F.type_list_insert mt_insert met_ins (a_var 2) (aa_cons (a_call G_law_take (hr.mono (by decide)) (by rfl) g_law_take k_law_take b_law_take (aa_cons (a_var 0) (aa_cons (a_add (a_callB call_lenU cal_len (by rfl) z_len (by decide +kernel) (aa_cons (a_var 2) aa_nil)) a_int) aa_nil))) (aa_cons (a_var 3) aa_nil))))))
    (as_one (as_ret (a_var 2)))))) (fun xs L q h => ?_)
  unfold sp_law_shuffled at h
  split at h
  · rename_i ds es
    obtain ⟨hd, hes, hq⟩ := h
    walk_at "g"
    refine ⟨fun i δ L => ∃ ds fs y, DR ds ∧ fs.Perm (es.take i) ∧ δ = [some (.ref 0), some (.ref 1), some (.ref 2), y] ∧ L = [.dl ds, .dl es, .dl fs],
      ⟨_, _, _, hd, List.Perm.refl _, rfl, rfl⟩, ?_, ?_, ?_⟩
    · rintro i δ' L' - ⟨ds, fs, y, -, -, rfl, rfl⟩
      rfl
    · rintro i x δ' L' hx ⟨ds, fs, y, hd, hp, rfl, rfl⟩
      obtain ⟨d, hd1, rfl⟩ := d_at hx
      walk_at "c"
      intro r ds' hd' h0 h1
      have hfl := hp.length_eq
      rw [List.length_take] at hfl
      walk_at "w"
      refine ⟨by rw [sizeLine_eq]; omega, h0, by omega, ?_⟩
      walk_at "g"
      refine Back.mk [0, 1, 2] ⟨_, _, _, hd', ?_, rfl, rfl⟩
      rw [List.take_add_one, hd1]
      refine List.Perm.trans ?_ (List.Perm.append_right _ hp)
      show (List.take r.toNat fs ++ [d] ++ List.drop r.toNat fs).Perm (fs ++ [d])
      rw [List.append_assoc]
      refine List.Perm.trans (List.Perm.append_left _ List.perm_append_comm) ?_
      rw [← List.append_assoc, List.take_append_drop]
    · rintro δ' L' ⟨ds, fs, y, hd, hp, rfl, rfl⟩
      rw [List.length_map, List.take_length] at hp
      walk_at "g"
      exact Exit.mk [0, 1, 2] (hq _ _ hd hp)
  · exact h.elim
end
end T


set_option Elab.async false
set_option linter.all false
set_option maxRecDepth 100000
set_option maxHeartbeats 4000000
namespace T
open PySem L2 AB PyProof.Rows
local macro_rules | `(tactic| walk_at "w") => `(tactic| (conv => whnf))
local macro_rules | `(tactic| walk_at "s") => `(tactic| first | assumption | omega | (simp only [List.length_map, range_len, rangeC_len, Int.toNat_natCast]; omega) | rfl | decide | (show (0 : Int) < _; first | decide | omega) | (refine And.intro ?_ ?_ <;> first | decide | omega) | (refine And.intro ?_ (And.intro ?_ ?_) <;> first | decide | omega) | (rw [sizeLine_eq]; omega) | (rw [sizeLine_eq]; simp; done) | (rw [sizeLine_eq]; simp; omega) | (refine Or.inr ?_; decide) | (refine Or.inl ?_; decide) | (refine Or.inl (And.intro ?_ ?_) <;> omega) | (refine Or.inr (And.intro ?_ ?_) <;> omega))
local macro_rules | `(tactic| walk_at "g") => `(tactic| (walk_at "w"; repeat (refine And.intro (by walk_at "s") ?_; walk_at "w")))
local macro_rules | `(tactic| walk_at "l") => `(tactic| (intro xs L q h; (split at h <;> first | rfl | exact h.elim)))
local macro_rules | `(tactic| walk_at "c") => `(tactic| (walk_at "g"; refine call_go ?_; walk_at "g"))
local macro_rules | `(tactic| walk_at "b") => `(tactic| first | refine And.intro (fun (z : false = true) => by cases z) (fun (_ : false = false) => ?_) | refine And.intro (fun (_ : true = true) => ?_) (fun (z : true = false) => by cases z) | refine And.intro (fun (z : decide _ = true) => (fun _ => ?_) (of_decide_eq_true z)) (fun (z : decide _ = false) => (fun _ => ?_) (of_decide_eq_false z)) | refine And.intro (fun (_ : _ = true) => ?_) (fun (_ : _ = false) => ?_) | fail)
local macro_rules | `(tactic| walk_at "v") => `(tactic| (walk_at "g"; repeat' (walk_at "b" <;> walk_at "g")))

section
variable {P : Program} {w : World} {K : PySem.W.Frag} {mg : Str → Option Value} {base : Heap}
theorem sub_keep {es acc : List D} {i : Nat} {d : D} (h : List.Sublist acc (es.take i)) (e : es[i]? = some d) : List.Sublist (acc ++ [d]) (es.take (i + 1)) := by
  rw [List.take_add_one, e]
  exact h.append (List.Sublist.refl _)
theorem sub_drop {es acc : List D} {i : Nat} (h : List.Sublist acc (es.take i)) : List.Sublist acc (es.take (i + 1)) :=
  h.trans (List.take_sublist_take_left (Nat.le_succ i))
theorem DR.cons {i : Int} {ds : List D} (h : DR ds) : DR (.int i :: ds) := fun d hd => by
  rcases List.mem_cons.mp hd with rfl | h1
  · exact ⟨i, rfl⟩
  · exact h d h1
/-- whole numbers from 0 on -/
def DN (ds : List D) : Prop := ∀ d ∈ ds, ∃ i : Int, d = .int i ∧ 0 ≤ i
theorem DN.nil : DN [] := fun _ h => by cases h
theorem DN.cons {i : Int} {ds : List D} (k : 0 ≤ i) (h : DN ds) : DN (.int i :: ds) := fun d hd => by
  rcases List.mem_cons.mp hd with rfl | h1
  · exact ⟨i, rfl, k⟩
  · exact h d h1
theorem DN.atI {ds : List D} (h : DN ds) {i : Int} (h0 : 0 ≤ i) (h1 : i < (ds.length : Int)) : ∃ n : Int, L2.atI ds i = some (.int n) ∧ 0 ≤ n := by
  obtain ⟨d, e1, e2⟩ := atI_nn h0 h1
  obtain ⟨n, rfl, hn⟩ := h d (List.mem_of_getElem? e1)
  exact ⟨n, e2, hn⟩
theorem DR.sub {ds es : List D} (h : DR es) (k : List.Sublist ds es) : DR ds := fun d hd => h d (k.subset hd)
theorem DR.perm {ds es : List D} (h : DR es) (k : List.Perm ds es) : DR ds := fun d hd => h d (k.subset hd)
theorem atI_all {p : D → Prop} {ds : List D} (h : ∀ d ∈ ds, p d) {i : Int} (h0 : 0 ≤ i) (h1 : i < (ds.length : Int)) : ∃ d, L2.atI ds i = some d ∧ p d := by
  obtain ⟨d, e1, e2⟩ := atI_nn h0 h1
  exact ⟨d, e2, h d (List.mem_of_getElem? e1)⟩
theorem all_cons {p : D → Prop} {d : D} {ds : List D} (h : p d) (k : ∀ d ∈ ds, p d) : ∀ e ∈ d :: ds, p e := fun e he => by
  rcases List.mem_cons.mp he with rfl | h1
  · exact h
  · exact k e h1
theorem all_nil {p : D → Prop} : ∀ e ∈ ([] : List D), p e := fun e he => by cases he
theorem all_snoc {p : D → Prop} {d : D} {ds : List D} (k : ∀ d ∈ ds, p d) (h : p d) : ∀ e ∈ ds ++ [d], p e := fun e he => by
  rcases List.mem_append.mp he with h1 | h1
  · exact k e h1
  · rw [List.mem_singleton.mp h1]; exact h
def sp_law_wish : ASp := fun xs L q => match xs, L with
  | [.ref 0, .ref 1], [.dl ds, .dl es] => DR ds ∧ es.length ≤ 100000 ∧ ∀ ds' gs fs, DR ds' → List.Sublist gs es → fs.Perm gs → q (.d (.tuple fs)) [.dl ds', .dl es]
  | _, _ => False
theorem len_law_wish : ∀ xs L q, sp_law_wish xs L q → xs.length = 2 := by
  unfold sp_law_wish
  walk_at "l"
abbrev st_law_wish : Stmt := topS 11
theorem sc_law_wish : FnScope ["draws", "contracts", "one"] ["draws", "contracts"] (defScope st_law_wish) := ⟨rfl, rfl, rfl, by decide +kernel, rfl, by decide +kernel, by decide +kernel⟩
theorem ok_law_wish {f : Addr} {fd : FuncData} (F : Fun K "_law_wish" "_law_wish" st_law_wish f fd) {f_law_shuffled : Addr} {fd_law_shuffled : FuncData} (g_law_shuffled : mg "_law_shuffled" = some (.ref f_law_shuffled)) (k_law_shuffled : PySem.W.keepIn K (.ref f_law_shuffled) = true) (b_law_shuffled : Binds K fd_law_shuffled ["draws", "row"] []) (G_law_shuffled : FnOk P w K mg base CX0 2 f_law_shuffled fd_law_shuffled ["draws", "row"] (upF P w K sp_law_shuffled)) {f_law_take : Addr} {fd_law_take : FuncData} (g_law_take : mg "_law_take" = some (.ref f_law_take)) (k_law_take : PySem.W.keepIn K (.ref f_law_take) = true) (b_law_take : Binds K fd_law_take ["draws", "many"] []) (G_law_take : FnOk P w K mg base CX0 1 f_law_take fd_law_take ["draws", "many"] (upF P w K sp_law_take)) (z_tuple : mg "tuple" = none) : FnOk P w K mg base CX0 3 f fd ["draws", "contracts"] (upF P w K sp_law_wish) := by
  refine fn_ok F sc_law_wish len_law_wish (fun cdv A outer s H E hr => (as_one (as_ret (a_callTy call_tuple_of cal_tuple (by rfl) z_tuple (by decide +kernel) (aa_cons (a_call G_law_shuffled (hr.mono (by decide)) (by rfl) g_law_shuffled k_law_shuffled b_law_shuffled (aa_cons (a_var 0) (aa_cons (a_lc [("one", 2)] rfl sc_law_wish.nd (ai_seq (a_var 1)) (blkOk_by (own := [("one", 2)]) (N := ["draws", "contracts", "one"]) (sc := defScope st_law_wish) (by decide +kernel)) (fun _ _ _ _ _ => (ag_name 2 sc_law_wish.nd rfl (by first | exact Or.inl rfl | exact Or.inr rfl))) (fun _ _ _ _ _ => (ats_one (at_cmp op_gt bin_gt (a_call G_law_take (hr.mono (by decide)) (by rfl) g_law_take k_law_take b_law_take (aa_cons (a_var 0) (aa_cons a_int aa_nil))) a_int (nomark _)))) (fun _ _ _ _ _ => (a_var 2))) aa_nil))) aa_nil))))) (fun xs L q h => ?_)
  unfold sp_law_wish at h
  split at h
  · rename_i ds es
    obtain ⟨hd, hes, hq⟩ := h
    walk_at "w"
    refine ⟨by simp; omega, fun i acc L => ∃ ds, DR ds ∧ List.Sublist acc (es.take i) ∧ L = [.dl ds, .dl es], ⟨_, hd, List.Sublist.refl _, rfl⟩, ?_, ?_, ?_⟩
    · rintro i acc L' - ⟨ds, -, -, rfl⟩
      rfl
    · rintro i x acc L' hx - ⟨ds, hd, hs, rfl⟩
      obtain ⟨d, hd1, rfl⟩ := d_at hx
      walk_at "c"
      intro r ds' hd' h0 h1
      walk_at "g"
      refine ⟨fun hb => ?_, fun hb => ?_⟩
      · walk_at "g"
        exact Back0.mk [0, 1] ⟨_, hd', sub_keep hs hd1, rfl⟩
      · walk_at "g"
        exact Back0.mk [0, 1] ⟨_, hd', sub_drop hs, rfl⟩
    · rintro acc L' - ⟨ds, hd, hs, rfl⟩
      rw [List.length_map, List.take_length] at hs
      have := hs.length_le
      walk_at "c"
      intro ds' fs hd' hp
      walk_at "g"
      exact Exit.mk [0, 1] (hq _ _ _ hd' hs hp)
  · exact h.elim
def sp_law_room : ASp := fun xs L q => match xs, L with
  | [.ref 0, .d (.int c)], [.dl ds] => DR ds ∧ ∀ r ds', DR ds' → 0 ≤ r → q (.d (.int r)) [.dl ds']
  | _, _ => False
theorem len_law_room : ∀ xs L q, sp_law_room xs L q → xs.length = 2 := by
  unfold sp_law_room
  walk_at "l"
abbrev st_law_room : Stmt := topS 12
theorem sc_law_room : FnScope ["draws", "cell"] ["draws", "cell"] (defScope st_law_room) := ⟨rfl, rfl, rfl, by decide +kernel, rfl, by decide +kernel, by decide +kernel⟩
theorem ok_law_room {f : Addr} {fd : FuncData} (F : Fun K "_law_room" "_law_room" st_law_room f fd) {f_law_take : Addr} {fd_law_take : FuncData} (g_law_take : mg "_law_take" = some (.ref f_law_take)) (k_law_take : PySem.W.keepIn K (.ref f_law_take) = true) (b_law_take : Binds K fd_law_take ["draws", "many"] []) (G_law_take : FnOk P w K mg base CX0 1 f_law_take fd_law_take ["draws", "many"] (upF P w K sp_law_take)) (z_abs : mg "abs" = none) : FnOk P w K mg base CX0 2 f fd ["draws", "cell"] (upF P w K sp_law_room) := by
  refine fn_ok F sc_law_room len_law_room (fun cdv A outer s H E hr => (as_one (as_ret (a_ix (a_lst (aa_cons a_int (aa_cons a_int (aa_cons a_int (aa_cons a_int (aa_cons a_int (aa_cons a_int (aa_cons a_int (aa_cons (a_callB call_abs cal_abs (by rfl) z_abs (by decide +kernel) (aa_cons (a_var 1) aa_nil)) aa_nil))))))))) (a_call G_law_take (hr.mono (by decide)) (by rfl) g_law_take k_law_take b_law_take (aa_cons (a_var 0) (aa_cons a_int aa_nil))))))) (fun xs L q h => ?_)
  unfold sp_law_room at h
  split at h
  · rename_i c ds
    obtain ⟨hd, hq⟩ := h
    walk_at "c"
    intro r ds' hd' h0 h1
    have hn : DN [PyData.int 1, PyData.int 1, PyData.int 2, PyData.int 2, PyData.int 3, PyData.int 9, PyData.int 0, PyData.int (if c < 0 then -c else c)] := by
      repeat first | exact DN.nil | refine DN.cons (by first | decide | (split <;> omega)) ?_
    obtain ⟨n, e, hn⟩ := hn.atI h0 h1
    walk_at "g"
    refine ⟨_, e, ?_⟩
    walk_at "g"
    exact Exit.mk [0] (hq _ _ hd' hn)
  · exact h.elim
def sp_law_subset : ASp := fun xs L q => match xs, L with
  | [.ref 0, .ref 1, .d (.int s)], [.dl ds, .dl es] => DR ds ∧ DR es ∧ es.length ≤ 100000 ∧ ∀ ds' gs fs, DR ds' → DR fs → List.Sublist gs es → fs.Perm gs → q (.d (.tuple fs)) [.dl ds', .dl es]
  | _, _ => False
theorem len_law_subset : ∀ xs L q, sp_law_subset xs L q → xs.length = 3 := by
  unfold sp_law_subset
  walk_at "l"
abbrev st_law_subset : Stmt := topS 13
theorem sc_law_subset : FnScope ["draws", "contracts", "share", "one"] ["draws", "contracts", "share"] (defScope st_law_subset) := ⟨rfl, rfl, rfl, by decide +kernel, rfl, by decide +kernel, by decide +kernel⟩
theorem ok_law_subset {f : Addr} {fd : FuncData} (F : Fun K "_law_subset" "_law_subset" st_law_subset f fd) {f_law_take : Addr} {fd_law_take : FuncData} (g_law_take : mg "_law_take" = some (.ref f_law_take)) (k_law_take : PySem.W.keepIn K (.ref f_law_take) = true) (b_law_take : Binds K fd_law_take ["draws", "many"] []) (G_law_take : FnOk P w K mg base CX0 1 f_law_take fd_law_take ["draws", "many"] (upF P w K sp_law_take)) (z_tuple : mg "tuple" = none) (z_sorted : mg "sorted" = none) : FnOk P w K mg base CX0 2 f fd ["draws", "contracts", "share"] (upF P w K sp_law_subset) := by
  refine fn_ok F sc_law_subset len_law_subset (fun cdv A outer s H E hr => (as_one (as_ret (a_callTy call_tuple_of cal_tuple (by rfl) z_tuple (by decide +kernel) (aa_cons (a_callB cr_sortedI cal_sortI (by rfl) z_sorted (by decide +kernel) (aa_cons (a_lc [("one", 3)] rfl sc_law_subset.nd (ai_seq (a_var 1)) (blkOk_by (own := [("one", 3)]) (N := ["draws", "contracts", "share", "one"]) (sc := defScope st_law_subset) (by decide +kernel)) (fun _ _ _ _ _ => (ag_name 3 sc_law_subset.nd rfl (by first | exact Or.inl rfl | exact Or.inr rfl))) (fun _ _ _ _ _ => (ats_one (at_cmp op_ltU bin_lt (a_call G_law_take (hr.mono (by decide)) (by rfl) g_law_take k_law_take b_law_take (aa_cons (a_var 0) (aa_cons a_int aa_nil))) (a_var 2) (nomark _)))) (fun _ _ _ _ _ => (a_var 3))) aa_nil)) aa_nil))))) (fun xs L q h => ?_)
  unfold sp_law_subset at h
  split at h
  · rename_i s ds es
    obtain ⟨hd, he, hes, hq⟩ := h
    walk_at "w"
    refine ⟨by simp; omega, fun i acc L => ∃ ds, DR ds ∧ List.Sublist acc (es.take i) ∧ L = [.dl ds, .dl es], ⟨_, hd, List.Sublist.refl _, rfl⟩, ?_, ?_, ?_⟩
    · rintro i acc L' - ⟨ds, -, -, rfl⟩
      rfl
    · rintro i x acc L' hx - ⟨ds, hd, hs, rfl⟩
      obtain ⟨d, hd1, rfl⟩ := d_at hx
      walk_at "c"
      intro r ds' hd' h0 h1
      walk_at "g"
      refine ⟨fun hb => ?_, fun hb => ?_⟩
      · walk_at "g"
        exact Back0.mk [0, 1] ⟨_, hd', sub_keep hs hd1, rfl⟩
      · walk_at "g"
        exact Back0.mk [0, 1] ⟨_, hd', sub_drop hs, rfl⟩
    · rintro acc L' - ⟨ds, hd, hs, rfl⟩
      rw [List.length_map, List.take_length] at hs
      have := hs.length_le
      obtain ⟨ns, rfl⟩ := (DR.sub he hs).of
      walk_at "g"
      refine ⟨ns, rfl, fun ms hp ho => ?_⟩
      walk_at "g"
      exact Exit.mk [0, 1] (hq _ _ _ hd (DR.ints ms) hs (hp.map _))
  · exact h.elim
theorem dr_plain {fs : List D} (h : DR fs) : PyData.plainAll fs = true := plainAll_of fun d hd => by
  obtain ⟨i, rfl⟩ := h d hd
  rfl
theorem depthAll_le {n : Nat} {fs : List D} (h : ∀ d ∈ fs, d.depth ≤ n) : PyData.depthAll fs ≤ n := by
  induction fs with
  | nil => exact Nat.zero_le _
  | cons d ds ih =>
    show Nat.max d.depth (PyData.depthAll ds) ≤ n
    exact Nat.max_le.mpr ⟨h d (by simp), ih fun d hd => h d (by simp [hd])⟩
theorem dr_depth {fs : List D} (h : DR fs) : (PyData.tuple fs).depth ≤ 64 := by
  have : PyData.depthAll fs ≤ 0 := depthAll_le fun d hd => by
    obtain ⟨i, rfl⟩ := h d hd
    exact Nat.le_refl _
  show PyData.depthAll fs + 1 ≤ 64
  omega
/-- a table's row: some of the contracts, in order -/
def RowOf (es : List D) (d : D) : Prop := ∃ gs fs, d = .tuple fs ∧ DR fs ∧ List.Sublist gs es ∧ fs.Perm gs
theorem rows_in {fs : List D} (h : DR fs) {es rows : List D} (hr : ∀ r ∈ rows, RowOf es r) : InOk (.tuple fs) rows := by
  refine ⟨dr_plain h, plainAll_of fun d hd => ?_, Or.inr (dr_depth h)⟩
  obtain ⟨gs, fs, rfl, hf, -⟩ := hr d hd
  exact dr_plain hf
def TabOf (es : List D) (d : D) : Prop := ∃ rows, d = .tuple [.str (Str.ofString "table"), .tuple rows] ∧ rows.length ≤ 30 ∧ ∀ r ∈ rows, RowOf es r
def sp_law_table : ASp := fun xs L q => match xs, L with
  | [.ref 0, .ref 1], [.dl ds, .dl es] => DR ds ∧ DR es ∧ es.length ≤ 100000 ∧ ∀ ds' d, DR ds' → TabOf es d → q (.d d) [.dl ds', .dl es]
  | _, _ => False
theorem len_law_table : ∀ xs L q, sp_law_table xs L q → xs.length = 2 := by
  unfold sp_law_table
  walk_at "l"
abbrev st_law_table : Stmt := topS 14
theorem sc_law_table : FnScope ["draws", "own", "rows", "k", "row"] ["draws", "own"] (defScope st_law_table) := ⟨rfl, rfl, rfl, by decide +kernel, rfl, by decide +kernel, by decide +kernel⟩
theorem ok_law_table {f : Addr} {fd : FuncData} (F : Fun K "_law_table" "_law_table" st_law_table f fd) {f_law_subset : Addr} {fd_law_subset : FuncData} (g_law_subset : mg "_law_subset" = some (.ref f_law_subset)) (k_law_subset : PySem.W.keepIn K (.ref f_law_subset) = true) (b_law_subset : Binds K fd_law_subset ["draws", "contracts", "share"] []) (G_law_subset : FnOk P w K mg base CX0 2 f_law_subset fd_law_subset ["draws", "contracts", "share"] (upF P w K sp_law_subset)) {f_law_take : Addr} {fd_law_take : FuncData} (g_law_take : mg "_law_take" = some (.ref f_law_take)) (k_law_take : PySem.W.keepIn K (.ref f_law_take) = true) (b_law_take : Binds K fd_law_take ["draws", "many"] []) (G_law_take : FnOk P w K mg base CX0 1 f_law_take fd_law_take ["draws", "many"] (upF P w K sp_law_take)) (z_range : mg "range" = none) (z_tuple : mg "tuple" = none) (z_len : mg "len" = none) : FnOk P w K mg base CX0 3 f fd ["draws", "own"] (upF P w K sp_law_table) := by
  refine fn_ok F sc_law_table len_law_table (fun cdv A outer s H E hr => (as_cons (as_set 2 sc_law_table.nd rfl (by first | exact Or.inl rfl | exact Or.inr rfl) (a_lst aa_nil))
    (as_cons (as_for PassesOwn.never rfl (ai_range1 (by rfl) z_range (aa_cons (a_ix (a_lst (aa_cons (a_call G_law_take (hr.mono (by decide)) (by rfl) g_law_take k_law_take b_law_take (aa_cons (a_var 0) (aa_cons a_int aa_nil))) (aa_cons a_int aa_nil))) (a_fdiv (a_call G_law_take (hr.mono (by decide)) (by rfl) g_law_take k_law_take b_law_take (aa_cons (a_var 0) (aa_cons a_int aa_nil))) a_int)) aa_nil)) (ag_name 3 sc_law_table.nd rfl (by first | exact Or.inl rfl | exact Or.inr rfl)) (as_cons (as_set 4 sc_law_table.nd rfl (by first | exact Or.inl rfl | exact Or.inr rfl) (a_call G_law_subset (hr.mono (by decide)) (by rfl) g_law_subset k_law_subset b_law_subset (aa_cons (a_var 0) (aa_cons (a_var 1) (aa_cons (a_ix (a_lst (aa_cons a_int (aa_cons a_int aa_nil))) (a_call G_law_take (hr.mono (by decide)) (by rfl) g_law_take k_law_take b_law_take (aa_cons (a_var 0) (aa_cons a_int aa_nil)))) aa_nil)))))
    (as_one (as_if (at_w (aw_and (at_cmp op_gt bin_gt (a_callB call_lenU cal_len (by rfl) z_len (by decide +kernel) (aa_cons (a_var 4) aa_nil)) a_int (nomark _)) (aw_and1 (at_cmp (op_ninP (room65 hr)) bin_in (a_var 4) (a_var 2) (by rfl))))) (as_one (as_expr (a_append (a_var 2) (a_var 4)))) as_nil))))
    (as_one (as_ret (a_tup (aa_cons a_str (aa_cons (a_callTy call_tuple_of cal_tuple (by rfl) z_tuple (by decide +kernel) (aa_cons (a_var 2) aa_nil)) aa_nil)))))))) (fun xs L q h => ?_)
  unfold sp_law_table at h
  split at h
  · rename_i ds es
    obtain ⟨hd, he, hes, hq⟩ := h
    walk_at "c"
    intro r ds' hd' h0 h1
    walk_at "c"
    intro r2 ds2 hd2 h20 h21
    have hb0 : 0 ≤ r2 / 7 := Int.ediv_nonneg h20 (by decide)
    have hb1 : r2 / 7 < 2 := by omega
    have hn : ∀ d ∈ [PyData.int r, PyData.int 30], ∃ n : Int, d = .int n ∧ 0 ≤ n ∧ n ≤ 30 :=
      all_cons ⟨_, rfl, h0, by omega⟩ (all_cons ⟨_, rfl, by decide, by decide⟩ all_nil)
    obtain ⟨_, e, n, rfl, hn0, hn1⟩ := atI_all hn hb0 hb1
    walk_at "g"
    refine ⟨_, e, ?_⟩
    walk_at "g"
    refine ⟨fun i δ L => ∃ ds rows x y3 y4, DR ds ∧ (∀ r ∈ rows, RowOf es r) ∧ rows.length ≤ i ∧ δ = [some (.ref 0), some (.ref 1), some (.ref 2), y3, y4] ∧ L = [.dl ds, .dl es, .dl rows, .dl x],
      ⟨_, _, _, _, _, hd2, all_nil, Nat.zero_le _, rfl, rfl⟩, fun _ _ _ _ _ => trivial, ?_, ?_⟩
    · rintro i x δ' L' hx ⟨ds, rows, x, y3, y4, hd, hr, hl, rfl, rfl⟩
      obtain ⟨hi, rfl⟩ := range_at hx
      walk_at "c"
      intro r ds' hd' h0 h1
      obtain ⟨n2, e2, -⟩ := DN.atI (DN.cons (by decide) (DN.cons (by decide) DN.nil) : DN [PyData.int 2, PyData.int 4]) h0 h1
      walk_at "g"
      refine ⟨_, e2, ?_⟩
      walk_at "c"
      intro ds3 gs fs hd3 hf hs hp
      walk_at "g"
      refine ⟨fun hb => ?_, fun hb => ?_⟩
      · walk_at "w"
        refine ⟨rows_in hf hr, ?_⟩
        walk_at "g"
        refine ⟨fun hb => ?_, fun hb => ?_⟩
        · walk_at "g"
          exact Back.mk [0, 1, 2, 3] ⟨_, _, x, _, _, hd3, all_snoc hr ⟨gs, fs, rfl, hf, hs, hp⟩, by simp; omega, rfl, rfl⟩
        · walk_at "g"
          exact Back.mk [0, 1, 2, 3] ⟨_, rows, x, _, _, hd3, hr, by omega, rfl, rfl⟩
      · walk_at "g"
        refine ⟨(fun z => by cases z), fun _ => ?_⟩
        walk_at "g"
        exact Back.mk [0, 1, 2, 3] ⟨_, rows, x, _, _, hd3, hr, by omega, rfl, rfl⟩
    · rintro δ' L' ⟨ds, rows, x, y3, y4, hd, hr, hl, rfl, rfl⟩
      simp at hl
      walk_at "g"
      refine Exit.mk [0, 1] (hq _ _ hd ⟨rows, rfl, by omega, hr⟩)
  · exact h.elim
/-- groups -/
def GrOf (es : List D) (d : D) : Prop := ∃ rest fs c, d = .tuple [.tuple fs, .int c] ∧ 0 ≤ c ∧ DR fs ∧ fs ≠ [] ∧ List.Perm (fs ++ rest) es
def sp_law_groups : ASp := fun xs L q => match xs, L with
  | [.ref 0, .ref 1, .d (.int c)], [.dl ds, .dl es] => DR ds ∧ DR es ∧ es.length ≤ 1000 ∧ ∀ ds' gs, DR ds' → (∀ g ∈ gs, GrOf es g) → gs.length ≤ 10 → q (.d (.tuple gs)) [.dl ds', .dl es]
  | _, _ => False
theorem len_law_groups : ∀ xs L q, sp_law_groups xs L q → xs.length = 3 := by
  unfold sp_law_groups
  walk_at "l"
abbrev st_law_groups : Stmt := topS 15
theorem sc_law_groups : FnScope ["draws", "contracts", "cell", "row", "size", "found", "width", "k"] ["draws", "contracts", "cell"] (defScope st_law_groups) := ⟨rfl, rfl, rfl, by decide +kernel, rfl, by decide +kernel, by decide +kernel⟩
theorem ok_law_groups {f : Addr} {fd : FuncData} (F : Fun K "_law_groups" "_law_groups" st_law_groups f fd) {f_law_shuffled : Addr} {fd_law_shuffled : FuncData} (g_law_shuffled : mg "_law_shuffled" = some (.ref f_law_shuffled)) (k_law_shuffled : PySem.W.keepIn K (.ref f_law_shuffled) = true) (b_law_shuffled : Binds K fd_law_shuffled ["draws", "row"] []) (G_law_shuffled : FnOk P w K mg base CX0 2 f_law_shuffled fd_law_shuffled ["draws", "row"] (upF P w K sp_law_shuffled)) {f_law_take : Addr} {fd_law_take : FuncData} (g_law_take : mg "_law_take" = some (.ref f_law_take)) (k_law_take : PySem.W.keepIn K (.ref f_law_take) = true) (b_law_take : Binds K fd_law_take ["draws", "many"] []) (G_law_take : FnOk P w K mg base CX0 1 f_law_take fd_law_take ["draws", "many"] (upF P w K sp_law_take)) (z_tuple : mg "tuple" = none) (z_max : mg "max" = none) (z_range : mg "range" = none) (z_len : mg "len" = none) (z_sorted : mg "sorted" = none) (z_abs : mg "abs" = none) : FnOk P w K mg base CX0 3 f fd ["draws", "contracts", "cell"] (upF P w K sp_law_groups) := by
  refine fn_ok F sc_law_groups len_law_groups (fun cdv A outer s H E hr => (as_cons (as_set 3 sc_law_groups.nd rfl (by first | exact Or.inl rfl | exact Or.inr rfl) (a_call G_law_shuffled (hr.mono (by decide)) (by rfl) g_law_shuffled k_law_shuffled b_law_shuffled (aa_cons (a_var 0) (aa_cons (a_var 1) aa_nil))))
    (as_cons (as_set 4 sc_law_groups.nd rfl (by first | exact Or.inl rfl | exact Or.inr rfl) (a_add a_int (a_call G_law_take (hr.mono (by decide)) (by rfl) g_law_take k_law_take b_law_take (aa_cons (a_var 0) (aa_cons a_int aa_nil)))))
    (as_cons (as_set 5 sc_law_groups.nd rfl (by first | exact Or.inl rfl | exact Or.inr rfl) (a_lst aa_nil))
    (as_cons (as_for PassesOwn.never rfl (ai_seq (a_lst (aa_cons a_int (aa_cons (a_var 4) (aa_cons (a_mul a_int (a_var 4)) (aa_cons (a_callB (call_max2 rfl) (cal_mm (g := fun i j => if j > i then j else i)) (by rfl) z_max (by decide +kernel) (aa_cons a_int (aa_cons (a_callB call_lenU cal_len (by rfl) z_len (by decide +kernel) (aa_cons (a_var 3) aa_nil)) aa_nil))) aa_nil)))))) (ag_name 6 sc_law_groups.nd rfl (by first | exact Or.inl rfl | exact Or.inr rfl)) (as_one (as_for PassesOwn.never rfl (ai_range3 (by rfl) z_range (aa_cons a_int (aa_cons (a_callB call_lenU cal_len (by rfl) z_len (by decide +kernel) (aa_cons (a_var 3) aa_nil)) (aa_cons (a_var 6) aa_nil)))) (ag_name 7 sc_law_groups.nd rfl (by first | exact Or.inl rfl | exact Or.inr rfl)) (as_one (as_if (at_cmp (op_eqP hr.units) bin_eq (a_call G_law_take (hr.mono (by decide)) (by rfl) g_law_take k_law_take b_law_take (aa_cons (a_var 0) (aa_cons a_int aa_nil))) a_int (nomark _)) (as_one (as_expr (a_append (a_var 5) (a_tup (aa_cons (a_callTy call_tuple_of cal_tuple (by rfl) z_tuple (by decide +kernel) (aa_cons (a_callB cr_sortedI cal_sortI (by rfl) z_sorted (by decide +kernel) (aa_cons (a_sl (a_var 3) (ap_some (a_var 7)) (ap_some (a_add (a_var 7) (a_var 6)))) aa_nil)) aa_nil)) (aa_cons (a_ix (a_lst (aa_cons a_int (aa_cons a_int (aa_cons a_int (aa_cons a_int (aa_cons a_int (aa_cons (a_callB call_abs cal_abs (by rfl) z_abs (by decide +kernel) (aa_cons (a_var 2) aa_nil)) aa_nil))))))) (a_call G_law_take (hr.mono (by decide)) (by rfl) g_law_take k_law_take b_law_take (aa_cons (a_var 0) (aa_cons a_int aa_nil)))) aa_nil)))))) as_nil)))))
    (as_cut (as_if (at_w (aw_and (at_cmp op_gt bin_gt (a_callB call_lenU cal_len (by rfl) z_len (by decide +kernel) (aa_cons (a_var 5) aa_nil)) a_int (nomark _)) (aw_and1 (at_cmp (op_eqP hr.units) bin_eq (a_call G_law_take (hr.mono (by decide)) (by rfl) g_law_take k_law_take b_law_take (aa_cons (a_var 0) (aa_cons a_int aa_nil))) a_int (nomark _))))) (as_one (as_expr (a_append (a_var 5) (a_tup (aa_cons (a_ix (a_ix (a_var 5) (a_call G_law_take (hr.mono (by decide)) (by rfl) g_law_take k_law_take b_law_take (aa_cons (a_var 0) (aa_cons (a_callB call_lenU cal_len (by rfl) z_len (by decide +kernel) (aa_cons (a_var 5) aa_nil)) aa_nil)))) a_int) (aa_cons (a_call G_law_take (hr.mono (by decide)) (by rfl) g_law_take k_law_take b_law_take (aa_cons (a_var 0) (aa_cons a_int aa_nil))) aa_nil)))))) as_nil)
    (as_one (as_ret (a_callTy call_tuple_of cal_tuple (by rfl) z_tuple (by decide +kernel) (aa_cons (a_sl (a_call G_law_shuffled (hr.mono (by decide)) (by rfl) g_law_shuffled k_law_shuffled b_law_shuffled (aa_cons (a_var 0) (aa_cons (a_var 5) aa_nil))) ap_none (ap_some a_int)) aa_nil)))))))))) (fun xs L q h => ?_)
  unfold sp_law_groups at h
  split at h
  · rename_i c ds es
    obtain ⟨hd, he, hes, hq⟩ := h
    walk_at "c"
    intro ds1 row hd1 hp1
    have hrl := hp1.length_eq
    walk_at "c"
    intro r ds2 hd2 h0 h1
    walk_at "g"
    refine ⟨fun i δ L => ∃ ds found y6 y7, DR ds ∧ (∀ g ∈ found, GrOf es g) ∧ found.length ≤ 1001 * i ∧ δ = [some (.ref 0), some (.ref 1), some (.d (.int c)), some (.ref 2), some (.d (.int (2 + r))), some (.ref 3), y6, y7] ∧ L = [.dl ds, .dl es, .dl row, .dl found, .dl [PyData.int 1, PyData.int (2 + r), PyData.int (2 * (2 + r)), PyData.int (if 1 < (row.length : Int) then (row.length : Int) else 1)]],
      ⟨_, _, _, _, hd2, all_nil, Nat.zero_le _, rfl, rfl⟩, ?_, ?_, ?_⟩
    · rintro i δ' L' - ⟨ds, found, y6, y7, -, -, -, rfl, rfl⟩
      rfl
    · rintro i x δ' L' hx ⟨ds, found, y6, y7, hd, hg, hl, rfl, rfl⟩
      obtain ⟨d, hx1, rfl⟩ := d_at hx
      have hw : ∀ d ∈ [PyData.int 1, PyData.int (2 + r), PyData.int (2 * (2 + r)), PyData.int (if 1 < (row.length : Int) then (row.length : Int) else 1)], ∃ n : Int, d = .int n ∧ 0 < n ∧ n ≤ 1001 :=
        all_cons ⟨_, rfl, by omega, by omega⟩ (all_cons ⟨_, rfl, by omega, by omega⟩ (all_cons ⟨_, rfl, by omega, by omega⟩ (all_cons ⟨_, rfl, by split <;> omega, by split <;> omega⟩ all_nil)))
      have hi4 : i < 4 := (List.getElem?_eq_some_iff.mp hx1).1
      obtain ⟨wd, rfl, hw0, hw1⟩ := hw d (List.mem_of_getElem? hx1)
      obtain ⟨n, hr1, hr2, hr3⟩ := rg_pos (b := (row.length : Int)) (c := wd) (by omega) (by omega) hw0 (by omega)
      walk_at "g"
      refine ⟨n, hr1, ?_⟩
      walk_at "w"
      refine ⟨fun j δ L => ∃ ds found y7, DR ds ∧ (∀ g ∈ found, GrOf es g) ∧ found.length ≤ 1001 * i + j ∧ δ = [some (.ref 0), some (.ref 1), some (.d (.int c)), some (.ref 2), some (.d (.int (2 + r))), some (.ref 3), some (.d (.int wd)), y7] ∧ L = [.dl ds, .dl es, .dl row, .dl found, .dl [PyData.int 1, PyData.int (2 + r), PyData.int (2 * (2 + r)), PyData.int (if 1 < (row.length : Int) then (row.length : Int) else 1)]],
        ⟨_, _, _, hd, hg, hl, rfl, rfl⟩, fun _ _ _ _ _ => trivial, ?_, ?_⟩
      · rintro j x δ' L' hx ⟨ds, found, y7, hd, hg, hl, rfl, rfl⟩
        obtain ⟨hj, rfl⟩ := rangeC_at hx
        have hj3 := hr3 j hj
        have hj0 : 0 ≤ (j : Int) * wd := Int.mul_nonneg (by omega) (by omega)
        walk_at "c"
        intro r1 ds3 hd3 h10 h11
        walk_at "g"
        refine ⟨fun hb => ?_, fun hb => ?_⟩
        · obtain ⟨rest, hcp⟩ := cutD_perm row (some (0 + (j : Int) * wd)) (some (0 + (j : Int) * wd + wd))
          have hne : cutD row (some (0 + (j : Int) * wd)) (some (0 + (j : Int) * wd + wd)) ≠ [] := cutD_ne (by omega) (by omega) (by omega)
          have hcd : DR (cutD row (some (0 + (j : Int) * wd)) (some (0 + (j : Int) * wd + wd))) := DR.sub (DR.perm (DR.perm he hp1) hcp) (List.sublist_append_left _ _)
          obtain ⟨ns, hns⟩ := hcd.of
          rw [hns] at hcp hne
          walk_at "g"
          refine ⟨ns, hns, fun ms hp ho => ?_⟩
          walk_at "c"
          intro r2 ds4 hd4 h20 h21
          have hn : DN [PyData.int 0, PyData.int 1, PyData.int 1, PyData.int 2, PyData.int 3, PyData.int (if c < 0 then -c else c)] := by
            repeat first | exact DN.nil | refine DN.cons (by first | decide | (split <;> omega)) ?_
          obtain ⟨cap, e, hcap⟩ := hn.atI h20 h21
          walk_at "g"
          refine ⟨_, e, ?_⟩
          walk_at "g"
          refine Back.mk [0, 1, 2, 3, 4] ⟨_, _, _, hd4, all_snoc hg ⟨rest, _, _, rfl, hcap, DR.ints ms, ?_, ?_⟩, by simp; omega, rfl, rfl⟩
          · intro e0
            have e1 := hp.length_eq
            rw [List.map_eq_nil_iff.mp e0] at e1
            cases ns with
            | nil => exact hne rfl
            | cons a b => cases e1
          · exact (List.Perm.append_right _ (hp.map _)).trans (hcp.trans hp1)
        · walk_at "g"
          exact Back.mk [0, 1, 2, 3, 4] ⟨_, found, _, hd3, hg, by omega, rfl, rfl⟩
      · rintro δ' L' ⟨ds, found, y7, hd, hg, hl, rfl, rfl⟩
        simp only [rangeC_len] at hl
        walk_at "g"
        exact Back.mk [0, 1, 2, 3, 4] ⟨_, found, _, _, hd, hg, by omega, rfl, rfl⟩
    · rintro δ' L' ⟨ds, found, y6, y7, hd, hg, hl, rfl, rfl⟩
      simp only [List.length_map, List.length_cons, List.length_nil] at hl
      walk_at "g"
      refine ⟨fun δ' L' => ∃ ds found y6 y7, DR ds ∧ (∀ g ∈ found, GrOf es g) ∧ found.length ≤ 4005 ∧ δ' = [some (.ref 0), some (.ref 1), some (.d (.int c)), some (.ref 2), some (.d (.int (2 + r))), some (.ref 3), y6, y7] ∧ L' = [.dl ds, .dl es, .dl row, .dl found], ?_, ?_⟩
      · walk_at "g"
        refine ⟨fun hb0 => ?_, fun hb => ?_⟩
        · walk_at "c"
          intro r1 ds3 hd3 h10 h11
          walk_at "g"
          refine ⟨fun hb => ?_, fun hb => ?_⟩
          · walk_at "g"
            have hfl : 0 < found.length := by simp at hb0; omega
            refine call_go ?_
            walk_at "g"
            intro r2 ds4 hd4 h20 h21
            obtain ⟨g, hg1, hg2⟩ := atI_all hg h20 h21
            obtain ⟨rest, fs, cp, rfl, hc, hf, hne, hp⟩ := hg2
            walk_at "g"
            refine ⟨_, hg1, ?_⟩
            walk_at "g"
            refine ⟨_, rfl, ?_⟩
            walk_at "c"
            intro r3 ds5 hd5 h30 h31
            walk_at "g"
            exact Back.mk [0, 1, 2, 3] ⟨_, _, _, _, hd5, all_snoc hg ⟨rest, fs, _, rfl, h30, hf, hne, hp⟩, by simp; omega, rfl, rfl⟩
          · walk_at "g"
            exact Back.mk [0, 1, 2, 3] ⟨_, found, _, _, hd3, hg, by omega, rfl, rfl⟩
        · walk_at "g"
          refine ⟨(fun z => by cases z), fun _ => ?_⟩
          walk_at "g"
          exact Back.mk [0, 1, 2, 3] ⟨_, found, _, _, hd, hg, by omega, rfl, rfl⟩
      · rintro δ' L' ⟨ds, found, y6, y7, hd, hg, hl, rfl, rfl⟩
        walk_at "c"
        intro ds3 gs hd3 hp
        walk_at "g"
        obtain ⟨rest, hcp⟩ := cutD_perm gs none (some 10)
        refine Exit.mk [0, 1] (hq _ _ hd3 (fun g h => hg g (hp.subset (hcp.subset (List.mem_append_left _ h)))) ?_)
        unfold AB.cutD
        exact Nat.le_trans (List.length_take_le _ _) (by simp [HT.sIx]; omega)
  · exact h.elim
end
end T


set_option Elab.async false
set_option linter.all false
set_option maxRecDepth 100000
set_option maxHeartbeats 4000000
namespace T
open PySem L2 AB PyProof.Rows
local macro_rules | `(tactic| walk_at "w") => `(tactic| (conv => whnf))
local macro_rules | `(tactic| walk_at "s") => `(tactic| first | assumption | omega | (simp only [List.length_map, range_len, rangeC_len, Int.toNat_natCast]; omega) | rfl | decide | (show (0 : Int) < _; first | decide | omega) | (refine And.intro ?_ ?_ <;> first | decide | omega) | (refine And.intro ?_ (And.intro ?_ ?_) <;> first | decide | omega) | (rw [sizeLine_eq]; omega) | (rw [sizeLine_eq]; simp; done) | (rw [sizeLine_eq]; simp; omega) | (refine Or.inr ?_; decide) | (refine Or.inl ?_; decide) | (refine Or.inl (And.intro ?_ ?_) <;> omega) | (refine Or.inr (And.intro ?_ ?_) <;> omega))
local macro_rules | `(tactic| walk_at "g") => `(tactic| (walk_at "w"; repeat (refine And.intro (by walk_at "s") ?_; walk_at "w")))
local macro_rules | `(tactic| walk_at "l") => `(tactic| (intro xs L q h; (split at h <;> first | rfl | exact h.elim)))
local macro_rules | `(tactic| walk_at "c") => `(tactic| (walk_at "g"; refine call_go ?_; walk_at "g"))
local macro_rules | `(tactic| walk_at "b") => `(tactic| first | refine And.intro (fun (z : false = true) => by cases z) (fun (_ : false = false) => ?_) | refine And.intro (fun (_ : true = true) => ?_) (fun (z : true = false) => by cases z) | refine And.intro (fun (z : decide _ = true) => (fun _ => ?_) (of_decide_eq_true z)) (fun (z : decide _ = false) => (fun _ => ?_) (of_decide_eq_false z)) | refine And.intro (fun (_ : _ = true) => ?_) (fun (_ : _ = false) => ?_) | fail)
local macro_rules | `(tactic| walk_at "v") => `(tactic| (walk_at "g"; repeat' (walk_at "b" <;> walk_at "g")))

section
variable {P : Program} {w : World} {K : PySem.W.Frag} {mg : Str → Option Value} {base : Heap}
def WishOf (es : List D) (d : D) : Prop := ∃ gs fs, d = .tuple fs ∧ List.Sublist gs es ∧ fs.Perm gs
inductive Plain (bs ss : List D) : D → Prop
  | tab {d : D} : TabOf (bs ++ ss) d → Plain bs ss d
  | sides {r r2 : Int} {a b : D} : 0 ≤ r → WishOf bs a → 0 ≤ r2 → WishOf ss b → Plain bs ss (.tuple [.str (Str.ofString "sides"), .int r, a, .int r2, b])
  | maker {r : Int} {a b : D} : 0 ≤ r → WishOf bs a → WishOf ss b → Plain bs ss (.tuple [.str (Str.ofString "maker"), .int r, a, b])
  | trader {r c : Int} {a b : D} : 0 ≤ r → RowOf bs a → RowOf ss b → Plain bs ss (.tuple [.str (Str.ofString "trader"), .int r, .int c, a, b])
  | caps {a b : D} {gs hs : List D} : WishOf bs a → (∀ g ∈ gs, GrOf bs g) → gs.length ≤ 10 → WishOf ss b → (∀ g ∈ hs, GrOf ss g) → hs.length ≤ 10 → Plain bs ss (.tuple [.str (Str.ofString "caps"), a, .tuple gs, b, .tuple hs])
def sp_law_plain_choice : ASp := fun xs L q => match xs, L with
  | [.ref 0, .ref 1, .ref 2, .d (.int c), .d (.int t)], [.dl ds, .dl bs, .dl ss] => DR ds ∧ DR bs ∧ DR ss ∧ bs.length ≤ 500 ∧ ss.length ≤ 500 ∧ ∀ ds' d, DR ds' → Plain bs ss d → q (.d d) [.dl ds', .dl bs, .dl ss]
  | _, _ => False
theorem len_law_plain_choice : ∀ xs L q, sp_law_plain_choice xs L q → xs.length = 5 := by
  unfold sp_law_plain_choice
  walk_at "l"
abbrev st_law_plain_choice : Stmt := topS 16
theorem sc_law_plain_choice : FnScope ["draws", "buys", "sells", "cell", "tables", "kind", "room", "cost", "first"] ["draws", "buys", "sells", "cell", "tables"] (defScope st_law_plain_choice) := ⟨rfl, rfl, rfl, by decide +kernel, rfl, by decide +kernel, by decide +kernel⟩
theorem ok_law_plain_choice {f : Addr} {fd : FuncData} (F : Fun K "_law_plain_choice" "_law_plain_choice" st_law_plain_choice f fd) {f_law_take : Addr} {fd_law_take : FuncData} (g_law_take : mg "_law_take" = some (.ref f_law_take)) (k_law_take : PySem.W.keepIn K (.ref f_law_take) = true) (b_law_take : Binds K fd_law_take ["draws", "many"] []) (G_law_take : FnOk P w K mg base CX0 1 f_law_take fd_law_take ["draws", "many"] (upF P w K sp_law_take)) {f_law_room : Addr} {fd_law_room : FuncData} (g_law_room : mg "_law_room" = some (.ref f_law_room)) (k_law_room : PySem.W.keepIn K (.ref f_law_room) = true) (b_law_room : Binds K fd_law_room ["draws", "cell"] []) (G_law_room : FnOk P w K mg base CX0 2 f_law_room fd_law_room ["draws", "cell"] (upF P w K sp_law_room)) {f_law_groups : Addr} {fd_law_groups : FuncData} (g_law_groups : mg "_law_groups" = some (.ref f_law_groups)) (k_law_groups : PySem.W.keepIn K (.ref f_law_groups) = true) (b_law_groups : Binds K fd_law_groups ["draws", "contracts", "cell"] []) (G_law_groups : FnOk P w K mg base CX0 3 f_law_groups fd_law_groups ["draws", "contracts", "cell"] (upF P w K sp_law_groups)) {f_law_table : Addr} {fd_law_table : FuncData} (g_law_table : mg "_law_table" = some (.ref f_law_table)) (k_law_table : PySem.W.keepIn K (.ref f_law_table) = true) (b_law_table : Binds K fd_law_table ["draws", "own"] []) (G_law_table : FnOk P w K mg base CX0 3 f_law_table fd_law_table ["draws", "own"] (upF P w K sp_law_table)) {f_law_wish : Addr} {fd_law_wish : FuncData} (g_law_wish : mg "_law_wish" = some (.ref f_law_wish)) (k_law_wish : PySem.W.keepIn K (.ref f_law_wish) = true) (b_law_wish : Binds K fd_law_wish ["draws", "contracts"] []) (G_law_wish : FnOk P w K mg base CX0 3 f_law_wish fd_law_wish ["draws", "contracts"] (upF P w K sp_law_wish)) {f_law_subset : Addr} {fd_law_subset : FuncData} (g_law_subset : mg "_law_subset" = some (.ref f_law_subset)) (k_law_subset : PySem.W.keepIn K (.ref f_law_subset) = true) (b_law_subset : Binds K fd_law_subset ["draws", "contracts", "share"] []) (G_law_subset : FnOk P w K mg base CX0 2 f_law_subset fd_law_subset ["draws", "contracts", "share"] (upF P w K sp_law_subset)) (z_len : mg "len" = none) : FnOk P w K mg base CX0 4 f fd ["draws", "buys", "sells", "cell", "tables"] (upF P w K sp_law_plain_choice) := by
  refine fn_ok F sc_law_plain_choice len_law_plain_choice (fun cdv A outer s H E hr => (as_cons (as_set 5 sc_law_plain_choice.nd rfl (by first | exact Or.inl rfl | exact Or.inr rfl) (a_call G_law_take (hr.mono (by decide)) (by rfl) g_law_take k_law_take b_law_take (aa_cons (a_var 0) (aa_cons a_int aa_nil))))
    (as_cons (as_set 6 sc_law_plain_choice.nd rfl (by first | exact Or.inl rfl | exact Or.inr rfl) (a_call G_law_room (hr.mono (by decide)) (by rfl) g_law_room k_law_room b_law_room (aa_cons (a_var 0) (aa_cons (a_var 3) aa_nil))))
    (as_cut (as_if (at_w (aw_and (at_cmp (op_eqP hr.units) bin_eq (a_var 5) a_int (nomark _)) (aw_and1 (at_cmp op_ltU bin_lt (a_add (a_callB call_lenU cal_len (by rfl) z_len (by decide +kernel) (aa_cons (a_var 1) aa_nil)) (a_callB call_lenU cal_len (by rfl) z_len (by decide +kernel) (aa_cons (a_var 2) aa_nil))) (a_var 4) (nomark _))))) (as_one (as_ret (a_call G_law_table (hr.mono (by decide)) (by rfl) g_law_table k_law_table b_law_table (aa_cons (a_var 0) (aa_cons (a_add (a_var 1) (a_var 2)) aa_nil))))) as_nil)
    (as_cut (as_if (at_w (aw_or (at_cmp op_ltU bin_lt (a_var 5) a_int (nomark _)) (aw_or1 (at_w (aw_and (at_cmp op_ltU bin_lt (a_var 5) a_int (nomark _)) (aw_and1 (at_w (aw_or (at_cmp (op_eqP hr.units) bin_eq (a_callB call_lenU cal_len (by rfl) z_len (by decide +kernel) (aa_cons (a_var 1) aa_nil)) a_int (nomark _)) (aw_or1 (at_cmp (op_eqP hr.units) bin_eq (a_callB call_lenU cal_len (by rfl) z_len (by decide +kernel) (aa_cons (a_var 2) aa_nil)) a_int (nomark _))))))))))) (as_one (as_ret (a_tup (aa_cons a_str (aa_cons (a_var 6) (aa_cons (a_call G_law_wish (hr.mono (by decide)) (by rfl) g_law_wish k_law_wish b_law_wish (aa_cons (a_var 0) (aa_cons (a_var 1) aa_nil))) (aa_cons (a_call G_law_room (hr.mono (by decide)) (by rfl) g_law_room k_law_room b_law_room (aa_cons (a_var 0) (aa_cons (a_var 3) aa_nil))) (aa_cons (a_call G_law_wish (hr.mono (by decide)) (by rfl) g_law_wish k_law_wish b_law_wish (aa_cons (a_var 0) (aa_cons (a_var 2) aa_nil))) aa_nil)))))))) as_nil)
    (as_cut (as_if (at_cmp op_ltU bin_lt (a_var 5) a_int (nomark _)) (as_one (as_ret (a_tup (aa_cons a_str (aa_cons (a_var 6) (aa_cons (a_call G_law_wish (hr.mono (by decide)) (by rfl) g_law_wish k_law_wish b_law_wish (aa_cons (a_var 0) (aa_cons (a_var 1) aa_nil))) (aa_cons (a_call G_law_wish (hr.mono (by decide)) (by rfl) g_law_wish k_law_wish b_law_wish (aa_cons (a_var 0) (aa_cons (a_var 2) aa_nil))) aa_nil))))))) as_nil)
    (as_cut (as_if (at_cmp op_ltU bin_lt (a_var 5) a_int (nomark _)) (as_cons (as_set 7 sc_law_plain_choice.nd rfl (by first | exact Or.inl rfl | exact Or.inr rfl) (a_ix (a_lst (aa_cons a_int (aa_cons a_int (aa_cons (a_sub (a_call G_law_take (hr.mono (by decide)) (by rfl) g_law_take k_law_take b_law_take (aa_cons (a_var 0) (aa_cons a_int aa_nil))) a_int) (aa_cons (a_var 3) aa_nil))))) (a_call G_law_take (hr.mono (by decide)) (by rfl) g_law_take k_law_take b_law_take (aa_cons (a_var 0) (aa_cons a_int aa_nil)))))
    (as_one (as_ret (a_tup (aa_cons a_str (aa_cons (a_var 6) (aa_cons (a_var 7) (aa_cons (a_call G_law_subset (hr.mono (by decide)) (by rfl) g_law_subset k_law_subset b_law_subset (aa_cons (a_var 0) (aa_cons (a_var 1) (aa_cons a_int aa_nil)))) (aa_cons (a_call G_law_subset (hr.mono (by decide)) (by rfl) g_law_subset k_law_subset b_law_subset (aa_cons (a_var 0) (aa_cons (a_var 2) (aa_cons a_int aa_nil)))) aa_nil))))))))) as_nil)
    (as_cons (as_set 8 sc_law_plain_choice.nd rfl (by first | exact Or.inl rfl | exact Or.inr rfl) (a_call G_law_groups (hr.mono (by decide)) (by rfl) g_law_groups k_law_groups b_law_groups (aa_cons (a_var 0) (aa_cons (a_var 1) (aa_cons (a_var 3) aa_nil)))))
    (as_one (as_ret (a_tup (aa_cons a_str (aa_cons (a_call G_law_wish (hr.mono (by decide)) (by rfl) g_law_wish k_law_wish b_law_wish (aa_cons (a_var 0) (aa_cons (a_var 1) aa_nil))) (aa_cons (a_var 8) (aa_cons (a_call G_law_wish (hr.mono (by decide)) (by rfl) g_law_wish k_law_wish b_law_wish (aa_cons (a_var 0) (aa_cons (a_var 2) aa_nil))) (aa_cons (a_call G_law_groups (hr.mono (by decide)) (by rfl) g_law_groups k_law_groups b_law_groups (aa_cons (a_var 0) (aa_cons (a_var 2) (aa_cons (a_var 3) aa_nil)))) aa_nil)))))))))))))))) (fun xs L q h => ?_)
  unfold sp_law_plain_choice at h
  split at h
  · rename_i c t ds bs ss
    obtain ⟨hd, hb, hs, hbl, hsl, hq⟩ := h
    walk_at "c"
    intro kind ds1 hd1 hk0 hk1
    walk_at "c"
    intro room ds2 hd2 hr
    walk_at "g"
    refine ⟨fun δ' L' => ∃ ds, DR ds ∧ δ' = [some (.ref 0), some (.ref 1), some (.ref 2), some (.d (.int c)), some (.d (.int t)), some (.d (.int kind)), some (.d (.int room)), none, none] ∧ L' = [.dl ds, .dl bs, .dl ss], ?_, ?_⟩
    · walk_at "v"
      any_goals exact Back.mk [0, 1, 2] ⟨_, hd2, rfl, rfl⟩
      refine call_go ?_
      have hbs : DR (bs ++ ss) := DR.app hb hs
      have hl : (bs ++ ss).length ≤ 100000 := by rw [List.length_append]; omega
      walk_at "g"
      intro ds3 d hd3 ht
      walk_at "g"
      exact Exit.mk [0, 1, 2] (hq _ _ hd3 (.tab ht))
    · rintro δ' L' ⟨ds3, hd3, rfl, rfl⟩
      walk_at "g"
      refine ⟨fun δ' L' => ∃ ds, DR ds ∧ δ' = [some (.ref 0), some (.ref 1), some (.ref 2), some (.d (.int c)), some (.d (.int t)), some (.d (.int kind)), some (.d (.int room)), none, none] ∧ L' = [.dl ds, .dl bs, .dl ss], ?_, ?_⟩
      · walk_at "v"
        any_goals exact Back.mk [0, 1, 2] ⟨_, hd3, rfl, rfl⟩
        all_goals
          refine call_go ?_
          walk_at "g"
          intro ds4 g1 f1 hd4 hs1 hp1
          walk_at "c"
          intro r2 ds5 hd5 hr2
          walk_at "c"
          intro ds6 g2 f2 hd6 hs2 hp2
          walk_at "g"
          exact Exit.mk [0, 1, 2] (hq _ _ hd6 (.sides hr ⟨_, _, rfl, hs1, hp1⟩ hr2 ⟨_, _, rfl, hs2, hp2⟩))
      · rintro δ' L' ⟨ds3, hd3, rfl, rfl⟩
        walk_at "g"
        refine ⟨fun δ' L' => ∃ ds, DR ds ∧ δ' = [some (.ref 0), some (.ref 1), some (.ref 2), some (.d (.int c)), some (.d (.int t)), some (.d (.int kind)), some (.d (.int room)), none, none] ∧ L' = [.dl ds, .dl bs, .dl ss], ?_, ?_⟩
        · walk_at "v"
          any_goals exact Back.mk [0, 1, 2] ⟨_, hd3, rfl, rfl⟩
          all_goals
            refine call_go ?_
            walk_at "g"
            intro ds4 g1 f1 hd4 hs1 hp1
            walk_at "c"
            intro ds6 g2 f2 hd6 hs2 hp2
            walk_at "g"
            exact Exit.mk [0, 1, 2] (hq _ _ hd6 (.maker hr ⟨_, _, rfl, hs1, hp1⟩ ⟨_, _, rfl, hs2, hp2⟩))
        · rintro δ' L' ⟨ds3, hd3, rfl, rfl⟩
          walk_at "g"
          refine ⟨fun δ' L' => ∃ ds, DR ds ∧ δ' = [some (.ref 0), some (.ref 1), some (.ref 2), some (.d (.int c)), some (.d (.int t)), some (.d (.int kind)), some (.d (.int room)), none, none] ∧ L' = [.dl ds, .dl bs, .dl ss], ?_, ?_⟩
          · walk_at "v"
            any_goals exact Back.mk [0, 1, 2] ⟨_, hd3, rfl, rfl⟩
            refine call_go ?_
            walk_at "g"
            intro r1 ds4 hd4 h10 h11
            walk_at "c"
            intro r2 ds5 hd5 h20 h21
            have hn : DR [PyData.int 0, PyData.int 1, PyData.int (r1 - 4), PyData.int c] := DR.cons (DR.cons (DR.cons (DR.cons DR.nil)))
            obtain ⟨n, -, e⟩ := hn.atI h20 h21
            walk_at "g"
            refine ⟨_, e, ?_⟩
            walk_at "c"
            intro ds6 g1 f1 hd6 hf1 hs1 hp1
            walk_at "c"
            intro ds7 g2 f2 hd7 hf2 hs2 hp2
            walk_at "g"
            exact Exit.mk [0, 1, 2] (hq _ _ hd7 (.trader hr ⟨_, _, rfl, hf1, hs1, hp1⟩ ⟨_, _, rfl, hf2, hs2, hp2⟩))
          · rintro δ' L' ⟨ds3, hd3, rfl, rfl⟩
            walk_at "c"
            intro ds4 gs hd4 hg hgl
            walk_at "c"
            intro ds5 g1 f1 hd5 hs1 hp1
            walk_at "c"
            intro ds6 g2 f2 hd6 hs2 hp2
            walk_at "c"
            intro ds7 hs hd7 hh hhl
            walk_at "g"
            exact Exit.mk [0, 1, 2] (hq _ _ hd7 (.caps ⟨_, _, rfl, hs1, hp1⟩ hg hgl ⟨_, _, rfl, hs2, hp2⟩ hh hhl))
  · exact h.elim
/-- a choice; of the parts of a split one, that they are parts of some shares -/
inductive ChOf (bs ss : List D) : D → Prop
  | plain {d : D} : Plain bs ss d → ChOf bs ss d
  | split {ps : List D} : ps.length ≤ 9 → ChOf bs ss (.tuple [.str (Str.ofString "split"), .tuple ps])
def sp_law_split : ASp := fun xs L q => match xs, L with
  | [.ref 0, .ref 1, .ref 2, .d (.int c), .d (.int t)], [.dl ds, .dl bs, .dl ss] => DR ds ∧ DR bs ∧ DR ss ∧ bs.length ≤ 500 ∧ ss.length ≤ 500 ∧ ∀ ds' d, DR ds' → ChOf bs ss d → q (.d d) [.dl ds', .dl bs, .dl ss]
  | _, _ => False
theorem len_law_split : ∀ xs L q, sp_law_split xs L q → xs.length = 5 := by
  unfold sp_law_split
  walk_at "l"
def sp_law_choice : ASp := fun xs L q => match xs, L with
  | [.ref 0, .ref 1, .ref 2, .d (.int c), .d (.int t)], [.dl ds, .dl bs, .dl ss] => DR ds ∧ DR bs ∧ DR ss ∧ bs.length ≤ 500 ∧ ss.length ≤ 500 ∧ ∀ ds' d, DR ds' → ChOf bs ss d → q (.d d) [.dl ds', .dl bs, .dl ss]
  | _, _ => False
theorem len_law_choice : ∀ xs L q, sp_law_choice xs L q → xs.length = 5 := by
  unfold sp_law_choice
  walk_at "l"
abbrev st_law_choice : Stmt := topS 18
theorem sc_law_choice : FnScope ["draws", "buys", "sells", "cell", "tables"] ["draws", "buys", "sells", "cell", "tables"] (defScope st_law_choice) := ⟨rfl, rfl, rfl, by decide +kernel, rfl, by decide +kernel, by decide +kernel⟩
theorem ok_law_choice {f : Addr} {fd : FuncData} (F : Fun K "_law_choice" "_law_choice" st_law_choice f fd) {f_law_plain_choice : Addr} {fd_law_plain_choice : FuncData} (g_law_plain_choice : mg "_law_plain_choice" = some (.ref f_law_plain_choice)) (k_law_plain_choice : PySem.W.keepIn K (.ref f_law_plain_choice) = true) (b_law_plain_choice : Binds K fd_law_plain_choice ["draws", "buys", "sells", "cell", "tables"] []) (G_law_plain_choice : FnOk P w K mg base CX0 4 f_law_plain_choice fd_law_plain_choice ["draws", "buys", "sells", "cell", "tables"] (upF P w K sp_law_plain_choice)) {f_law_take : Addr} {fd_law_take : FuncData} (g_law_take : mg "_law_take" = some (.ref f_law_take)) (k_law_take : PySem.W.keepIn K (.ref f_law_take) = true) (b_law_take : Binds K fd_law_take ["draws", "many"] []) (G_law_take : FnOk P w K mg base CX0 1 f_law_take fd_law_take ["draws", "many"] (upF P w K sp_law_take)) {f_law_split : Addr} {fd_law_split : FuncData} (g_law_split : mg "_law_split" = some (.ref f_law_split)) (k_law_split : PySem.W.keepIn K (.ref f_law_split) = true) (b_law_split : Binds K fd_law_split ["draws", "buys", "sells", "cell", "tables"] []) (G_law_split : FnOk P w K mg base CX0 5 f_law_split fd_law_split ["draws", "buys", "sells", "cell", "tables"] (upF P w K sp_law_split)) : FnOk P w K mg base CX0 6 f fd ["draws", "buys", "sells", "cell", "tables"] (upF P w K sp_law_choice) := by
  refine fn_ok F sc_law_choice len_law_choice (fun cdv A outer s H E hr => (as_cons (as_if (at_cmp (op_eqP hr.units) bin_eq (a_call G_law_take (hr.mono (by decide)) (by rfl) g_law_take k_law_take b_law_take (aa_cons (a_var 0) (aa_cons a_int aa_nil))) a_int (nomark _)) (as_one (as_ret (a_call G_law_split (hr.mono (by decide)) (by rfl) g_law_split k_law_split b_law_split (aa_cons (a_var 0) (aa_cons (a_var 1) (aa_cons (a_var 2) (aa_cons (a_var 3) (aa_cons (a_var 4) aa_nil)))))))) as_nil)
    (as_one (as_ret (a_call G_law_plain_choice (hr.mono (by decide)) (by rfl) g_law_plain_choice k_law_plain_choice b_law_plain_choice (aa_cons (a_var 0) (aa_cons (a_var 1) (aa_cons (a_var 2) (aa_cons (a_var 3) (aa_cons (a_var 4) aa_nil)))))))))) (fun xs L q h => ?_)
  unfold sp_law_choice at h
  split at h
  · rename_i c t ds bs ss
    obtain ⟨hd, hb, hs, hbl, hsl, hq⟩ := h
    walk_at "c"
    intro kind ds1 hd1 hk0 hk1
    walk_at "v"
    · refine call_go ?_
      walk_at "g"
      intro ds2 d hd2 hc
      walk_at "g"
      exact Exit.mk [0, 1, 2] (hq _ _ hd2 hc)
    · refine call_go ?_
      walk_at "g"
      intro ds2 d hd2 hc
      walk_at "g"
      exact Exit.mk [0, 1, 2] (hq _ _ hd2 (.plain hc))
  · exact h.elim
end
end T


set_option Elab.async false
set_option linter.all false
set_option maxRecDepth 100000
set_option maxHeartbeats 4000000
namespace T
open PySem L2 AB PyProof.Rows
local macro_rules | `(tactic| walk_at "w") => `(tactic| (conv => whnf))
local macro_rules | `(tactic| walk_at "s") => `(tactic| first | assumption | omega | (simp only [List.length_map, range_len, rangeC_len, Int.toNat_natCast]; omega) | rfl | decide | (show (0 : Int) < _; first | decide | omega) | (refine And.intro ?_ ?_ <;> first | decide | omega) | (refine And.intro ?_ (And.intro ?_ ?_) <;> first | decide | omega) | (rw [sizeLine_eq]; omega) | (rw [sizeLine_eq]; simp; done) | (rw [sizeLine_eq]; simp; omega) | (refine Or.inr ?_; decide) | (refine Or.inl ?_; decide) | (refine Or.inl (And.intro ?_ ?_) <;> omega) | (refine Or.inr (And.intro ?_ ?_) <;> omega))
local macro_rules | `(tactic| walk_at "g") => `(tactic| (walk_at "w"; repeat (refine And.intro (by walk_at "s") ?_; walk_at "w")))
local macro_rules | `(tactic| walk_at "l") => `(tactic| (intro xs L q h; (split at h <;> first | rfl | exact h.elim)))
local macro_rules | `(tactic| walk_at "c") => `(tactic| (walk_at "g"; refine call_go ?_; walk_at "g"))
local macro_rules | `(tactic| walk_at "b") => `(tactic| first | refine And.intro (fun (z : false = true) => by cases z) (fun (_ : false = false) => ?_) | refine And.intro (fun (_ : true = true) => ?_) (fun (z : true = false) => by cases z) | refine And.intro (fun (z : decide _ = true) => (fun _ => ?_) (of_decide_eq_true z)) (fun (z : decide _ = false) => (fun _ => ?_) (of_decide_eq_false z)) | refine And.intro (fun (_ : _ = true) => ?_) (fun (_ : _ = false) => ?_) | fail)
local macro_rules | `(tactic| walk_at "v") => `(tactic| (walk_at "g"; repeat' (walk_at "b" <;> walk_at "g")))

section
variable {P : Program} {w : World} {K : PySem.W.Frag} {mg : Str → Option Value} {base : Heap}
theorem DR.has {ds : List D} (h : DR ds) {i : Int} (h0 : 0 ≤ i) (h1 : i < (ds.length : Int)) : ∃ n : Int, ds[i.toNat]? = some (.int n) ∧ L2.atI ds i = some (.int n) := h.atI h0 h1
theorem all_ins {p : D → Prop} {d : D} {ds : List D} (k : ∀ d ∈ ds, p d) (h : p d) {a b : Nat} : ∀ e ∈ ds.take a ++ [d] ++ ds.drop b, p e := fun e he => by
  rcases List.mem_append.mp he with h1 | h1
  · rcases List.mem_append.mp h1 with h2 | h2
    · exact k e (List.mem_of_mem_take h2)
    · rw [List.mem_singleton.mp h2]; exact h
  · exact k e (List.mem_of_mem_drop h1)
/-- a pair of houses, the first before the second in the row -/
def PairOf (os : List D) (d : D) : Prop := ∃ (i j : Nat) (a b : Int), i < j ∧ os[i]? = some (.int a) ∧ os[j]? = some (.int b) ∧ d = .tuple [.int a, .int b]
theorem pair_at {os : List D} (hdo : DR os) {i j : Int} (h0 : 0 ≤ i) (h1 : i < j) (h2 : j < (os.length : Int)) : ∃ u v : Int, L2.atI os i = some (.int u) ∧ L2.atI os j = some (.int v) ∧ PairOf os (.tuple [.int u, .int v]) := by
  obtain ⟨u, u1, u2⟩ := DR.has hdo h0 (show i < _ by omega)
  obtain ⟨v, v1, v2⟩ := DR.has hdo (show 0 ≤ j by omega) h2
  exact ⟨u, v, u2, v2, i.toNat, j.toNat, u, v, by omega, u1, v1, rfl⟩
def sp_law_graph : ASp := fun xs L q => match xs, L with
  | [.ref 0, .d (.int n), .d (.int m)], [.dl ds] => DR ds ∧ 2 ≤ n ∧ n ≤ 1000 ∧ 0 ≤ m ∧ m ≤ 1000 ∧ ∀ ds' os es, DR ds' → List.Perm os ((List.range n.toNat).map fun (k : Nat) => PyData.int (k : Int)) → (∀ e ∈ es, PairOf os e) → es.length ≤ 60 → q (.ref 1) [.dl ds', .dl es]
  | _, _ => False
theorem len_law_graph : ∀ xs L q, sp_law_graph xs L q → xs.length = 3 := by
  unfold sp_law_graph
  walk_at "l"
abbrev st_law_graph : Stmt := topS 19
theorem sc_law_graph : FnScope ["draws", "count", "most", "order", "k", "shape", "contracts", "first", "second"] ["draws", "count", "most"] (defScope st_law_graph) := ⟨rfl, rfl, rfl, by decide +kernel, rfl, by decide +kernel, by decide +kernel⟩
theorem ok_law_graph {f : Addr} {fd : FuncData} (F : Fun K "_law_graph" "_law_graph" st_law_graph f fd) {f_law_shuffled : Addr} {fd_law_shuffled : FuncData} (g_law_shuffled : mg "_law_shuffled" = some (.ref f_law_shuffled)) (k_law_shuffled : PySem.W.keepIn K (.ref f_law_shuffled) = true) (b_law_shuffled : Binds K fd_law_shuffled ["draws", "row"] []) (G_law_shuffled : FnOk P w K mg base CX0 2 f_law_shuffled fd_law_shuffled ["draws", "row"] (upF P w K sp_law_shuffled)) {f_law_take : Addr} {fd_law_take : FuncData} (g_law_take : mg "_law_take" = some (.ref f_law_take)) (k_law_take : PySem.W.keepIn K (.ref f_law_take) = true) (b_law_take : Binds K fd_law_take ["draws", "many"] []) (G_law_take : FnOk P w K mg base CX0 1 f_law_take fd_law_take ["draws", "many"] (upF P w K sp_law_take)) (z_range : mg "range" = none) (z_min : mg "min" = none) (z_len : mg "len" = none) : FnOk P w K mg base CX0 3 f fd ["draws", "count", "most"] (upF P w K sp_law_graph) := by
  refine fn_ok F sc_law_graph len_law_graph (fun cdv A outer s H E hr => (as_cons (as_set 3 sc_law_graph.nd rfl (by first | exact Or.inl rfl | exact Or.inr rfl) (a_call G_law_shuffled (hr.mono (by decide)) (by rfl) g_law_shuffled k_law_shuffled b_law_shuffled (aa_cons (a_var 0) (aa_cons (a_lc [("k", 4)] rfl sc_law_graph.nd (ai_range1 (by rfl) z_range (aa_cons (a_var 1) aa_nil)) (blkOk_by (own := [("k", 4)]) (N := ["draws", "count", "most", "order", "k", "shape", "contracts", "first", "second"]) (sc := defScope st_law_graph) (by decide +kernel)) (fun _ _ _ _ _ => (ag_name 4 sc_law_graph.nd rfl (by first | exact Or.inl rfl | exact Or.inr rfl))) (fun _ _ _ _ _ => ats_nil) (fun _ _ _ _ _ => (a_var 4))) aa_nil))))
    (as_cons (as_set 5 sc_law_graph.nd rfl (by first | exact Or.inl rfl | exact Or.inr rfl) (a_call G_law_take (hr.mono (by decide)) (by rfl) g_law_take k_law_take b_law_take (aa_cons (a_var 0) (aa_cons a_int aa_nil))))
    (as_cons (as_set 6 sc_law_graph.nd rfl (by first | exact Or.inl rfl | exact Or.inr rfl) (a_lst aa_nil))
    (as_cons (as_for PassesOwn.never rfl (ai_range1 (by rfl) z_range (aa_cons (a_call G_law_take (hr.mono (by decide)) (by rfl) g_law_take k_law_take b_law_take (aa_cons (a_var 0) (aa_cons (a_add (a_var 2) a_int) aa_nil))) aa_nil)) (ag_name 4 sc_law_graph.nd rfl (by first | exact Or.inl rfl | exact Or.inr rfl)) (as_cons (as_set 7 sc_law_graph.nd rfl (by first | exact Or.inl rfl | exact Or.inr rfl) (a_call G_law_take (hr.mono (by decide)) (by rfl) g_law_take k_law_take b_law_take (aa_cons (a_var 0) (aa_cons (a_sub (a_var 1) a_int) aa_nil))))
    (as_cons (as_set 8 sc_law_graph.nd rfl (by first | exact Or.inl rfl | exact Or.inr rfl) (a_add (a_add (a_var 7) a_int) (a_call G_law_take (hr.mono (by decide)) (by rfl) g_law_take k_law_take b_law_take (aa_cons (a_var 0) (aa_cons (a_sub (a_sub (a_var 1) a_int) (a_var 7)) aa_nil)))))
    (as_cons (as_if (at_cmp (op_eqP hr.units) bin_eq (a_var 5) a_int (nomark _)) (as_one (as_set 8 sc_law_graph.nd rfl (by first | exact Or.inl rfl | exact Or.inr rfl) (a_add (a_var 7) a_int))) as_nil)
    (as_cons (as_if (at_cmp (op_eqP hr.units) bin_eq (a_var 5) a_int (nomark _)) (as_one (as_set 7 sc_law_graph.nd rfl (by first | exact Or.inl rfl | exact Or.inr rfl) (a_callB (call_min2 rfl) (cal_mm (g := fun i j => if j < i then j else i)) (by rfl) z_min (by decide +kernel) (aa_cons (a_var 7) (aa_cons a_int aa_nil))))) as_nil)
    (as_one (as_expr (a_append (a_var 6) (a_tup (aa_cons (a_ix (a_var 3) (a_var 7)) (aa_cons (a_ix (a_var 3) (a_var 8)) aa_nil)))))))))))
    (as_cut (as_if (at_cmp op_ltU bin_lt (a_var 5) a_int (nomark _)) (as_one (as_for PassesOwn.never rfl (ai_range1 (by rfl) z_range (aa_cons (a_sub (a_var 1) a_int) aa_nil)) (ag_name 4 sc_law_graph.nd rfl (by first | exact Or.inl rfl | exact Or.inr rfl)) (as_one (as_expr (a_met PySem.F.plainAttrs_list PySem.F.slot_list_insert PySem.F.type_list_insert mt_insert met_ins (a_var 6) (aa_cons (a_call G_law_take (hr.mono (by decide)) (by rfl) g_law_take k_law_take b_law_take (aa_cons (a_var 0) (aa_cons (a_add (a_callB call_lenU cal_len (by rfl) z_len (by decide +kernel) (aa_cons (a_var 6) aa_nil)) a_int) aa_nil))) (aa_cons (a_tup (aa_cons (a_ix (a_var 3) (a_var 4)) (aa_cons (a_ix (a_var 3) (a_add (a_var 4) a_int)) aa_nil))) aa_nil))))))) as_nil)
    (as_one (as_ret (a_sl (a_var 6) ap_none (ap_some a_int)))))))))) (fun xs L q h => ?_)
  unfold sp_law_graph at h
  split at h
  · rename_i n m ds
    obtain ⟨hd, hn, hn', hm, hm', hq⟩ := h
    walk_at "g"
    refine ⟨fun i acc L => acc = (List.range i).map (fun (k : Nat) => PyData.int (k : Int)) ∧ L = [.dl ds], ⟨rfl, rfl⟩, fun _ _ _ _ _ => trivial, ?_, ?_⟩
    · rintro i x acc L' hx - ⟨rfl, rfl⟩
      obtain ⟨hi, rfl⟩ := range_at hx
      walk_at "v"
      exact Back0.mk [0] ⟨by rw [List.range_succ, List.map_append]; simp, rfl⟩
    · rintro acc L' - ⟨rfl, rfl⟩
      rw [range_len]
      generalize ho : (List.range n.toNat).map (fun (k : Nat) => PyData.int (k : Int)) = os0
      have hol : os0.length = n.toNat := by rw [← ho, List.length_map, List.length_range]
      walk_at "c"
      intro ds1 os hd1 hp
      have hdo : DR os := DR.perm (by rw [← ho]; intro d hd; obtain ⟨k, -, rfl⟩ := List.mem_map.mp hd; exact ⟨_, rfl⟩) hp
      have hl1 := hp.length_eq
      walk_at "c"
      intro sh ds2 hd2 hs0 hs1
      walk_at "c"
      intro m2 ds3 hd3 hm0 hm1
      walk_at "g"
      refine ⟨fun i δ L => ∃ ds es y4 y7 y8, DR ds ∧ (∀ e ∈ es, PairOf os e) ∧ es.length ≤ i ∧ δ = [some (.ref 0), some (.d (.int n)), some (.d (.int m)), some (.ref 2), y4, some (.d (.int sh)), some (.ref 3), y7, y8] ∧ L = [.dl ds, .dl os0, .dl os, .dl es],
        ⟨_, _, _, _, _, hd3, all_nil, Nat.zero_le _, rfl, rfl⟩, fun _ _ _ _ _ => trivial, ?_, ?_⟩
      · rintro i x δ' L' hx ⟨ds, es, y4, y7, y8, hd, he, hl, rfl, rfl⟩
        obtain ⟨hi, rfl⟩ := range_at hx
        walk_at "c"
        intro a ds4 hd4 ha0 ha1
        walk_at "c"
        intro b ds5 hd5 hb0 hb1
        walk_at "v"
        · obtain ⟨u, v, u1, v1, hp⟩ := pair_at hdo (i := (if 1 < a then 1 else a)) (j := a + 1) (by (try split) <;> omega) (by (try split) <;> omega) (by omega)
          refine ⟨_, u1, ?_⟩
          walk_at "g"
          refine ⟨_, v1, ?_⟩
          walk_at "g"
          exact Back.mk [0, 1, 2, 3] ⟨_, _, _, _, _, hd5, all_snoc he hp, by simp; omega, rfl, rfl⟩
        · obtain ⟨u, v, u1, v1, hp⟩ := pair_at hdo (i := a) (j := a + 1) (by (try split) <;> omega) (by (try split) <;> omega) (by omega)
          refine ⟨_, u1, ?_⟩
          walk_at "g"
          refine ⟨_, v1, ?_⟩
          walk_at "g"
          exact Back.mk [0, 1, 2, 3] ⟨_, _, _, _, _, hd5, all_snoc he hp, by simp; omega, rfl, rfl⟩
        · obtain ⟨u, v, u1, v1, hp⟩ := pair_at hdo (i := (if 1 < a then 1 else a)) (j := a + 1 + b) (by (try split) <;> omega) (by (try split) <;> omega) (by omega)
          refine ⟨_, u1, ?_⟩
          walk_at "g"
          refine ⟨_, v1, ?_⟩
          walk_at "g"
          exact Back.mk [0, 1, 2, 3] ⟨_, _, _, _, _, hd5, all_snoc he hp, by simp; omega, rfl, rfl⟩
        · obtain ⟨u, v, u1, v1, hp⟩ := pair_at hdo (i := a) (j := a + 1 + b) (by (try split) <;> omega) (by (try split) <;> omega) (by omega)
          refine ⟨_, u1, ?_⟩
          walk_at "g"
          refine ⟨_, v1, ?_⟩
          walk_at "g"
          exact Back.mk [0, 1, 2, 3] ⟨_, _, _, _, _, hd5, all_snoc he hp, by simp; omega, rfl, rfl⟩
      · rintro δ' L' ⟨ds, es, y4, y7, y8, hd, he, hl, rfl, rfl⟩
        simp at hl
        walk_at "g"
        refine ⟨fun δ' L' => ∃ ds es y4 y7 y8, DR ds ∧ (∀ e ∈ es, PairOf os e) ∧ es.length ≤ 3000 ∧ δ' = [some (.ref 0), some (.d (.int n)), some (.d (.int m)), some (.ref 2), y4, some (.d (.int sh)), some (.ref 3), y7, y8] ∧ L' = [.dl ds, .dl os0, .dl os, .dl es], ?_, ?_⟩
        · walk_at "v"
          · refine ⟨fun i δ L => ∃ ds es y4 y7 y8, DR ds ∧ (∀ e ∈ es, PairOf os e) ∧ es.length ≤ 1000 + i ∧ δ = [some (.ref 0), some (.d (.int n)), some (.d (.int m)), some (.ref 2), y4, some (.d (.int sh)), some (.ref 3), y7, y8] ∧ L = [.dl ds, .dl os0, .dl os, .dl es],
              ⟨_, es, _, _, _, hd, he, by omega, rfl, rfl⟩, fun _ _ _ _ _ => trivial, ?_, ?_⟩
            · rintro i x δ' L' hx ⟨ds, es, y4, y7, y8, hd, he, hl, rfl, rfl⟩
              obtain ⟨hi, rfl⟩ := range_at hx
              walk_at "c"
              intro a ds4 hd4 ha0 ha1
              obtain ⟨u, v, u1, v1, hp⟩ := pair_at hdo (i := 0 + (i : Int)) (j := 0 + (i : Int) + 1) (by omega) (by omega) (by omega)
              walk_at "g"
              refine ⟨_, u1, ?_⟩
              walk_at "g"
              refine ⟨_, v1, ?_⟩
              walk_at "g"
              exact Back.mk [0, 1, 2, 3] ⟨_, _, _, _, _, hd4, all_ins (a := a.toNat) (b := a.toNat) he hp, by simp; omega, rfl, rfl⟩
            · rintro δ' L' ⟨ds, es, y4, y7, y8, hd, he, hl, rfl, rfl⟩
              simp at hl
              walk_at "g"
              exact Back.mk [0, 1, 2, 3] ⟨_, es, _, _, _, hd, he, by omega, rfl, rfl⟩
          · exact Back.mk [0, 1, 2, 3] ⟨_, es, _, _, _, hd, he, by omega, rfl, rfl⟩
        · rintro δ' L' ⟨ds, es, y4, y7, y8, hd, he, hl, rfl, rfl⟩
          walk_at "g"
          obtain ⟨rest, hcp⟩ := cutD_perm es none (some 60)
          refine Exit.mk [0, 4] (hq _ os _ hd (ho ▸ hp) (fun e h => he e (hcp.subset (List.mem_append_left _ h))) ?_)
          unfold AB.cutD
          exact Nat.le_trans (List.length_take_le _ _) (by simp [HT.sIx]; omega)
  · exact h.elim
def sp_law_price : ASp := fun xs L q => match xs, L with
  | [.ref 0, .d (.int c)], [.dl ds] => DR ds ∧ ∀ r ds', DR ds' → q (.d (.int r)) [.dl ds']
  | _, _ => False
theorem len_law_price : ∀ xs L q, sp_law_price xs L q → xs.length = 2 := by
  unfold sp_law_price
  walk_at "l"
abbrev st_law_price : Stmt := topS 20
theorem sc_law_price : FnScope ["draws", "cell"] ["draws", "cell"] (defScope st_law_price) := ⟨rfl, rfl, rfl, by decide +kernel, rfl, by decide +kernel, by decide +kernel⟩
theorem ok_law_price {f : Addr} {fd : FuncData} (F : Fun K "_law_price" "_law_price" st_law_price f fd) {f_law_take : Addr} {fd_law_take : FuncData} (g_law_take : mg "_law_take" = some (.ref f_law_take)) (k_law_take : PySem.W.keepIn K (.ref f_law_take) = true) (b_law_take : Binds K fd_law_take ["draws", "many"] []) (G_law_take : FnOk P w K mg base CX0 1 f_law_take fd_law_take ["draws", "many"] (upF P w K sp_law_take)) : FnOk P w K mg base CX0 2 f fd ["draws", "cell"] (upF P w K sp_law_price) := by
  refine fn_ok F sc_law_price len_law_price (fun cdv A outer s H E hr => (as_one (as_ret (a_ix (a_lst (aa_cons a_int (aa_cons a_int (aa_cons (a_sub (a_call G_law_take (hr.mono (by decide)) (by rfl) g_law_take k_law_take b_law_take (aa_cons (a_var 0) (aa_cons a_int aa_nil))) a_int) (aa_cons (a_sub (a_call G_law_take (hr.mono (by decide)) (by rfl) g_law_take k_law_take b_law_take (aa_cons (a_var 0) (aa_cons a_int aa_nil))) a_int) (aa_cons (a_call G_law_take (hr.mono (by decide)) (by rfl) g_law_take k_law_take b_law_take (aa_cons (a_var 0) (aa_cons a_int aa_nil))) (aa_cons (a_var 1) aa_nil))))))) (a_call G_law_take (hr.mono (by decide)) (by rfl) g_law_take k_law_take b_law_take (aa_cons (a_var 0) (aa_cons a_int aa_nil))))))) (fun xs L q h => ?_)
  unfold sp_law_price at h
  split at h
  · rename_i c ds
    obtain ⟨hd, hq⟩ := h
    walk_at "c"
    intro r1 ds1 hd1 h10 h11
    walk_at "c"
    intro r2 ds2 hd2 h20 h21
    walk_at "c"
    intro r3 ds3 hd3 h30 h31
    walk_at "c"
    intro r4 ds4 hd4 h40 h41
    have hn : DR [PyData.int 1, PyData.int 5, PyData.int (r1 - 3), PyData.int (r2 - 3), PyData.int r3, PyData.int c] := DR.cons (DR.cons (DR.cons (DR.cons (DR.cons (DR.cons DR.nil)))))
    obtain ⟨n, -, e⟩ := hn.atI h40 h41
    walk_at "g"
    refine ⟨_, e, ?_⟩
    walk_at "g"
    exact Exit.mk [0] (hq _ _ hd4)
  · exact h.elim
def CsOf (cs : List D) : Prop := ∀ d ∈ cs, ∃ a b p : Int, d = .tuple [.int a, .int b, .int p]
def sp_law_sides : ASp := fun xs L q => match xs, L with
  | [.ref 0, .d (.int h)], [.dl cs] => CsOf cs ∧ cs.length ≤ 100 ∧ ∀ bs ss, DR bs → DR ss → bs.length ≤ 100 → ss.length ≤ 100 → q (.ref 1) [.dl cs, .rl [2, 3], .dl bs, .dl ss]
  | _, _ => False
theorem len_law_sides : ∀ xs L q, sp_law_sides xs L q → xs.length = 2 := by
  unfold sp_law_sides
  walk_at "l"
abbrev st_law_sides : Stmt := topS 21
theorem sc_law_sides : FnScope ["contracts", "house", "numbers", "k"] ["contracts", "house"] (defScope st_law_sides) := ⟨rfl, rfl, rfl, by decide +kernel, rfl, by decide +kernel, by decide +kernel⟩
theorem ok_law_sides {f : Addr} {fd : FuncData} (F : Fun K "_law_sides" "_law_sides" st_law_sides f fd) (z_range : mg "range" = none) (z_len : mg "len" = none) : FnOk P w K mg base CX0 1 f fd ["contracts", "house"] (upF P w K sp_law_sides) := by
  refine fn_ok F sc_law_sides len_law_sides (fun cdv A outer s H E hr => (as_cons (as_setLc 2 [("k", 3)] rfl sc_law_sides.nd rfl rfl (sw_true rfl rfl rfl (by decide +kernel)) (ai_range1 (by rfl) z_range (aa_cons (a_callB call_lenU cal_len (by rfl) z_len (by decide +kernel) (aa_cons (a_var 0) aa_nil)) aa_nil)) (blkOk_by (own := [("k", 3)]) (N := ["contracts", "house", "numbers", "k"]) (sc := defScope st_law_sides) (by decide +kernel)) (fun _ _ _ _ _ => (ag_name 3 sc_law_sides.nd rfl (by first | exact Or.inl rfl | exact Or.inr rfl))) (fun _ _ _ _ _ => ats_nil) (fun _ _ _ _ _ => (a_var 3)))
    (as_one (as_ret (a_rst (aa_cons (a_lc [("k", 3)] rfl sc_law_sides.nd (ai_seq (a_var 2)) (blkOk_by (own := [("k", 3)]) (N := ["contracts", "house", "numbers", "k"]) (sc := defScope st_law_sides) (by decide +kernel)) (fun _ _ _ _ _ => (ag_name 3 sc_law_sides.nd rfl (by first | exact Or.inl rfl | exact Or.inr rfl))) (fun _ _ _ _ _ => (ats_one (at_cmp (op_eqP hr.units) bin_eq (a_ix (a_ix (a_var 0) (a_var 3)) a_int) (a_var 1) (nomark _)))) (fun _ _ _ _ _ => (a_var 3))) (aa_cons (a_lc [("k", 3)] rfl sc_law_sides.nd (ai_seq (a_var 2)) (blkOk_by (own := [("k", 3)]) (N := ["contracts", "house", "numbers", "k"]) (sc := defScope st_law_sides) (by decide +kernel)) (fun _ _ _ _ _ => (ag_name 3 sc_law_sides.nd rfl (by first | exact Or.inl rfl | exact Or.inr rfl))) (fun _ _ _ _ _ => (ats_one (at_cmp (op_eqP hr.units) bin_eq (a_ix (a_ix (a_var 0) (a_var 3)) a_int) (a_var 1) (nomark _)))) (fun _ _ _ _ _ => (a_var 3))) aa_nil))))))) (fun xs L q h => ?_)
  unfold sp_law_sides at h
  split at h
  · rename_i hh cs
    obtain ⟨hc, hl, hq⟩ := h
    walk_at "g"
    refine ⟨fun i acc L => acc = (List.range i).map (fun (k : Nat) => PyData.int (k : Int)) ∧ L = [.dl cs], ⟨rfl, rfl⟩, fun _ _ _ _ _ => trivial, ?_, ?_⟩
    · rintro i x acc L' hx - ⟨rfl, rfl⟩
      obtain ⟨hi, rfl⟩ := range_at hx
      walk_at "v"
      exact Back0.mk [0] ⟨by rw [List.range_succ, List.map_append]; simp, rfl⟩
    · rintro acc L' - ⟨rfl, rfl⟩
      rw [range_len]
      generalize hnd : (List.range ((cs.length : Int)).toNat).map (fun (k : Nat) => PyData.int (k : Int)) = nums
      have hnl : nums.length = cs.length := by rw [← hnd, List.length_map, List.length_range]; omega
      have hnm : ∀ d ∈ nums, ∃ k : Nat, d = .int (k : Int) ∧ k < cs.length := by
        rw [← hnd]
        intro d hd
        obtain ⟨k, hk, rfl⟩ := List.mem_map.mp hd
        exact ⟨k, rfl, by have := List.mem_range.mp hk; omega⟩
      walk_at "g"
      refine ⟨fun i acc L => DR acc ∧ acc.length ≤ i ∧ L = [.dl cs, .dl nums], ⟨DR.nil, Nat.zero_le _, rfl⟩, ?_, ?_, ?_⟩
      · rintro i acc L' - ⟨-, -, rfl⟩
        rfl
      · rintro i x acc L' hx - ⟨hd, hl2, rfl⟩
        obtain ⟨d, hx1, rfl⟩ := d_at hx
        obtain ⟨k, rfl, hk⟩ := hnm d (List.mem_of_getElem? hx1)
        obtain ⟨_, e, a, b, p, rfl⟩ := atI_all hc (i := (k : Int)) (by omega) (by omega)
        walk_at "g"
        refine ⟨_, e, ?_⟩
        walk_at "g"
        refine ⟨_, rfl, ?_⟩
        walk_at "v"
        · exact Back0.mk [0, 1] ⟨hd.snoc, by simp; omega, rfl⟩
        · exact Back0.mk [0, 1] ⟨hd, by omega, rfl⟩
      rintro bs L' hbl0 ⟨hb, hbl, rfl⟩
      walk_at "g"
      refine ⟨fun i acc L => DR acc ∧ acc.length ≤ i ∧ L = [.dl cs, .dl nums, .dl bs], ⟨DR.nil, Nat.zero_le _, rfl⟩, ?_, ?_, ?_⟩
      · rintro i acc L' - ⟨-, -, rfl⟩
        rfl
      · rintro i x acc L' hx - ⟨hd, hl2, rfl⟩
        obtain ⟨d, hx1, rfl⟩ := d_at hx
        obtain ⟨k, rfl, hk⟩ := hnm d (List.mem_of_getElem? hx1)
        obtain ⟨_, e, a, b, p, rfl⟩ := atI_all hc (i := (k : Int)) (by omega) (by omega)
        walk_at "g"
        refine ⟨_, e, ?_⟩
        walk_at "g"
        refine ⟨_, rfl, ?_⟩
        walk_at "v"
        · exact Back0.mk [0, 1, 2] ⟨hd.snoc, by simp; omega, rfl⟩
        · exact Back0.mk [0, 1, 2] ⟨hd, by omega, rfl⟩
      rintro ss L' hsl0 ⟨hs, hsl, rfl⟩
      rw [List.length_map] at hbl hsl
      walk_at "g"
      exact Exit.mk [0, 4, 2, 3] (hq _ _ hb hs (by omega) (by omega))
  · exact h.elim
def sp_law_sizes : ASp := fun xs L q => match xs, L with
  | [.ref 0], [.dl ds] => DR ds ∧ ∀ a b ds', DR ds' → 3 ≤ a → a ≤ 30 → 4 ≤ b → b ≤ 60 → q (.ref 1) [.dl ds', .dl [.int a, .int b]]
  | _, _ => False
theorem len_law_sizes : ∀ xs L q, sp_law_sizes xs L q → xs.length = 1 := by
  unfold sp_law_sizes
  walk_at "l"
abbrev st_law_sizes : Stmt := topS 23
theorem sc_law_sizes : FnScope ["draws"] ["draws"] (defScope st_law_sizes) := ⟨rfl, rfl, rfl, by decide +kernel, rfl, by decide +kernel, by decide +kernel⟩
theorem ok_law_sizes {f : Addr} {fd : FuncData} (F : Fun K "_law_sizes" "_law_sizes" st_law_sizes f fd) {f_law_take : Addr} {fd_law_take : FuncData} (g_law_take : mg "_law_take" = some (.ref f_law_take)) (k_law_take : PySem.W.keepIn K (.ref f_law_take) = true) (b_law_take : Binds K fd_law_take ["draws", "many"] []) (G_law_take : FnOk P w K mg base CX0 1 f_law_take fd_law_take ["draws", "many"] (upF P w K sp_law_take)) : FnOk P w K mg base CX0 2 f fd ["draws"] (upF P w K sp_law_sizes) := by
  refine fn_ok F sc_law_sizes len_law_sizes (fun cdv A outer s H E hr => (as_one (as_ret (a_ix (a_rst (aa_cons (a_lst (aa_cons a_int (aa_cons a_int aa_nil))) (aa_cons (a_lst (aa_cons a_int (aa_cons a_int aa_nil))) (aa_cons (a_lst (aa_cons a_int (aa_cons a_int aa_nil))) (aa_cons (a_lst (aa_cons a_int (aa_cons a_int aa_nil))) (aa_cons (a_lst (aa_cons a_int (aa_cons a_int aa_nil))) (aa_cons (a_lst (aa_cons a_int (aa_cons a_int aa_nil))) (aa_cons (a_lst (aa_cons a_int (aa_cons a_int aa_nil))) (aa_cons (a_lst (aa_cons a_int (aa_cons a_int aa_nil))) (aa_cons (a_lst (aa_cons a_int (aa_cons a_int aa_nil))) (aa_cons (a_lst (aa_cons a_int (aa_cons a_int aa_nil))) aa_nil))))))))))) (a_call G_law_take (hr.mono (by decide)) (by rfl) g_law_take k_law_take b_law_take (aa_cons (a_var 0) (aa_cons a_int aa_nil))))))) (fun xs L q h => ?_)
  unfold sp_law_sizes at h
  split at h
  · rename_i ds
    obtain ⟨hd, hq⟩ := h
    walk_at "c"
    intro r ds' hd' h0 h1
    walk_at "g"
    have hr : r = 0 ∨ r = 1 ∨ r = 2 ∨ r = 3 ∨ r = 4 ∨ r = 5 ∨ r = 6 ∨ r = 7 ∨ r = 8 ∨ r = 9 := by omega
    rcases hr with rfl | rfl | rfl | rfl | rfl | rfl | rfl | rfl | rfl | rfl
    all_goals
      refine ⟨_, rfl, ?_⟩
      walk_at "g"
    · exact Exit.mk [0, 1] (hq 3 4 _ hd' (by decide) (by decide) (by decide) (by decide))
    · exact Exit.mk [0, 2] (hq 4 6 _ hd' (by decide) (by decide) (by decide) (by decide))
    · exact Exit.mk [0, 3] (hq 5 8 _ hd' (by decide) (by decide) (by decide) (by decide))
    · exact Exit.mk [0, 4] (hq 6 9 _ hd' (by decide) (by decide) (by decide) (by decide))
    · exact Exit.mk [0, 5] (hq 5 8 _ hd' (by decide) (by decide) (by decide) (by decide))
    · exact Exit.mk [0, 6] (hq 6 9 _ hd' (by decide) (by decide) (by decide) (by decide))
    · exact Exit.mk [0, 7] (hq 7 10 _ hd' (by decide) (by decide) (by decide) (by decide))
    · exact Exit.mk [0, 8] (hq 7 10 _ hd' (by decide) (by decide) (by decide) (by decide))
    · exact Exit.mk [0, 9] (hq 4 12 _ hd' (by decide) (by decide) (by decide) (by decide))
    · exact Exit.mk [0, 10] (hq 30 60 _ hd' (by decide) (by decide) (by decide) (by decide))
  · exact h.elim
end
end T


set_option Elab.async false
set_option linter.all false
set_option maxRecDepth 100000
set_option maxHeartbeats 4000000
namespace T
open PySem L2 AB PyProof.Rows
local macro_rules | `(tactic| walk_at "w") => `(tactic| (conv => whnf))
local macro_rules | `(tactic| walk_at "s") => `(tactic| first | assumption | omega | (simp only [List.length_map, range_len, rangeC_len, Int.toNat_natCast]; omega) | rfl | decide | (show (0 : Int) < _; first | decide | omega) | (refine And.intro ?_ ?_ <;> first | decide | omega) | (refine And.intro ?_ (And.intro ?_ ?_) <;> first | decide | omega) | (rw [sizeLine_eq]; omega) | (rw [sizeLine_eq]; simp; done) | (rw [sizeLine_eq]; simp; omega) | (refine Or.inr ?_; decide) | (refine Or.inl ?_; decide) | (refine Or.inl (And.intro ?_ ?_) <;> omega) | (refine Or.inr (And.intro ?_ ?_) <;> omega))
local macro_rules | `(tactic| walk_at "g") => `(tactic| (walk_at "w"; repeat (refine And.intro (by walk_at "s") ?_; walk_at "w")))
local macro_rules | `(tactic| walk_at "l") => `(tactic| (intro xs L q h; (split at h <;> first | rfl | exact h.elim)))
local macro_rules | `(tactic| walk_at "c") => `(tactic| (walk_at "g"; refine call_go ?_; walk_at "g"))
local macro_rules | `(tactic| walk_at "b") => `(tactic| first | refine And.intro (fun (z : false = true) => by cases z) (fun (_ : false = false) => ?_) | refine And.intro (fun (_ : true = true) => ?_) (fun (z : true = false) => by cases z) | refine And.intro (fun (z : decide _ = true) => (fun _ => ?_) (of_decide_eq_true z)) (fun (z : decide _ = false) => (fun _ => ?_) (of_decide_eq_false z)) | refine And.intro (fun (_ : _ = true) => ?_) (fun (_ : _ = false) => ?_) | fail)
local macro_rules | `(tactic| walk_at "v") => `(tactic| (walk_at "g"; repeat' (walk_at "b" <;> walk_at "g")))

section
variable {P : Program} {w : World} {K : PySem.W.Frag} {mg : Str → Option Value} {base : Heap}
def sp_law_web : ASp := fun xs L q => match xs, L with
  | [.ref 0, .d (.int c), .ref 1, .d (.int t)], [.dl ds, .dl [.int a, .int b]] => DR ds ∧ 3 ≤ a ∧ a ≤ 30 ∧ 4 ≤ b ∧ b ≤ 60 ∧ ∀ ds' hs cs, DR ds' → CsOf cs → cs.length ≤ 60 → hs.length ≤ 30 → q (.d (.tuple [.tuple hs, .tuple cs])) [.dl ds', .dl [.int a, .int b]]
  | _, _ => False
theorem len_law_web : ∀ xs L q, sp_law_web xs L q → xs.length = 4 := by
  unfold sp_law_web
  walk_at "l"
abbrev st_law_web : Stmt := topS 22
theorem sc_law_web : FnScope ["draws", "cell", "sizes", "tables", "count", "contracts", "pair", "names", "houses", "k", "sides"] ["draws", "cell", "sizes", "tables"] (defScope st_law_web) := ⟨rfl, rfl, rfl, by decide +kernel, rfl, by decide +kernel, by decide +kernel⟩
theorem ok_law_web {f : Addr} {fd : FuncData} (F : Fun K "_law_web" "_law_web" st_law_web f fd) {f_law_names : Addr} {fd_law_names : FuncData} (g_law_names : mg "_law_names" = some (.ref f_law_names)) (k_law_names : PySem.W.keepIn K (.ref f_law_names) = true) (b_law_names : Binds K fd_law_names ["draws", "many"] []) (G_law_names : FnOk P w K mg base CX0 3 f_law_names fd_law_names ["draws", "many"] (upF P w K sp_law_names)) {f_law_take : Addr} {fd_law_take : FuncData} (g_law_take : mg "_law_take" = some (.ref f_law_take)) (k_law_take : PySem.W.keepIn K (.ref f_law_take) = true) (b_law_take : Binds K fd_law_take ["draws", "many"] []) (G_law_take : FnOk P w K mg base CX0 1 f_law_take fd_law_take ["draws", "many"] (upF P w K sp_law_take)) {f_law_sides : Addr} {fd_law_sides : FuncData} (g_law_sides : mg "_law_sides" = some (.ref f_law_sides)) (k_law_sides : PySem.W.keepIn K (.ref f_law_sides) = true) (b_law_sides : Binds K fd_law_sides ["contracts", "house"] []) (G_law_sides : FnOk P w K mg base CX0 1 f_law_sides fd_law_sides ["contracts", "house"] (upF P w K sp_law_sides)) {f_law_graph : Addr} {fd_law_graph : FuncData} (g_law_graph : mg "_law_graph" = some (.ref f_law_graph)) (k_law_graph : PySem.W.keepIn K (.ref f_law_graph) = true) (b_law_graph : Binds K fd_law_graph ["draws", "count", "most"] []) (G_law_graph : FnOk P w K mg base CX0 3 f_law_graph fd_law_graph ["draws", "count", "most"] (upF P w K sp_law_graph)) {f_law_price : Addr} {fd_law_price : FuncData} (g_law_price : mg "_law_price" = some (.ref f_law_price)) (k_law_price : PySem.W.keepIn K (.ref f_law_price) = true) (b_law_price : Binds K fd_law_price ["draws", "cell"] []) (G_law_price : FnOk P w K mg base CX0 2 f_law_price fd_law_price ["draws", "cell"] (upF P w K sp_law_price)) {f_law_choice : Addr} {fd_law_choice : FuncData} (g_law_choice : mg "_law_choice" = some (.ref f_law_choice)) (k_law_choice : PySem.W.keepIn K (.ref f_law_choice) = true) (b_law_choice : Binds K fd_law_choice ["draws", "buys", "sells", "cell", "tables"] []) (G_law_choice : FnOk P w K mg base CX0 6 f_law_choice fd_law_choice ["draws", "buys", "sells", "cell", "tables"] (upF P w K sp_law_choice)) (z_range : mg "range" = none) (z_tuple : mg "tuple" = none) : FnOk P w K mg base CX0 7 f fd ["draws", "cell", "sizes", "tables"] (upF P w K sp_law_web) := by
  refine fn_ok F sc_law_web len_law_web (fun cdv A outer s H E hr => (as_cons (as_set 4 sc_law_web.nd rfl (by first | exact Or.inl rfl | exact Or.inr rfl) (a_add a_int (a_call G_law_take (hr.mono (by decide)) (by rfl) g_law_take k_law_take b_law_take (aa_cons (a_var 0) (aa_cons (a_sub (a_ix (a_var 2) a_int) a_int) aa_nil)))))
    (as_cons (as_setLc 5 [("pair", 6)] rfl sc_law_web.nd rfl rfl (sw_true rfl rfl rfl (by decide +kernel)) (ai_seq (a_call G_law_graph (hr.mono (by decide)) (by rfl) g_law_graph k_law_graph b_law_graph (aa_cons (a_var 0) (aa_cons (a_var 4) (aa_cons (a_ix (a_var 2) a_int) aa_nil))))) (blkOk_by (own := [("pair", 6)]) (N := ["draws", "cell", "sizes", "tables", "count", "contracts", "pair", "names", "houses", "k", "sides"]) (sc := defScope st_law_web) (by decide +kernel)) (fun _ _ _ _ _ => (ag_name 6 sc_law_web.nd rfl (by first | exact Or.inl rfl | exact Or.inr rfl))) (fun _ _ _ _ _ => ats_nil) (fun _ _ _ _ _ => (a_add (a_var 6) (a_tup (aa_cons (a_call G_law_price (hr.mono (by decide)) (by rfl) g_law_price k_law_price b_law_price (aa_cons (a_var 0) (aa_cons (a_var 1) aa_nil))) aa_nil)))))
    (as_cons (as_set 7 sc_law_web.nd rfl (by first | exact Or.inl rfl | exact Or.inr rfl) (a_call G_law_names (hr.mono (by decide)) (by rfl) g_law_names k_law_names b_law_names (aa_cons (a_var 0) (aa_cons (a_var 4) aa_nil))))
    (as_cons (as_set 8 sc_law_web.nd rfl (by first | exact Or.inl rfl | exact Or.inr rfl) (a_lst aa_nil))
    (as_cons (as_for PassesOwn.never rfl (ai_range1 (by rfl) z_range (aa_cons (a_var 4) aa_nil)) (ag_name 9 sc_law_web.nd rfl (by first | exact Or.inl rfl | exact Or.inr rfl)) (as_cons (as_set 10 sc_law_web.nd rfl (by first | exact Or.inl rfl | exact Or.inr rfl) (a_call G_law_sides (hr.mono (by decide)) (by rfl) g_law_sides k_law_sides b_law_sides (aa_cons (a_var 5) (aa_cons (a_var 9) aa_nil))))
    (as_one (as_expr (a_append (a_var 8) (a_tup (aa_cons (a_ix (a_var 7) (a_var 9)) (aa_cons (a_call G_law_choice (hr.mono (by decide)) (by rfl) g_law_choice k_law_choice b_law_choice (aa_cons (a_var 0) (aa_cons (a_ix (a_var 10) a_int) (aa_cons (a_ix (a_var 10) a_int) (aa_cons (a_var 1) (aa_cons (a_var 3) aa_nil)))))) aa_nil))))))))
    (as_one (as_ret (a_tup (aa_cons (a_callTy call_tuple_of cal_tuple (by rfl) z_tuple (by decide +kernel) (aa_cons (a_var 8) aa_nil)) (aa_cons (a_callTy call_tuple_of cal_tuple (by rfl) z_tuple (by decide +kernel) (aa_cons (a_var 5) aa_nil)) aa_nil))))))))))) (fun xs L q h => ?_)
  unfold sp_law_web at h
  split at h
  · rename_i c t ds a b
    obtain ⟨hd, ha, ha', hb, hb', hq⟩ := h
    walk_at "g"
    refine ⟨_, rfl, ?_⟩
    walk_at "c"
    intro r ds1 hd1 h0 h1
    walk_at "g"
    refine ⟨_, rfl, ?_⟩
    walk_at "c"
    intro ds2 os es hd2 hos hes hel
    walk_at "g"
    refine ⟨fun i acc L => ∃ ds, DR ds ∧ CsOf acc ∧ acc.length ≤ i ∧ L = [.dl ds, .dl [.int a, .int b], .dl es], ⟨_, hd2, all_nil, Nat.zero_le _, rfl⟩, ?_, ?_, ?_⟩
    · rintro i acc L' - ⟨ds, -, -, -, rfl⟩
      rfl
    · rintro i x acc L' hx - ⟨ds, hd, hc, hl, rfl⟩
      obtain ⟨d, hx1, rfl⟩ := d_at hx
      obtain ⟨_, _, u, v, -, -, -, rfl⟩ := hes d (List.mem_of_getElem? hx1)
      walk_at "v"
      refine call_go ?_
      walk_at "g"
      intro p ds3 hd3
      walk_at "g"
      exact Back0.mk [0, 1, 2] ⟨_, hd3, all_snoc hc ⟨_, _, _, rfl⟩, by simp; omega, rfl⟩
    · rintro cs L' - ⟨ds, hd, hc, hl, rfl⟩
      rw [List.length_map] at hl
      walk_at "c"
      intro ds3 ns hd3 hn hnl
      walk_at "g"
      refine ⟨fun i δ L => ∃ ds hh y7 y8, DR ds ∧ hh.length ≤ i ∧ δ = [some (.ref 0), some (.d (.int c)), some (.ref 1), some (.d (.int t)), some (.d (.int (2 + r))), some (.ref 3), none, some (.ref 4), some (.ref 5), y7, y8] ∧ L = [.dl ds, .dl [.int a, .int b], .dl es, .dl cs, .dl ns, .dl hh],
        ⟨_, _, _, _, hd3, Nat.zero_le _, rfl, rfl⟩, fun _ _ _ _ _ => trivial, ?_, ?_⟩
      · rintro i x δ' L' hx ⟨ds, hh, y7, y8, hd, hl, rfl, rfl⟩
        obtain ⟨hi, rfl⟩ := range_at hx
        walk_at "c"
        intro bs ss hb hs hbl hsl
        obtain ⟨s, e, hsl2⟩ := DS.atI hn (i := 0 + (i : Int)) (by omega) (by omega)
        walk_at "g"
        refine ⟨_, e, ?_⟩
        walk_at "g"
        refine ⟨_, rfl, ?_⟩
        walk_at "g"
        refine ⟨_, rfl, ?_⟩
        walk_at "c"
        intro ds4 d hd4 hc
        walk_at "g"
        exact Back.mk [0, 1, 2, 3, 4, 5] ⟨_, hh ++ [_], _, _, hd4, by simp; omega, rfl, rfl⟩
      · rintro δ' L' ⟨ds, hh, y7, y8, hd, hl, rfl, rfl⟩
        simp only [range_len] at hl
        walk_at "g"
        exact Exit.mk [0, 1] (hq _ hh cs hd hc (by omega) (by omega))
  · exact h.elim
end
end T


set_option Elab.async false
set_option linter.all false
set_option maxRecDepth 100000
set_option maxHeartbeats 4000000
namespace T
open PySem L2 AB PyProof.Rows
local macro_rules | `(tactic| walk_at "w") => `(tactic| (conv => whnf))
local macro_rules | `(tactic| walk_at "s") => `(tactic| first | assumption | omega | (simp only [List.length_map, range_len, rangeC_len, Int.toNat_natCast]; omega) | rfl | decide | (show (0 : Int) < _; first | decide | omega) | (refine And.intro ?_ ?_ <;> first | decide | omega) | (refine And.intro ?_ (And.intro ?_ ?_) <;> first | decide | omega) | (rw [sizeLine_eq]; omega) | (rw [sizeLine_eq]; simp; done) | (rw [sizeLine_eq]; simp; omega) | (refine Or.inr ?_; decide) | (refine Or.inl ?_; decide) | (refine Or.inl (And.intro ?_ ?_) <;> omega) | (refine Or.inr (And.intro ?_ ?_) <;> omega))
local macro_rules | `(tactic| walk_at "g") => `(tactic| (walk_at "w"; repeat (refine And.intro (by walk_at "s") ?_; walk_at "w")))
local macro_rules | `(tactic| walk_at "l") => `(tactic| (intro xs L q h; (split at h <;> first | rfl | exact h.elim)))
local macro_rules | `(tactic| walk_at "c") => `(tactic| (walk_at "g"; refine call_go ?_; walk_at "g"))
local macro_rules | `(tactic| walk_at "b") => `(tactic| first | refine And.intro (fun (z : false = true) => by cases z) (fun (_ : false = false) => ?_) | refine And.intro (fun (_ : true = true) => ?_) (fun (z : true = false) => by cases z) | refine And.intro (fun (z : decide _ = true) => (fun _ => ?_) (of_decide_eq_true z)) (fun (z : decide _ = false) => (fun _ => ?_) (of_decide_eq_false z)) | refine And.intro (fun (_ : _ = true) => ?_) (fun (_ : _ = false) => ?_) | fail)
local macro_rules | `(tactic| walk_at "v") => `(tactic| (walk_at "g"; repeat' (walk_at "b" <;> walk_at "g")))

section
variable {P : Program} {w : World} {K : PySem.W.Frag} {mg : Str → Option Value} {base : Heap}
/-- the shares, in the ledger -/
def Shp (L : List AO) (ks : List Nat) (nb nn : Nat) : Prop := ∀ k ∈ ks, 4 ≤ k ∧ ∃ a b x y, L[k]? = some (.rl [a, b]) ∧ 4 ≤ a ∧ L[a]? = some (.dl x) ∧ DR x ∧ x.length ≤ nb ∧ 4 ≤ b ∧ L[b]? = some (.dl y) ∧ DR y ∧ y.length ≤ nn ∧ a ≠ b
def Hd (bs ss : List D) (L : List AO) : Prop := (∃ ds, L[0]? = some (.dl ds) ∧ DR ds) ∧ L[1]? = some (.dl bs) ∧ L[2]? = some (.dl ss) ∧ 4 ≤ L.length
theorem gapp {L M : List AO} {k : Nat} {o : AO} (h : L[k]? = some o) : (L ++ M)[k]? = some o := by
  rw [List.getElem?_append_left (List.getElem?_eq_some_iff.mp h).1]; exact h
theorem Shp.app {L M : List AO} {ks : List Nat} {nb nn : Nat} (h : Shp L ks nb nn) : Shp (L ++ M) ks nb nn := fun k hk => by
  obtain ⟨h0, a, b, x, y, h1, h2, h3, h4, h5, h6, h7, h8, h9, h10⟩ := h k hk
  exact ⟨h0, a, b, x, y, gapp h1, h2, gapp h3, h4, h5, h6, gapp h7, h8, h9, h10⟩
theorem Hd.app {bs ss : List D} {L M : List AO} (h : Hd bs ss L) : Hd bs ss (L ++ M) := by
  obtain ⟨⟨ds, h1, h2⟩, h3, h4, h5⟩ := h
  exact ⟨⟨ds, gapp h1, h2⟩, gapp h3, gapp h4, by rw [List.length_append]; omega⟩
theorem glast {L : List AO} {o : AO} : (L ++ [o])[L.length]? = some o := by simp
theorem Shp.new {bs ss : List D} {L : List AO} {ks : List Nat} (hh : Hd bs ss L) (h : Shp L ks 0 0) : Shp (L ++ [AO.dl []] ++ [AO.dl []] ++ [.rl [L.length, (L ++ [AO.dl []]).length]]) (ks ++ [(L ++ [AO.dl []] ++ [AO.dl []]).length]) 0 0 := fun k hk => by
  rcases List.mem_append.mp hk with h1 | h1
  · exact h.app.app.app k h1
  · rw [List.mem_singleton.mp h1]
    have := hh.2.2.2
    refine ⟨by simp; omega, _, _, [], [], glast, this, gapp (gapp glast), DR.nil, Nat.le_refl _, by simp; omega, gapp glast, DR.nil, Nat.le_refl _, by simp⟩
theorem gset {L : List AO} {k j : Nat} {o o' : AO} (h : L[j]? = some o) (n : k ≠ j) : (L.set k o')[j]? = some o := by
  rw [List.getElem?_set_ne n]; exact h
theorem gset_self {L : List AO} {k : Nat} {o o' : AO} (h : L[k]? = some o) : (L.set k o')[k]? = some o' := by
  rw [List.getElem?_set_self (List.getElem?_eq_some_iff.mp h).1]
theorem Shp.set0 {L : List AO} {ks : List Nat} {nb nn : Nat} {o : AO} (h : Shp L ks nb nn) : Shp (L.set 0 o) ks nb nn := fun k hk => by
  obtain ⟨h0, a, b, x, y, h1, h2, h3, h4, h5, h6, h7, h8, h9, h10⟩ := h k hk
  exact ⟨h0, a, b, x, y, gset h1 (by omega), h2, gset h3 (by omega), h4, h5, h6, gset h7 (by omega), h8, h9, h10⟩
theorem Hd.set0 {bs ss : List D} {L : List AO} {ds : List D} (h : Hd bs ss L) (hd : DR ds) : Hd bs ss (L.set 0 (.dl ds)) := by
  obtain ⟨⟨ds0, h1, h2⟩, h3, h4, h5⟩ := h
  exact ⟨⟨ds, gset_self h1, hd⟩, gset h3 (by omega), gset h4 (by omega), by rw [List.length_set]; omega⟩
theorem Shp.mono {L : List AO} {ks : List Nat} {nb nn nb' nn' : Nat} (h : Shp L ks nb nn) (u : nb ≤ nb') (v : nn ≤ nn') : Shp L ks nb' nn' := fun k hk => by
  obtain ⟨h0, a, b, x, y, h1, h2, h3, h4, h5, h6, h7, h8, h9, h10⟩ := h k hk
  exact ⟨h0, a, b, x, y, h1, h2, h3, h4, by omega, h6, h7, h8, by omega, h10⟩
theorem ne_at {L : List AO} {k j : Nat} {ks : List Nat} {ds : List D} (h : L[k]? = some (.rl ks)) (g : L[j]? = some (.dl ds)) : k ≠ j := fun e => by
  rw [e, g] at h; cases h
theorem at_lt {L : List AO} {k : Nat} {o : AO} (h : L[k]? = some o) : k < L.length := (List.getElem?_eq_some_iff.mp h).1
theorem Shp.st0 {L : List AO} {ks : List Nat} {nb nn k a b : Nat} {x y one : List D} {i : Int} (h : Shp L ks nb nn) (hk : L[k]? = some (.rl [a, b])) (hk4 : 4 ≤ k) (hx : DR x) (hxl : x.length ≤ nb) (hb4 : 4 ≤ b) (hb : L[b]? = some (.dl y)) (hy : DR y) (hyl : y.length ≤ nn) (h4 : 4 ≤ L.length) :
    Shp ((L ++ [AO.dl one] ++ [AO.dl (x ++ [.int i])]).set k (.rl [(L ++ [AO.dl one]).length, b])) ks (nb + 1) nn := fun k' hk' => by
  obtain ⟨h0, a', b', x', y', h1, h2, h3, h4', h5, h6, h7, h8, h9, h10⟩ := h k' hk'
  by_cases e : k' = k
  · subst e
    have l1 := at_lt hk
    have l2 := at_lt hb
    exact ⟨h0, _, b, _, y, gset_self (gapp (gapp hk)), by simp; omega, gset glast (by simp; omega), hx.snoc, by simp; omega, hb4, gset (gapp (gapp hb)) (ne_at hk hb), hy, hyl, by simp; omega⟩
  · exact ⟨h0, a', b', x', y', gset (gapp (gapp h1)) (fun e' => e e'.symm), h2, gset (gapp (gapp h3)) (ne_at hk h3), h4', by omega, h6, gset (gapp (gapp h7)) (ne_at hk h7), h8, h9, h10⟩
theorem Shp.st1 {L : List AO} {ks : List Nat} {nb nn k a b : Nat} {x y one : List D} {i : Int} (h : Shp L ks nb nn) (hk : L[k]? = some (.rl [a, b])) (hk4 : 4 ≤ k) (hy : DR y) (hyl : y.length ≤ nn) (ha4 : 4 ≤ a) (ha : L[a]? = some (.dl x)) (hx : DR x) (hxl : x.length ≤ nb) (h4 : 4 ≤ L.length) :
    Shp ((L ++ [AO.dl one] ++ [AO.dl (y ++ [.int i])]).set k (.rl [a, (L ++ [AO.dl one]).length])) ks nb (nn + 1) := fun k' hk' => by
  obtain ⟨h0, a', b', x', y', h1, h2, h3, h4', h5, h6, h7, h8, h9, h10⟩ := h k' hk'
  by_cases e : k' = k
  · subst e
    have l1 := at_lt hk
    have l2 := at_lt ha
    exact ⟨h0, a, _, x, _, gset_self (gapp (gapp hk)), ha4, gset (gapp (gapp ha)) (ne_at hk ha), hx, hxl, by simp; omega, gset glast (by simp; omega), hy.snoc, by simp; omega, by simp; omega⟩
  · exact ⟨h0, a', b', x', y', gset (gapp (gapp h1)) (fun e' => e e'.symm), h2, gset (gapp (gapp h3)) (ne_at hk h3), h4', h5, h6, gset (gapp (gapp h7)) (ne_at hk h7), h8, by omega, h10⟩
theorem Hd.setk {bs ss : List D} {L : List AO} {o : AO} {k : Nat} (h : Hd bs ss L) (hk : 4 ≤ k) : Hd bs ss (L.set k o) := by
  obtain ⟨⟨ds0, h1, h2⟩, h3, h4, h5⟩ := h
  exact ⟨⟨ds0, gset h1 (by omega), h2⟩, gset h3 (by omega), gset h4 (by omega), by rw [List.length_set]; omega⟩
theorem take_go {L : List AO} {ds : List D} {m : Int} {Q : WK} (h : L[0]? = some (.dl ds)) (hd : DR ds) (hm : 0 < m) (k : ∀ r ds', DR ds' → 0 ≤ r → r < m → Q (.d (.int r)) (L.set 0 (.dl ds'))) : callK [0] sp_law_take [.ref 0, .d (.int m)] L Q := by
  have hl := (List.getElem?_eq_some_iff.mp h).1
  cases L with
  | nil => cases h
  | cons o L =>
    cases h
    unfold callK
    refine ⟨⟨by simp, by simp⟩, [.ref 0, .d (.int m)], [.dl ds], rfl, rfl, hd, hm, fun r ds' h1 h2 h3 => ?_⟩
    have := k r ds' h1 h2 h3
    have e : merge [0] (.dl ds :: L) [.dl ds'] = .dl ds' :: L := by
      show putAll [0] _ _ ++ [] = _
      rw [List.append_nil]
      rfl
    show Q (.d (.int r)) (merge [0] (.dl ds :: L) [.dl ds'])
    rw [e]
    exact this
/-- the shape of a part -/
inductive Pt : D → Prop
  | tab (a : D) : Pt (.tuple [.str (Str.ofString "table"), a])
  | sides (a b c d : D) : Pt (.tuple [.str (Str.ofString "sides"), a, b, c, d])
  | maker (a b c : D) : Pt (.tuple [.str (Str.ofString "maker"), a, b, c])
  | trader (a b c d : D) : Pt (.tuple [.str (Str.ofString "trader"), a, b, c, d])
  | caps (a b : D) (gs hs : List D) : Pt (.tuple [.str (Str.ofString "caps"), a, .tuple gs, b, .tuple hs])
theorem Plain.pt {x y : List D} {p : D} (h : Plain x y p) : Pt p := by
  cases h with
  | tab h => obtain ⟨rows, rfl, -⟩ := h; exact .tab _
  | sides => exact .sides _ _ _ _
  | maker => exact .maker _ _ _
  | trader => exact .trader _ _ _ _
  | caps => exact .caps _ _ _ _
theorem exit3 {L : List AO} {o0 o1 o2 : List D} {q : WK} {d : D} (h0 : L[0]? = some (.dl o0)) (h1 : L[1]? = some (.dl o1)) (h2 : L[2]? = some (.dl o2)) (hq : q (.d d) [.dl o0, .dl o1, .dl o2]) : Exit 3 q (.d d) L := by
  unfold Exit
  have := at_lt h2
  refine Or.inr ⟨[0, 1, 2], [.dl o0, .dl o1, .dl o2], .d d, ⟨by decide, fun j hj => ?_, rfl⟩, ?_, rfl, hq⟩
  · simp at hj
    omega
  · simp [pick, allSome, h0, h1, h2, renO]
theorem all_set {p : D → Prop} {d : D} {ds : List D} {k : Nat} (h : ∀ d ∈ ds, p d) (hd : p d) : ∀ e ∈ ds.set k d, p e := fun e he => by
  rcases List.mem_or_eq_of_mem_set he with z | z
  · exact h e z
  · exact z ▸ hd
theorem set_same {L : List AO} {k : Nat} {o : AO} (h : L[k]? = some o) : L.set k o = L := by
  apply List.ext_getElem?
  intro j
  by_cases e : k = j
  · subst e
    rw [List.getElem?_set_self (List.getElem?_eq_some_iff.mp h).1, h]
  · rw [List.getElem?_set_ne e]
theorem pc_go {L : List AO} {ds x y : List D} {c t : Int} {Q : WK} {a b : Nat} (h : L[0]? = some (.dl ds)) (ha : L[a]? = some (.dl x)) (hb : L[b]? = some (.dl y)) (a0 : 0 ≠ a) (b0 : 0 ≠ b) (ab : a ≠ b) (hd : DR ds) (hx : DR x) (hy : DR y) (hxl : x.length ≤ 500) (hyl : y.length ≤ 500)
    (k : ∀ ds' d, DR ds' → Plain x y d → Q (.d d) (L.set 0 (.dl ds'))) : callK [0, a, b] sp_law_plain_choice [.ref 0, .ref a, .ref b, .d (.int c), .d (.int t)] L Q := by
  unfold callK
  refine ⟨⟨by simp [a0, b0, ab], ?_⟩, [.ref 0, .ref 1, .ref 2, .d (.int c), .d (.int t)], [.dl ds, .dl x, .dl y], ?_, ?_, hd, hx, hy, hxl, hyl, fun ds' d h1 h2 => ?_⟩
  · intro j hj
    simp at hj
    rcases hj with rfl | rfl | rfl
    · exact (List.getElem?_eq_some_iff.mp h).1
    · exact (List.getElem?_eq_some_iff.mp ha).1
    · exact (List.getElem?_eq_some_iff.mp hb).1
  · simp [renA, renK, allSome, a0, b0, ab, Ne.symm a0, Ne.symm b0, Ne.symm ab]
  · simp [pick, allSome, h, ha, hb, renO]
  · have e : merge [0, a, b] L [.dl ds', .dl x, .dl y] = L.set 0 (.dl ds') := by
      show putAll [0, a, b] _ _ ++ [] = _
      rw [List.append_nil]
      show ((L.set 0 (.dl ds')).set a (.dl x)).set b (.dl y) = _
      have e1 : (L.set 0 (AO.dl ds')).set a (.dl x) = L.set 0 (AO.dl ds') := set_same (by rw [List.getElem?_set_ne a0]; exact ha)
      rw [e1]
      exact set_same (by rw [List.getElem?_set_ne b0]; exact hb)
    show Q (.d d) (merge [0, a, b] L [.dl ds', .dl x, .dl y])
    rw [e]
    exact k ds' d h1 h2
theorem gr_go {L : List AO} {ds x : List D} {c : Int} {Q : WK} {a : Nat} (h : L[0]? = some (.dl ds)) (ha : L[a]? = some (.dl x)) (a0 : 0 ≠ a) (hd : DR ds) (hx : DR x) (hxl : x.length ≤ 1000)
    (k : ∀ ds' gs, DR ds' → (∀ g ∈ gs, GrOf x g) → gs.length ≤ 10 → Q (.d (.tuple gs)) (L.set 0 (.dl ds'))) : callK [0, a] sp_law_groups [.ref 0, .ref a, .d (.int c)] L Q := by
  unfold callK
  refine ⟨⟨by simp [a0], ?_⟩, [.ref 0, .ref 1, .d (.int c)], [.dl ds, .dl x], ?_, ?_, hd, hx, hxl, fun ds' gs h1 h2 h3 => ?_⟩
  · intro j hj
    simp at hj
    rcases hj with rfl | rfl
    · exact (List.getElem?_eq_some_iff.mp h).1
    · exact (List.getElem?_eq_some_iff.mp ha).1
  · simp [renA, renK, allSome, a0, Ne.symm a0]
  · simp [pick, allSome, h, ha, renO]
  · have e : merge [0, a] L [.dl ds', .dl x] = L.set 0 (.dl ds') := by
      show putAll [0, a] _ _ ++ [] = _
      rw [List.append_nil]
      show ((L.set 0 (.dl ds')).set a (.dl x)) = _
      exact set_same (by rw [List.getElem?_set_ne a0]; exact ha)
    show Q (.d (.tuple gs)) (merge [0, a] L [.dl ds', .dl x])
    rw [e]
    exact k ds' gs h1 h2 h3
abbrev st_law_split : Stmt := topS 17
theorem sc_law_split : FnScope ["draws", "buys", "sells", "cell", "tables", "many", "shares", "k", "side", "one", "at", "parts", "share", "groups"] ["draws", "buys", "sells", "cell", "tables"] (defScope st_law_split) := ⟨rfl, rfl, rfl, by decide +kernel, rfl, by decide +kernel, by decide +kernel⟩
theorem ok_law_split {f : Addr} {fd : FuncData} (F : Fun K "_law_split" "_law_split" st_law_split f fd) {f_law_take : Addr} {fd_law_take : FuncData} (g_law_take : mg "_law_take" = some (.ref f_law_take)) (k_law_take : PySem.W.keepIn K (.ref f_law_take) = true) (b_law_take : Binds K fd_law_take ["draws", "many"] []) (G_law_take : FnOk P w K mg base CX0 1 f_law_take fd_law_take ["draws", "many"] (upF P w K sp_law_take)) {f_law_plain_choice : Addr} {fd_law_plain_choice : FuncData} (g_law_plain_choice : mg "_law_plain_choice" = some (.ref f_law_plain_choice)) (k_law_plain_choice : PySem.W.keepIn K (.ref f_law_plain_choice) = true) (b_law_plain_choice : Binds K fd_law_plain_choice ["draws", "buys", "sells", "cell", "tables"] []) (G_law_plain_choice : FnOk P w K mg base CX0 4 f_law_plain_choice fd_law_plain_choice ["draws", "buys", "sells", "cell", "tables"] (upF P w K sp_law_plain_choice)) {f_law_groups : Addr} {fd_law_groups : FuncData} (g_law_groups : mg "_law_groups" = some (.ref f_law_groups)) (k_law_groups : PySem.W.keepIn K (.ref f_law_groups) = true) (b_law_groups : Binds K fd_law_groups ["draws", "contracts", "cell"] []) (G_law_groups : FnOk P w K mg base CX0 3 f_law_groups fd_law_groups ["draws", "contracts", "cell"] (upF P w K sp_law_groups)) (z_range : mg "range" = none) (z_tuple : mg "tuple" = none) : FnOk P w K mg base CX0 5 f fd ["draws", "buys", "sells", "cell", "tables"] (upF P w K sp_law_split) := by
  refine fn_ok F sc_law_split len_law_split (fun cdv A outer s H E hr => (as_cons (as_set 5 sc_law_split.nd rfl (by first | exact Or.inl rfl | exact Or.inr rfl) (a_ix (a_lst (aa_cons (a_call G_law_take (hr.mono (by decide)) (by rfl) g_law_take k_law_take b_law_take (aa_cons (a_var 0) (aa_cons a_int aa_nil))) (aa_cons a_int (aa_cons a_int (aa_cons a_int aa_nil))))) (a_call G_law_take (hr.mono (by decide)) (by rfl) g_law_take k_law_take b_law_take (aa_cons (a_var 0) (aa_cons a_int aa_nil)))))
    (as_cons (as_setLr 6 [("k", 7)] rfl sc_law_split.nd rfl rfl (sw_true rfl rfl rfl (by decide +kernel)) (ai_range1 (by rfl) z_range (aa_cons (a_var 5) aa_nil)) (blkOk_by (own := [("k", 7)]) (N := ["draws", "buys", "sells", "cell", "tables", "many", "shares", "k", "side", "one", "at", "parts", "share", "groups"]) (sc := defScope st_law_split) (by decide +kernel)) (fun _ _ _ _ _ => (ag_name 7 sc_law_split.nd rfl (by first | exact Or.inl rfl | exact Or.inr rfl))) (fun _ _ _ _ _ => ats_nil) (fun _ _ _ _ _ => (a_rst (aa_cons (a_lst aa_nil) (aa_cons (a_lst aa_nil) aa_nil)))))
    (as_cons (as_for PassesOwn.never rfl (ai_range1 (by rfl) z_range (aa_cons a_int aa_nil)) (ag_name 8 sc_law_split.nd rfl (by first | exact Or.inl rfl | exact Or.inr rfl)) (as_one (as_for PassesOwn.never rfl (ai_seq (a_ix (a_rst (aa_cons (a_var 1) (aa_cons (a_var 2) aa_nil))) (a_var 8))) (ag_name 9 sc_law_split.nd rfl (by first | exact Or.inl rfl | exact Or.inr rfl)) (as_cons (as_set 10 sc_law_split.nd rfl (by first | exact Or.inl rfl | exact Or.inr rfl) (a_call G_law_take (hr.mono (by decide)) (by rfl) g_law_take k_law_take b_law_take (aa_cons (a_var 0) (aa_cons (a_add (a_var 5) a_int) aa_nil))))
    (as_one (as_if (at_cmp op_ltU bin_lt (a_var 10) (a_var 5) (nomark _)) (as_one (as_setIx (a_add (a_ix (a_ix (a_var 6) (a_var 10)) (a_var 8)) (a_lst (aa_cons (a_var 9) aa_nil))) (a_ix (a_var 6) (a_var 10)) (a_var 8))) as_nil))))))
    (as_cons (as_setLc 11 [("share", 12)] rfl sc_law_split.nd rfl rfl (sw_true rfl rfl rfl (by decide +kernel)) (ai_seq (a_var 6)) (blkOk_by (own := [("share", 12)]) (N := ["draws", "buys", "sells", "cell", "tables", "many", "shares", "k", "side", "one", "at", "parts", "share", "groups"]) (sc := defScope st_law_split) (by decide +kernel)) (fun _ _ _ _ _ => (ag_name 12 sc_law_split.nd rfl (by first | exact Or.inl rfl | exact Or.inr rfl))) (fun _ _ _ _ _ => ats_nil) (fun _ _ _ _ _ => (a_call G_law_plain_choice (hr.mono (by decide)) (by rfl) g_law_plain_choice k_law_plain_choice b_law_plain_choice (aa_cons (a_var 0) (aa_cons (a_ix (a_var 12) a_int) (aa_cons (a_ix (a_var 12) a_int) (aa_cons (a_var 3) (aa_cons (a_var 4) aa_nil))))))))
    (as_cons (as_for PassesOwn.never rfl (ai_range1 (by rfl) z_range (aa_cons (a_var 5) aa_nil)) (ag_name 7 sc_law_split.nd rfl (by first | exact Or.inl rfl | exact Or.inr rfl)) (as_one (as_if (at_cmp (op_eqP hr.units) bin_eq (a_ix (a_ix (a_var 11) (a_var 7)) a_int) a_str (nomark _)) (as_cons (as_set 13 sc_law_split.nd rfl (by first | exact Or.inl rfl | exact Or.inr rfl) (a_lst (aa_cons (a_ix (a_ix (a_var 11) (a_var 7)) a_int) (aa_cons (a_ix (a_ix (a_var 11) (a_var 7)) a_int) aa_nil))))
    (as_cons (as_if (at_cmp (op_eqP hr.units) bin_eq (a_call G_law_take (hr.mono (by decide)) (by rfl) g_law_take k_law_take b_law_take (aa_cons (a_var 0) (aa_cons a_int aa_nil))) a_int (nomark _)) (as_one (as_set 13 sc_law_split.nd rfl (by first | exact Or.inl rfl | exact Or.inr rfl) (a_lst (aa_cons (a_call G_law_groups (hr.mono (by decide)) (by rfl) g_law_groups k_law_groups b_law_groups (aa_cons (a_var 0) (aa_cons (a_var 1) (aa_cons (a_var 3) aa_nil)))) (aa_cons (a_call G_law_groups (hr.mono (by decide)) (by rfl) g_law_groups k_law_groups b_law_groups (aa_cons (a_var 0) (aa_cons (a_var 2) (aa_cons (a_var 3) aa_nil)))) aa_nil))))) as_nil)
    (as_one (as_setIx (a_tup (aa_cons a_str (aa_cons (a_ix (a_ix (a_var 11) (a_var 7)) a_int) (aa_cons (a_sl (a_ix (a_var 13) a_int) ap_none (ap_some (a_fdiv a_int (a_var 5)))) (aa_cons (a_ix (a_ix (a_var 11) (a_var 7)) a_int) (aa_cons (a_sl (a_ix (a_var 13) a_int) ap_none (ap_some (a_fdiv a_int (a_var 5)))) aa_nil)))))) (a_var 11) (a_var 7))))) as_nil)))
    (as_one (as_ret (a_tup (aa_cons a_str (aa_cons (a_callTy call_tuple_of cal_tuple (by rfl) z_tuple (by decide +kernel) (aa_cons (a_var 11) aa_nil)) aa_nil))))))))))) (fun xs L q h => ?_)
  unfold sp_law_split at h
  split at h
  · rename_i c t ds bs ss
    obtain ⟨hd, hb, hs, hbl, hsl, hq⟩ := h
    walk_at "c"
    intro r1 ds1 hd1 h10 h11
    walk_at "c"
    intro r2 ds2 hd2 h20 h21
    have hn : ∀ d ∈ [PyData.int r1, PyData.int 2, PyData.int 3, PyData.int 9], ∃ n : Int, d = .int n ∧ 0 ≤ n ∧ n ≤ 9 :=
      all_cons ⟨_, rfl, h10, by omega⟩ (all_cons ⟨_, rfl, by decide, by decide⟩ (all_cons ⟨_, rfl, by decide, by decide⟩ (all_cons ⟨_, rfl, by decide, by decide⟩ all_nil)))
    obtain ⟨_, e, n, rfl, hn0, hn1⟩ := atI_all hn h20 h21
    walk_at "g"
    refine ⟨_, e, ?_⟩
    walk_at "g"
    refine ⟨fun i acc L => Hd bs ss L ∧ Shp L acc 0 0 ∧ acc.length = i ∧ ∀ k ∈ acc, k < L.length, ⟨⟨⟨_, rfl, hd2⟩, rfl, rfl, Nat.le_refl 4⟩, fun _ h => by (cases h), rfl, fun _ h => by (cases h)⟩, fun _ _ _ _ _ => trivial, ?_, ?_⟩
    · rintro i x acc L hx - ⟨hh, hsp, hl, hkL⟩
      walk_at "v"
      refine ⟨hh.app.app.app, hsp.new hh, by simp [hl], fun k hk => ?_⟩
      rcases List.mem_append.mp hk with h1 | h1
      · have := hkL k h1
        simp; omega
      · rw [List.mem_singleton.mp h1]
        simp
    · rintro ks L - ⟨hh, hsp, hl, hkL⟩
      rw [range_len] at hl
      walk_at "g"
      refine ⟨fun i δ L' => ∃ y8 y9 y10, Hd bs ss L' ∧ L'[L.length]? = some (.rl ks) ∧ Shp L' ks (if i = 0 then 0 else bs.length) (if i = 2 then ss.length else 0) ∧ δ = [some (.ref 0), some (.ref 1), some (.ref 2), some (.d (.int c)), some (.d (.int t)), some (.d (.int n)), some (.ref L.length), none, y8, y9, y10, none, none, none],
        ⟨_, _, _, hh.app, glast, hsp.app, rfl⟩, fun _ _ _ _ _ => trivial, ?_, ?_⟩
      · rintro i x δ' L1 hx ⟨y8, y9, y10, h1, h2, h3, rfl⟩
        obtain ⟨hi, rfl⟩ := range_at hx
        have hi2 : i = 0 ∨ i = 1 := by omega
        rcases hi2 with rfl | rfl
        · walk_at "g"
          rw [glast]
          walk_at "g"
          refine ⟨_, rfl, ?_⟩
          walk_at "g"
          rw [gapp h1.2.1]
          walk_at "g"
          refine ⟨fun j δ L' => ∃ y9 y10, Hd bs ss L' ∧ L'[L.length]? = some (.rl ks) ∧ Shp L' ks j 0 ∧ δ = [some (.ref 0), some (.ref 1), some (.ref 2), some (.d (.int c)), some (.d (.int t)), some (.d (.int n)), some (.ref L.length), none, some (.d (.int 0)), y9, y10, none, none, none],
            ⟨_, _, h1.app, gapp h2, h3.app, rfl⟩, fun _ _ _ _ h => by obtain ⟨_, _, h, -⟩ := h; exact h.2.1, ?_, ?_⟩
          · rintro j x δ' L2 hx ⟨y9, y10, g1, g2, g3, rfl⟩
            obtain ⟨d, hx1, rfl⟩ := d_at hx
            obtain ⟨i, rfl⟩ := hb.at hx1
            walk_at "g"
            obtain ⟨ds3, e3, hd3⟩ := g1.1
            refine take_go e3 hd3 (by omega) fun r ds4 hd4 h0 h1 => ?_
            walk_at "v"
            · have g1' := g1.set0 hd4
              have g2' : (L2.set 0 (.dl ds4))[L.length]? = some (.rl ks) := gset g2 (by have := hh.2.2.2; omega)
              have g3' := g3.set0 (o := .dl ds4)
              generalize L2.set 0 (AO.dl ds4) = L3 at g1' g2' g3'
              rw [g2']
              walk_at "g"
              obtain ⟨k, k1, k2⟩ := atI_nn (xs := ks) h0 (by omega)
              refine ⟨k, k2, ?_⟩
              have hkm := List.mem_of_getElem? k1
              obtain ⟨p0, a, b, x, y, p1, p2, p3, p4, p5, p6, p7, p8, p9, p10⟩ := g3' k hkm
              walk_at "g"
              rw [p1]
              walk_at "g"
              refine ⟨a, rfl, ?_⟩
              walk_at "g"
              rw [gapp p3]
              walk_at "g"
              rw [glast]
              walk_at "g"
              have hj := (List.getElem?_eq_some_iff.mp hx1).1
              refine And.intro (by rw [sizeLine_eq]; simp; omega) ?_
              walk_at "g"
              rw [gapp (gapp g2')]
              walk_at "g"
              refine ⟨k, k2, ?_⟩
              walk_at "g"
              rw [gapp (gapp p1)]
              walk_at "g"
              refine ⟨0, rfl, ?_⟩
              walk_at "g"
              exact Back.all ⟨_, _, g1'.app.app.setk p0, gset (gapp (gapp g2')) (by have := hkL k hkm; omega), g3'.st0 (i := i) p1 p0 p4 p5 p6 p7 p8 p9 g1'.2.2.2, rfl⟩
            · exact Back.all ⟨_, _, g1.set0 hd4, gset g2 (by have := hh.2.2.2; omega), (g3.set0).mono (by omega) (Nat.le_refl _), rfl⟩
          · rintro δ' L2 ⟨y9, y10, g1, g2, g3, rfl⟩
            rw [List.length_map] at g3
            walk_at "g"
            exact Back.all ⟨_, _, _, g1, g2, g3, rfl⟩
        · walk_at "g"
          rw [glast]
          walk_at "g"
          refine ⟨_, rfl, ?_⟩
          walk_at "g"
          rw [gapp h1.2.2.1]
          walk_at "g"
          refine ⟨fun j δ L' => ∃ y9 y10, Hd bs ss L' ∧ L'[L.length]? = some (.rl ks) ∧ Shp L' ks bs.length j ∧ δ = [some (.ref 0), some (.ref 1), some (.ref 2), some (.d (.int c)), some (.d (.int t)), some (.d (.int n)), some (.ref L.length), none, some (.d (.int 1)), y9, y10, none, none, none],
            ⟨_, _, h1.app, gapp h2, h3.app, rfl⟩, fun _ _ _ _ h => by obtain ⟨_, _, h, -⟩ := h; exact h.2.2.1, ?_, ?_⟩
          · rintro j x δ' L2 hx ⟨y9, y10, g1, g2, g3, rfl⟩
            obtain ⟨d, hx1, rfl⟩ := d_at hx
            obtain ⟨i, rfl⟩ := hs.at hx1
            walk_at "g"
            obtain ⟨ds3, e3, hd3⟩ := g1.1
            refine take_go e3 hd3 (by omega) fun r ds4 hd4 h0 h1 => ?_
            walk_at "v"
            · have g1' := g1.set0 hd4
              have g2' : (L2.set 0 (.dl ds4))[L.length]? = some (.rl ks) := gset g2 (by have := hh.2.2.2; omega)
              have g3' := g3.set0 (o := .dl ds4)
              generalize L2.set 0 (AO.dl ds4) = L3 at g1' g2' g3'
              rw [g2']
              walk_at "g"
              obtain ⟨k, k1, k2⟩ := atI_nn (xs := ks) h0 (by omega)
              refine ⟨k, k2, ?_⟩
              have hkm := List.mem_of_getElem? k1
              obtain ⟨p0, a, b, x, y, p1, p2, p3, p4, p5, p6, p7, p8, p9, p10⟩ := g3' k hkm
              walk_at "g"
              rw [p1]
              walk_at "g"
              refine ⟨b, rfl, ?_⟩
              walk_at "g"
              rw [gapp p7]
              walk_at "g"
              rw [glast]
              walk_at "g"
              have hj := (List.getElem?_eq_some_iff.mp hx1).1
              refine And.intro (by rw [sizeLine_eq]; simp; omega) ?_
              walk_at "g"
              rw [gapp (gapp g2')]
              walk_at "g"
              refine ⟨k, k2, ?_⟩
              walk_at "g"
              rw [gapp (gapp p1)]
              walk_at "g"
              refine ⟨1, rfl, ?_⟩
              walk_at "g"
              exact Back.all ⟨_, _, g1'.app.app.setk p0, gset (gapp (gapp g2')) (by have := hkL k hkm; omega), g3'.st1 (i := i) p1 p0 p8 p9 p2 p3 p4 p5 g1'.2.2.2, rfl⟩
            · exact Back.all ⟨_, _, g1.set0 hd4, gset g2 (by have := hh.2.2.2; omega), (g3.set0).mono (Nat.le_refl _) (by omega), rfl⟩
          · rintro δ' L2 ⟨y9, y10, g1, g2, g3, rfl⟩
            rw [List.length_map] at g3
            walk_at "g"
            exact Back.all ⟨_, _, _, g1, g2, g3, rfl⟩
      · rintro δ' L1 ⟨y8, y9, y10, h1, h2, h3, rfl⟩
        have g3 : Shp L1 ks bs.length ss.length := h3
        walk_at "g"
        rw [h2]
        walk_at "g"
        refine ⟨fun i acc L' => Hd bs ss L' ∧ L'[L.length]? = some (.rl ks) ∧ Shp L' ks bs.length ss.length ∧ (∀ p ∈ acc, Pt p) ∧ acc.length = i, ⟨h1, h2, g3, all_nil, rfl⟩, fun _ _ _ _ h => h.2.1, ?_, ?_⟩
        · rintro i x acc L2 hx - ⟨g1, g2, g3, g4, g5⟩
          obtain ⟨k, k1, rfl⟩ := ref_at hx
          obtain ⟨p0, a, b, x, y, p1, p2, p3, p4, p5, p6, p7, p8, p9, p10⟩ := g3 k (List.mem_of_getElem? k1)
          walk_at "v"
          rw [p1]
          walk_at "g"
          refine ⟨a, rfl, ?_⟩
          walk_at "g"
          rw [p1]
          walk_at "g"
          refine ⟨b, rfl, ?_⟩
          walk_at "g"
          obtain ⟨ds3, e3, hd3⟩ := g1.1
          refine pc_go e3 p3 p7 (by omega) (by omega) p10 hd3 p4 p8 (by omega) (by omega) fun ds4 d hd4 hpl => ?_
          walk_at "g"
          exact Back0.all ⟨g1.set0 hd4, gset g2 (by have := hh.2.2.2; omega), g3.set0, all_snoc g4 hpl.pt, by simp [g5]⟩
        · rintro ps L2 - ⟨g1, g2, g3, g4, g5⟩
          rw [List.length_map] at g5
          walk_at "g"
          refine ⟨fun i δ L' => ∃ ps y7 y13, Hd bs ss L' ∧ L'[L2.length]? = some (.dl ps) ∧ (∀ p ∈ ps, Pt p) ∧ ps.length = ks.length ∧ δ = [some (.ref 0), some (.ref 1), some (.ref 2), some (.d (.int c)), some (.d (.int t)), some (.d (.int n)), some (.ref L.length), y7, y8, y9, y10, some (.ref L2.length), none, y13],
            ⟨_, _, _, g1.app, glast, g4, g5, rfl⟩, fun _ _ _ _ _ => trivial, ?_, ?_⟩
          · rintro i x δ' L3 hx ⟨ps, y7, y13, f1, f2, f3, f4, rfl⟩
            obtain ⟨hi, rfl⟩ := range_at hx
            obtain ⟨p, q1, q2⟩ := atI_nn (xs := ps) (i := 0 + (i : Int)) (by omega) (by omega)
            have hp := f3 p (List.mem_of_getElem? q1)
            walk_at "g"
            rw [f2]
            walk_at "g"
            refine ⟨p, q2, ?_⟩
            cases hp with
            | tab =>
              walk_at "g"
              refine ⟨_, rfl, ?_⟩
              walk_at "v"
              exact Back.all ⟨_, _, _, f1, f2, f3, f4, rfl⟩
            | sides =>
              walk_at "g"
              refine ⟨_, rfl, ?_⟩
              walk_at "v"
              exact Back.all ⟨_, _, _, f1, f2, f3, f4, rfl⟩
            | maker =>
              walk_at "g"
              refine ⟨_, rfl, ?_⟩
              walk_at "v"
              exact Back.all ⟨_, _, _, f1, f2, f3, f4, rfl⟩
            | trader =>
              walk_at "g"
              refine ⟨_, rfl, ?_⟩
              walk_at "v"
              exact Back.all ⟨_, _, _, f1, f2, f3, f4, rfl⟩
            | caps w1 w2 gs gh =>
              walk_at "g"
              refine ⟨_, rfl, ?_⟩
              walk_at "v"
              rw [f2]
              walk_at "g"
              refine ⟨_, q2, ?_⟩
              walk_at "g"
              refine ⟨_, rfl, ?_⟩
              walk_at "g"
              rw [f2]
              walk_at "g"
              refine ⟨_, q2, ?_⟩
              walk_at "g"
              refine ⟨_, rfl, ?_⟩
              walk_at "g"
              have f1' := f1.app (M := [.dl [.tuple gs, .tuple gh]])
              have f2' := gapp (M := [.dl [.tuple gs, .tuple gh]]) f2
              have f5 : (L3 ++ [.dl [.tuple gs, .tuple gh]])[L3.length]? = some (.dl [.tuple gs, .tuple gh]) := glast
              generalize L3 ++ [AO.dl [PyData.tuple gs, .tuple gh]] = L4 at f1' f2' f5
              have hL2 : 4 ≤ L2.length := g1.2.2.2
              have hL3 : 4 ≤ L3.length := f1.2.2.2
              obtain ⟨ds3, e3, hd3⟩ := f1'.1
              refine take_go e3 hd3 (by decide) fun r ds4 hd4 h0 h1 => ?_
              have f1a := f1'.set0 hd4
              have f2a := gset (o' := .dl ds4) f2' (show 0 ≠ L2.length by omega)
              have f5a := gset (o' := .dl ds4) f5 (show 0 ≠ L3.length by omega)
              generalize L4.set 0 (AO.dl ds4) = L5 at f1a f2a f5a
              walk_at "v"
              · obtain ⟨ds5, e5, hd5⟩ := f1a.1
                refine gr_go e5 f1a.2.1 (by decide) hd5 hb (by omega) fun ds6 gs6 hd6 hg6 hl6 => ?_
                have f1b := f1a.set0 hd6
                have f2b := gset (o' := .dl ds6) f2a (show 0 ≠ L2.length by omega)
                generalize L5.set 0 (AO.dl ds6) = L6 at f1b f2b
                walk_at "g"
                obtain ⟨ds7, e7, hd7⟩ := f1b.1
                refine gr_go e7 f1b.2.2.1 (by decide) hd7 hs (by omega) fun ds8 hs8 hd8 hg8 hl8 => ?_
                have f1c := f1b.set0 hd8
                have f2c := gset (o' := .dl ds8) f2b (show 0 ≠ L2.length by omega)
                generalize L6.set 0 (AO.dl ds8) = L7 at f1c f2c
                walk_at "g"
                have f1a := f1c.app (M := [.dl [.tuple gs6, .tuple hs8]])
                have f2a := gapp (M := [.dl [.tuple gs6, .tuple hs8]]) f2c
                have f5a : (L7 ++ [.dl [.tuple gs6, .tuple hs8]])[L7.length]? = some (.dl [.tuple gs6, .tuple hs8]) := glast
                generalize L7 ++ [AO.dl [PyData.tuple gs6, .tuple hs8]] = L8 at f1a f2a f5a
                rw [f2a]
                walk_at "g"
                refine ⟨_, q2, ?_⟩
                walk_at "g"
                refine ⟨_, rfl, ?_⟩
                walk_at "g"
                rw [f5a]
                walk_at "g"
                refine ⟨_, rfl, ?_⟩
                walk_at "g"
                rw [f2a]
                walk_at "g"
                refine ⟨_, q2, ?_⟩
                walk_at "g"
                refine ⟨_, rfl, ?_⟩
                walk_at "g"
                rw [f5a]
                walk_at "g"
                refine ⟨_, rfl, ?_⟩
                walk_at "g"
                rw [f2a]
                walk_at "g"
                refine ⟨_, ixN_nn (by omega) (by omega), ?_⟩
                walk_at "g"
                exact Back.all ⟨_, _, _, f1a.setk hL2, gset_self f2a, all_set f3 (.caps _ _ _ _), by simp [f4], rfl⟩
              · rw [f2a]
                walk_at "g"
                refine ⟨_, q2, ?_⟩
                walk_at "g"
                refine ⟨_, rfl, ?_⟩
                walk_at "g"
                rw [f5a]
                walk_at "g"
                refine ⟨_, rfl, ?_⟩
                walk_at "g"
                rw [f2a]
                walk_at "g"
                refine ⟨_, q2, ?_⟩
                walk_at "g"
                refine ⟨_, rfl, ?_⟩
                walk_at "g"
                rw [f5a]
                walk_at "g"
                refine ⟨_, rfl, ?_⟩
                walk_at "g"
                rw [f2a]
                walk_at "g"
                refine ⟨_, ixN_nn (by omega) (by omega), ?_⟩
                walk_at "g"
                exact Back.all ⟨_, _, _, f1a.setk hL2, gset_self f2a, all_set f3 (.caps _ _ _ _), by simp [f4], rfl⟩
          · rintro δ' L3 ⟨ps, y7, y13, f1, f2, f3, f4, rfl⟩
            obtain ⟨ds3, e3, hd3⟩ := f1.1
            walk_at "g"
            rw [f2]
            walk_at "g"
            exact exit3 e3 f1.2.1 f1.2.2.1 (hq _ _ hd3 (.split (by omega)))
  · exact h.elim
end
end T


set_option Elab.async false
set_option linter.all false
set_option maxRecDepth 100000
set_option maxHeartbeats 4000000
namespace T
open PySem L2 AB PyProof.Rows
local macro_rules | `(tactic| walk_at "w") => `(tactic| (conv => whnf))
local macro_rules | `(tactic| walk_at "s") => `(tactic| first | assumption | omega | (simp only [List.length_map, range_len, rangeC_len, Int.toNat_natCast]; omega) | rfl | decide | (show (0 : Int) < _; first | decide | omega) | (refine And.intro ?_ ?_ <;> first | decide | omega) | (refine And.intro ?_ (And.intro ?_ ?_) <;> first | decide | omega) | (rw [sizeLine_eq]; omega) | (rw [sizeLine_eq]; simp; done) | (rw [sizeLine_eq]; simp; omega) | (refine Or.inr ?_; decide) | (refine Or.inl ?_; decide) | (refine Or.inl (And.intro ?_ ?_) <;> omega) | (refine Or.inr (And.intro ?_ ?_) <;> omega))
local macro_rules | `(tactic| walk_at "g") => `(tactic| (walk_at "w"; repeat (refine And.intro (by walk_at "s") ?_; walk_at "w")))
local macro_rules | `(tactic| walk_at "l") => `(tactic| (intro xs L q h; (split at h <;> first | rfl | exact h.elim)))
local macro_rules | `(tactic| walk_at "c") => `(tactic| (walk_at "g"; refine call_go ?_; walk_at "g"))
local macro_rules | `(tactic| walk_at "b") => `(tactic| first | refine And.intro (fun (z : false = true) => by cases z) (fun (_ : false = false) => ?_) | refine And.intro (fun (_ : true = true) => ?_) (fun (z : true = false) => by cases z) | refine And.intro (fun (z : decide _ = true) => (fun _ => ?_) (of_decide_eq_true z)) (fun (z : decide _ = false) => (fun _ => ?_) (of_decide_eq_false z)) | refine And.intro (fun (_ : _ = true) => ?_) (fun (_ : _ = false) => ?_) | fail)
local macro_rules | `(tactic| walk_at "v") => `(tactic| (walk_at "g"; repeat' (walk_at "b" <;> walk_at "g")))

section
variable {P : Program} {w : World} {K : PySem.W.Frag} {mg : Str → Option Value} {base : Heap}
/-- values that can be asked about, m deep -/
inductive Sm : Nat → D → Prop
  | int (m : Nat) (i : Int) : Sm (m + 1) (.int i)
  | tup (m : Nat) (ds : List D) : (∀ d ∈ ds, Sm m d) → ds.length ≤ 1000000 → Sm (m + 1) (.tuple ds)
def spr_law_same (m : Nat) : ASp := fun xs L q => match xs, L with
  | [.d a, .d b], [] => a = b ∧ Sm m b ∧ q (.d (.bool true)) []
  | _, _ => False
theorem lenr_law_same (m : Nat) : ∀ xs L q, spr_law_same m xs L q → xs.length = 2 := by
  unfold spr_law_same
  walk_at "l"
abbrev st_law_same : Stmt := topS 24
theorem sc_law_same : FnScope ["actual", "due", "k"] ["actual", "due"] (defScope st_law_same) := ⟨rfl, rfl, rfl, by decide +kernel, rfl, by decide +kernel, by decide +kernel⟩
theorem okr_law_same {f : Addr} {fd : FuncData} (F : Fun K "_law_same" "_law_same" st_law_same f fd) {lv m : Nat} {f_law_same : Addr} {fd_law_same : FuncData} (g_law_same : mg "_law_same" = some (.ref f_law_same)) (k_law_same : PySem.W.keepIn K (.ref f_law_same) = true) (b_law_same : Binds K fd_law_same ["actual", "due"] []) (G_law_same : FnOk P w K mg base CX0 lv f_law_same fd_law_same ["actual", "due"] (upF P w K (spr_law_same m))) (z_isinstance : mg "isinstance" = none) (z_str : mg "str" = none) (z_bool : mg "bool" = none) (z_tuple : mg "tuple" = none) (z_list : mg "list" = none) (z_range : mg "range" = none) (z_int : mg "int" = none) (z_len : mg "len" = none) : FnOk P w K mg base CX0 (lv + 1) f fd ["actual", "due"] (upF P w K (spr_law_same (m + 1))) := by
  refine fn_ok F sc_law_same (lenr_law_same (m + 1)) (fun cdv A outer s H E hr => (as_cons (as_if (at_w (aw_or (at_val (a_callB call_isi cal_isi (by rfl) z_isinstance (by decide +kernel) (aa_cons (a_var 1) (aa_cons (a_ty (T := "tuple") (by rfl) z_tuple (by decide +kernel)) aa_nil)))) (aw_or1 (at_val (a_callB call_isi cal_isi (by rfl) z_isinstance (by decide +kernel) (aa_cons (a_var 1) (aa_cons (a_ty (T := "list") (by rfl) z_list (by decide +kernel)) aa_nil))))))) (as_cons (as_if (at_w (aw_and (at_val (a_callB call_isi cal_isi (by rfl) z_isinstance (by decide +kernel) (aa_cons (a_var 1) (aa_cons (a_ty (T := "tuple") (by rfl) z_tuple (by decide +kernel)) aa_nil)))) (aw_and1 (at_not (at_val (a_callB call_isi cal_isi (by rfl) z_isinstance (by decide +kernel) (aa_cons (a_var 0) (aa_cons (a_ty (T := "tuple") (by rfl) z_tuple (by decide +kernel)) aa_nil)))))))) (as_one (as_ret a_bl)) as_nil)
    (as_cons (as_if (at_w (aw_and (at_val (a_callB call_isi cal_isi (by rfl) z_isinstance (by decide +kernel) (aa_cons (a_var 1) (aa_cons (a_ty (T := "list") (by rfl) z_list (by decide +kernel)) aa_nil)))) (aw_and1 (at_not (at_val (a_callB call_isi cal_isi (by rfl) z_isinstance (by decide +kernel) (aa_cons (a_var 0) (aa_cons (a_ty (T := "list") (by rfl) z_list (by decide +kernel)) aa_nil)))))))) (as_one (as_ret a_bl)) as_nil)
    (as_cons (as_if (at_cmp (op_neP hr.units) bin_eq (a_callB call_lenU cal_len (by rfl) z_len (by decide +kernel) (aa_cons (a_var 0) aa_nil)) (a_callB call_lenU cal_len (by rfl) z_len (by decide +kernel) (aa_cons (a_var 1) aa_nil)) (nomark _)) (as_one (as_ret a_bl)) as_nil)
    (as_cons (as_for PassesOwn.never rfl (ai_range1 (by rfl) z_range (aa_cons (a_callB call_lenU cal_len (by rfl) z_len (by decide +kernel) (aa_cons (a_var 1) aa_nil)) aa_nil)) (ag_name 2 sc_law_same.nd rfl (by first | exact Or.inl rfl | exact Or.inr rfl)) (as_one (as_if (at_not (at_val (a_call G_law_same hr (by rfl) g_law_same k_law_same b_law_same (aa_cons (a_ix (a_var 0) (a_var 2)) (aa_cons (a_ix (a_var 1) (a_var 2)) aa_nil))))) (as_one (as_ret a_bl)) as_nil)))
    (as_one (as_ret a_bl)))))) as_nil)
    (as_cons (as_if (at_cmp op_isN' bin_isN (a_var 1) a_non (nomark _)) (as_one (as_ret (a_cmp op_isN' bin_isN (a_var 0) a_non (nomark _)))) as_nil)
    (as_cons (as_if (at_val (a_callB call_isi cal_isi (by rfl) z_isinstance (by decide +kernel) (aa_cons (a_var 1) (aa_cons (a_ty (T := "str") (by rfl) z_str (by decide +kernel)) aa_nil)))) (as_one (as_ret (a_and (a_callB call_isi cal_isi (by rfl) z_isinstance (by decide +kernel) (aa_cons (a_var 0) (aa_cons (a_ty (T := "str") (by rfl) z_str (by decide +kernel)) aa_nil))) (a_one (a_cmp (op_eqP hr.units) bin_eq (a_var 0) (a_var 1) (nomark _)))))) as_nil)
    (as_cons (as_if (at_val (a_callB call_isi cal_isi (by rfl) z_isinstance (by decide +kernel) (aa_cons (a_var 1) (aa_cons (a_ty (T := "bool") (by rfl) z_bool (by decide +kernel)) aa_nil)))) (as_one (as_ret (a_and (a_callB call_isi cal_isi (by rfl) z_isinstance (by decide +kernel) (aa_cons (a_var 0) (aa_cons (a_ty (T := "bool") (by rfl) z_bool (by decide +kernel)) aa_nil))) (a_one (a_cmp (op_eqP hr.units) bin_eq (a_var 0) (a_var 1) (nomark _)))))) as_nil)
    (as_one (as_ret (a_and (a_callB call_isi cal_isi (by rfl) z_isinstance (by decide +kernel) (aa_cons (a_var 0) (aa_cons (a_ty (T := "int") (by rfl) z_int (by decide +kernel)) aa_nil))) (a_and (a_not (a_callB call_isi cal_isi (by rfl) z_isinstance (by decide +kernel) (aa_cons (a_var 0) (aa_cons (a_ty (T := "bool") (by rfl) z_bool (by decide +kernel)) aa_nil)))) (a_one (a_cmp (op_eqP hr.units) bin_eq (a_var 0) (a_var 1) (nomark _)))))))))))) (fun xs L q h => ?_)
  unfold spr_law_same at h
  split at h
  · rename_i a b
    obtain ⟨rfl, hs, hq⟩ := h
    cases hs with
    | int m i =>
      walk_at "v"
      have e : (if false = true then !decide (i = i) else decide (i = i)) = true := by simp
      rw [e]
      exact Exit.all hq
    | tup m ds hd hl =>
      walk_at "v"
      · simp_all
      · refine ⟨fun i δ L => ∃ y, δ = [some (.d (.tuple ds)), some (.d (.tuple ds)), y] ∧ L = [], ⟨_, rfl, rfl⟩, fun _ _ _ _ _ => trivial, ?_, ?_⟩
        · rintro i x δ' L' hx ⟨y, rfl, rfl⟩
          obtain ⟨hi, rfl⟩ := range_at hx
          obtain ⟨d, d1, d2⟩ := atI_nn (xs := ds) (i := 0 + (i : Int)) (by omega) (by omega)
          walk_at "g"
          refine ⟨d, d2, ?_⟩
          walk_at "g"
          refine ⟨d, d2, ?_⟩
          walk_at "g"
          refine call_go ?_
          refine ⟨rfl, hd d (List.mem_of_getElem? d1), ?_⟩
          walk_at "v"
          exact Back.all ⟨_, rfl, rfl⟩
        · rintro δ' L' ⟨y, rfl, rfl⟩
          walk_at "g"
          exact Exit.all hq
  · exact h.elim
/-- it is kept at every depth -/
theorem same_all {f : Addr} {fd : FuncData} (F : Fun K "_law_same" "_law_same" st_law_same f fd) (g_law_same : mg "_law_same" = some (.ref f)) (k_law_same : PySem.W.keepIn K (.ref f) = true) (b_law_same : Binds K fd ["actual", "due"] []) (z_isinstance : mg "isinstance" = none) (z_str : mg "str" = none) (z_bool : mg "bool" = none) (z_tuple : mg "tuple" = none) (z_list : mg "list" = none) (z_range : mg "range" = none) (z_int : mg "int" = none) (z_len : mg "len" = none) :
    ∀ m, FnOk P w K mg base CX0 m f fd ["actual", "due"] (upF P w K (spr_law_same m))
  | 0 => ⟨fun vs H Q E h => by
      obtain ⟨xs, L, q, ρ, h1, h2, h3, h4⟩ := h
      rw [← Paired.length h3]
      exact lenr_law_same 0 xs L q h1, fun A outer s H args us vs Q E _ _ _ _ h => by
      obtain ⟨xs, L, q, ρ, h1, h2, h3, h4⟩ := h
      unfold spr_law_same at h1
      split at h1
      · obtain ⟨_, h, _⟩ := h1
        cases h
      · exact h1.elim⟩
  | m + 1 => okr_law_same F g_law_same k_law_same b_law_same (same_all F g_law_same k_law_same b_law_same z_isinstance z_str z_bool z_tuple z_list z_range z_int z_len m) z_isinstance z_str z_bool z_tuple z_list z_range z_int z_len
def sp_law_same : ASp := spr_law_same 4
end
end T


set_option Elab.async false
set_option linter.all false
set_option maxRecDepth 100000
set_option maxHeartbeats 4000000
namespace T
open PySem L2 AB PyProof.Rows
local macro_rules | `(tactic| walk_at "w") => `(tactic| (conv => whnf))
local macro_rules | `(tactic| walk_at "s") => `(tactic| first | assumption | omega | (simp only [List.length_map, range_len, rangeC_len, Int.toNat_natCast]; omega) | rfl | decide | (show (0 : Int) < _; first | decide | omega) | (refine And.intro ?_ ?_ <;> first | decide | omega) | (refine And.intro ?_ (And.intro ?_ ?_) <;> first | decide | omega) | (rw [sizeLine_eq]; omega) | (rw [sizeLine_eq]; simp; done) | (rw [sizeLine_eq]; simp; omega) | (refine Or.inr ?_; decide) | (refine Or.inl ?_; decide) | (refine Or.inl (And.intro ?_ ?_) <;> omega) | (refine Or.inr (And.intro ?_ ?_) <;> omega))
local macro_rules | `(tactic| walk_at "g") => `(tactic| (walk_at "w"; repeat (refine And.intro (by walk_at "s") ?_; walk_at "w")))
local macro_rules | `(tactic| walk_at "l") => `(tactic| (intro xs L q h; (split at h <;> first | rfl | exact h.elim)))
local macro_rules | `(tactic| walk_at "c") => `(tactic| (walk_at "g"; refine call_go ?_; walk_at "g"))
local macro_rules | `(tactic| walk_at "b") => `(tactic| first | refine And.intro (fun (z : false = true) => by cases z) (fun (_ : false = false) => ?_) | refine And.intro (fun (_ : true = true) => ?_) (fun (z : true = false) => by cases z) | refine And.intro (fun (z : decide _ = true) => (fun _ => ?_) (of_decide_eq_true z)) (fun (z : decide _ = false) => (fun _ => ?_) (of_decide_eq_false z)) | refine And.intro (fun (_ : _ = true) => ?_) (fun (_ : _ = false) => ?_) | fail)
local macro_rules | `(tactic| walk_at "v") => `(tactic| (walk_at "g"; repeat' (walk_at "b" <;> walk_at "g")))

section
variable {P : Program} {w : World} {K : PySem.W.Frag} {mg : Str → Option Value} {base : Heap}
def selN (p : D → Bool) (cs : List D) : Nat → List D
  | 0 => []
  | i + 1 => selN p cs i ++ (if (cs[i]?.map p).getD false then [.int (i : Int)] else [])
theorem selN_yes {p : D → Bool} {cs : List D} {i : Nat} {d : D} (h : cs[i]? = some d) (hp : p d = true) : selN p cs (i + 1) = selN p cs i ++ [.int (i : Int)] := by
  show selN p cs i ++ _ = _
  rw [h]; simp [hp]
theorem selN_no {p : D → Bool} {cs : List D} {i : Nat} {d : D} (h : cs[i]? = some d) (hp : p d = false) : selN p cs (i + 1) = selN p cs i := by
  show selN p cs i ++ _ = _
  rw [h]; simp [hp]
theorem selN_sm {p : D → Bool} {cs : List D} {m : Nat} (n : Nat) : ∀ d ∈ selN p cs n, Sm (m + 1) d := by
  induction n with
  | zero => intro d hd; cases hd
  | succ n ih =>
    intro d hd
    rcases List.mem_append.mp hd with h | h
    · exact ih d h
    · split at h
      · rw [List.mem_singleton.mp h]; exact .int m _
      · cases h
theorem selN_len {p : D → Bool} {cs : List D} (n : Nat) : (selN p cs n).length ≤ n := by
  induction n with
  | zero => exact Nat.le_refl _
  | succ n ih =>
    show (selN p cs n ++ _).length ≤ _
    rw [List.length_append]
    split <;> simp <;> omega
def isBuyer (h : Int) : D → Bool | .tuple [.int _, .int b, .int _] => decide (b = h) | _ => false
def isSeller (h : Int) : D → Bool | .tuple [.int a, .int _, .int _] => decide (a = h) | _ => false
def sp_buys_of : ASp := fun xs L q => match xs, L with
  | [.d (.tuple [hs, .tuple cs]), .d (.int h)], [] => CsOf cs ∧ cs.length ≤ 1000 ∧ q (.d (.tuple (selN (isBuyer h) cs cs.length))) []
  | _, _ => False
theorem len_buys_of : ∀ xs L q, sp_buys_of xs L q → xs.length = 2 := by
  unfold sp_buys_of
  walk_at "l"
abbrev st_buys_of : Stmt := topS 1
theorem sc_buys_of : FnScope ["web", "house", "_", "contracts", "number", "buyer"] ["web", "house"] (defScope st_buys_of) := ⟨rfl, rfl, rfl, by decide +kernel, rfl, by decide +kernel, by decide +kernel⟩
theorem ok_buys_of {f : Addr} {fd : FuncData} (F : Fun K "buys_of" "buys_of" st_buys_of f fd) (z_tuple : mg "tuple" = none) (z_enumerate : mg "enumerate" = none) : FnOk P w K mg base CX0 1 f fd ["web", "house"] (upF P w K sp_buys_of) := by
  refine fn_ok F sc_buys_of len_buys_of (fun cdv A outer s H E hr => (as_cons (as_asg (a_var 0) (ag_tup rfl (ags_cons (ag_name 2 sc_buys_of.nd rfl (by first | exact Or.inl rfl | exact Or.inr rfl)) (ags_cons (ag_name 3 sc_buys_of.nd rfl (by first | exact Or.inl rfl | exact Or.inr rfl)) ags_nil))))
    (as_one (as_ret (a_callTy call_tuple_of cal_tuple (by rfl) z_tuple (by decide +kernel) (aa_cons (a_lc [("number", 4), ("_", 2), ("buyer", 5)] rfl sc_buys_of.nd (ai_enum (by rfl) z_enumerate (aa_cons (a_var 3) aa_nil)) (blkOk_by (own := [("number", 4), ("_", 2), ("buyer", 5)]) (N := ["web", "house", "_", "contracts", "number", "buyer"]) (sc := defScope st_buys_of) (by decide +kernel)) (fun _ _ _ _ _ => (ag_tup rfl (ags_cons (ag_name 4 sc_buys_of.nd rfl (by first | exact Or.inl rfl | exact Or.inr rfl)) (ags_cons (ag_tup rfl (ags_cons (ag_name 2 sc_buys_of.nd rfl (by first | exact Or.inl rfl | exact Or.inr rfl)) (ags_cons (ag_name 5 sc_buys_of.nd rfl (by first | exact Or.inl rfl | exact Or.inr rfl)) (ags_cons (ag_name 2 sc_buys_of.nd rfl (by first | exact Or.inl rfl | exact Or.inr rfl)) ags_nil)))) ags_nil)))) (fun _ _ _ _ _ => (ats_one (at_cmp (op_eqP hr.units) bin_eq (a_var 5) (a_var 1) (nomark _)))) (fun _ _ _ _ _ => (a_var 4))) aa_nil)))))) (fun xs L q h => ?_)
  unfold sp_buys_of at h
  split at h
  · rename_i hs cs hh
    obtain ⟨hc, hl, hq⟩ := h
    walk_at "w"
    refine ⟨by rw [enumD_len]; omega, fun i acc L => acc = selN (isBuyer hh) cs i ∧ L = [], ⟨rfl, rfl⟩, fun _ _ _ _ _ => trivial, ?_, ?_⟩
    · rintro i x acc L' hx - ⟨rfl, rfl⟩
      obtain ⟨d, hd, rfl⟩ := enumD_at hx
      obtain ⟨a, b, p, rfl⟩ := hc d (List.mem_of_getElem? hd)
      walk_at "g"
      refine ⟨fun hb => ?_, fun hb => ?_⟩
      · walk_at "g"
        refine Back0.all ⟨(selN_yes hd ?_).symm, rfl⟩
        simpa [isBuyer] using hb
      · walk_at "g"
        refine Back0.all ⟨(selN_no hd ?_).symm, rfl⟩
        simpa [isBuyer] using hb
    · rintro acc L' - ⟨rfl, rfl⟩
      rw [enumD_len]
      walk_at "g"
      exact Exit.mk [] hq
  · exact h.elim
def sp_sells_of : ASp := fun xs L q => match xs, L with
  | [.d (.tuple [hs, .tuple cs]), .d (.int h)], [] => CsOf cs ∧ cs.length ≤ 1000 ∧ q (.d (.tuple (selN (isSeller h) cs cs.length))) []
  | _, _ => False
theorem len_sells_of : ∀ xs L q, sp_sells_of xs L q → xs.length = 2 := by
  unfold sp_sells_of
  walk_at "l"
abbrev st_sells_of : Stmt := topS 2
theorem sc_sells_of : FnScope ["web", "house", "_", "contracts", "number", "seller"] ["web", "house"] (defScope st_sells_of) := ⟨rfl, rfl, rfl, by decide +kernel, rfl, by decide +kernel, by decide +kernel⟩
theorem ok_sells_of {f : Addr} {fd : FuncData} (F : Fun K "sells_of" "sells_of" st_sells_of f fd) (z_tuple : mg "tuple" = none) (z_enumerate : mg "enumerate" = none) : FnOk P w K mg base CX0 1 f fd ["web", "house"] (upF P w K sp_sells_of) := by
  refine fn_ok F sc_sells_of len_sells_of (fun cdv A outer s H E hr => (as_cons (as_asg (a_var 0) (ag_tup rfl (ags_cons (ag_name 2 sc_sells_of.nd rfl (by first | exact Or.inl rfl | exact Or.inr rfl)) (ags_cons (ag_name 3 sc_sells_of.nd rfl (by first | exact Or.inl rfl | exact Or.inr rfl)) ags_nil))))
    (as_one (as_ret (a_callTy call_tuple_of cal_tuple (by rfl) z_tuple (by decide +kernel) (aa_cons (a_lc [("number", 4), ("seller", 5), ("_", 2)] rfl sc_sells_of.nd (ai_enum (by rfl) z_enumerate (aa_cons (a_var 3) aa_nil)) (blkOk_by (own := [("number", 4), ("seller", 5), ("_", 2)]) (N := ["web", "house", "_", "contracts", "number", "seller"]) (sc := defScope st_sells_of) (by decide +kernel)) (fun _ _ _ _ _ => (ag_tup rfl (ags_cons (ag_name 4 sc_sells_of.nd rfl (by first | exact Or.inl rfl | exact Or.inr rfl)) (ags_cons (ag_tup rfl (ags_cons (ag_name 5 sc_sells_of.nd rfl (by first | exact Or.inl rfl | exact Or.inr rfl)) (ags_cons (ag_name 2 sc_sells_of.nd rfl (by first | exact Or.inl rfl | exact Or.inr rfl)) (ags_cons (ag_name 2 sc_sells_of.nd rfl (by first | exact Or.inl rfl | exact Or.inr rfl)) ags_nil)))) ags_nil)))) (fun _ _ _ _ _ => (ats_one (at_cmp (op_eqP hr.units) bin_eq (a_var 5) (a_var 1) (nomark _)))) (fun _ _ _ _ _ => (a_var 4))) aa_nil)))))) (fun xs L q h => ?_)
  unfold sp_sells_of at h
  split at h
  · rename_i hs cs hh
    obtain ⟨hc, hl, hq⟩ := h
    walk_at "w"
    refine ⟨by rw [enumD_len]; omega, fun i acc L => acc = selN (isSeller hh) cs i ∧ L = [], ⟨rfl, rfl⟩, fun _ _ _ _ _ => trivial, ?_, ?_⟩
    · rintro i x acc L' hx - ⟨rfl, rfl⟩
      obtain ⟨d, hd, rfl⟩ := enumD_at hx
      obtain ⟨a, b, p, rfl⟩ := hc d (List.mem_of_getElem? hd)
      walk_at "g"
      refine ⟨fun hb => ?_, fun hb => ?_⟩
      · walk_at "g"
        refine Back0.all ⟨(selN_yes hd ?_).symm, rfl⟩
        simpa [isSeller] using hb
      · walk_at "g"
        refine Back0.all ⟨(selN_no hd ?_).symm, rfl⟩
        simpa [isSeller] using hb
    · rintro acc L' - ⟨rfl, rfl⟩
      rw [enumD_len]
      walk_at "g"
      exact Exit.mk [] hq
  · exact h.elim
def sp_law : ASp := fun xs L q => match xs, L with
  | [.d (.list ss)], [] => DR ss ∧ ss.length ≤ 63 ∧ q (.d (.bool true)) []
  | _, _ => False
theorem len_law : ∀ xs L q, sp_law xs L q → xs.length = 1 := by
  unfold sp_law
  walk_at "l"
abbrev st_law : Stmt := topS 25
theorem sc_law : FnScope ["script", "draws", "cell", "web", "numbers", "k", "house", "one"] ["script"] (defScope st_law) := ⟨rfl, rfl, rfl, by decide +kernel, rfl, by decide +kernel, by decide +kernel⟩
theorem ok_law {f : Addr} {fd : FuncData} (F : Fun K "law" "law" st_law f fd) {f_law_draws : Addr} {fd_law_draws : FuncData} (g_law_draws : mg "_law_draws" = some (.ref f_law_draws)) (k_law_draws : PySem.W.keepIn K (.ref f_law_draws) = true) (b_law_draws : Binds K fd_law_draws ["script", "many"] []) (G_law_draws : FnOk P w K mg base CX0 1 f_law_draws fd_law_draws ["script", "many"] (upF P w K sp_law_draws)) {f_law_cell : Addr} {fd_law_cell : FuncData} (g_law_cell : mg "_law_cell" = some (.ref f_law_cell)) (k_law_cell : PySem.W.keepIn K (.ref f_law_cell) = true) (b_law_cell : Binds K fd_law_cell ["script", "draws"] []) (G_law_cell : FnOk P w K mg base CX0 2 f_law_cell fd_law_cell ["script", "draws"] (upF P w K sp_law_cell)) {f_law_web : Addr} {fd_law_web : FuncData} (g_law_web : mg "_law_web" = some (.ref f_law_web)) (k_law_web : PySem.W.keepIn K (.ref f_law_web) = true) (b_law_web : Binds K fd_law_web ["draws", "cell", "sizes", "tables"] []) (G_law_web : FnOk P w K mg base CX0 7 f_law_web fd_law_web ["draws", "cell", "sizes", "tables"] (upF P w K sp_law_web)) {f_law_sizes : Addr} {fd_law_sizes : FuncData} (g_law_sizes : mg "_law_sizes" = some (.ref f_law_sizes)) (k_law_sizes : PySem.W.keepIn K (.ref f_law_sizes) = true) (b_law_sizes : Binds K fd_law_sizes ["draws"] []) (G_law_sizes : FnOk P w K mg base CX0 2 f_law_sizes fd_law_sizes ["draws"] (upF P w K sp_law_sizes)) {f_law_same : Addr} {fd_law_same : FuncData} (g_law_same : mg "_law_same" = some (.ref f_law_same)) (k_law_same : PySem.W.keepIn K (.ref f_law_same) = true) (b_law_same : Binds K fd_law_same ["actual", "due"] []) (G_law_same : FnOk P w K mg base CX0 4 f_law_same fd_law_same ["actual", "due"] (upF P w K sp_law_same)) {f_buys_of : Addr} {fd_buys_of : FuncData} (g_buys_of : mg "buys_of" = some (.ref f_buys_of)) (k_buys_of : PySem.W.keepIn K (.ref f_buys_of) = true) (b_buys_of : Binds K fd_buys_of ["web", "house"] []) (G_buys_of : FnOk P w K mg base CX0 1 f_buys_of fd_buys_of ["web", "house"] (upF P w K sp_buys_of)) {f_sells_of : Addr} {fd_sells_of : FuncData} (g_sells_of : mg "sells_of" = some (.ref f_sells_of)) (k_sells_of : PySem.W.keepIn K (.ref f_sells_of) = true) (b_sells_of : Binds K fd_sells_of ["web", "house"] []) (G_sells_of : FnOk P w K mg base CX0 1 f_sells_of fd_sells_of ["web", "house"] (upF P w K sp_sells_of)) (z_range : mg "range" = none) (z_len : mg "len" = none) (z_tuple : mg "tuple" = none) : FnOk P w K mg base CX0 8 f fd ["script"] (upF P w K sp_law) := by
  refine fn_ok F sc_law len_law (fun cdv A outer s H E hr => (as_cons (as_set 1 sc_law.nd rfl (by first | exact Or.inl rfl | exact Or.inr rfl) (a_call G_law_draws (hr.mono (by decide)) (by rfl) g_law_draws k_law_draws b_law_draws (aa_cons (a_var 0) (aa_cons a_int aa_nil))))
    (as_cons (as_set 2 sc_law.nd rfl (by first | exact Or.inl rfl | exact Or.inr rfl) (a_call G_law_cell (hr.mono (by decide)) (by rfl) g_law_cell k_law_cell b_law_cell (aa_cons (a_var 0) (aa_cons (a_var 1) aa_nil))))
    (as_cons (as_set 3 sc_law.nd rfl (by first | exact Or.inl rfl | exact Or.inr rfl) (a_call G_law_web (hr.mono (by decide)) (by rfl) g_law_web k_law_web b_law_web (aa_cons (a_var 1) (aa_cons (a_var 2) (aa_cons (a_call G_law_sizes (hr.mono (by decide)) (by rfl) g_law_sizes k_law_sizes b_law_sizes (aa_cons (a_var 1) aa_nil)) (aa_cons a_int aa_nil))))))
    (as_cons (as_setLc 4 [("k", 5)] rfl sc_law.nd rfl rfl (sw_true rfl rfl rfl (by decide +kernel)) (ai_range1 (by rfl) z_range (aa_cons (a_callB call_lenU cal_len (by rfl) z_len (by decide +kernel) (aa_cons (a_ix (a_var 3) a_int) aa_nil)) aa_nil)) (blkOk_by (own := [("k", 5)]) (N := ["script", "draws", "cell", "web", "numbers", "k", "house", "one"]) (sc := defScope st_law) (by decide +kernel)) (fun _ _ _ _ _ => (ag_name 5 sc_law.nd rfl (by first | exact Or.inl rfl | exact Or.inr rfl))) (fun _ _ _ _ _ => ats_nil) (fun _ _ _ _ _ => (a_var 5)))
    (as_cons (as_for PassesOwn.never rfl (ai_range1 (by rfl) z_range (aa_cons (a_callB call_lenU cal_len (by rfl) z_len (by decide +kernel) (aa_cons (a_ix (a_var 3) a_int) aa_nil)) aa_nil)) (ag_name 6 sc_law.nd rfl (by first | exact Or.inl rfl | exact Or.inr rfl)) (as_cons (as_if (at_not (at_val (a_call G_law_same (hr.mono (by decide)) (by rfl) g_law_same k_law_same b_law_same (aa_cons (a_call G_buys_of (hr.mono (by decide)) (by rfl) g_buys_of k_buys_of b_buys_of (aa_cons (a_var 3) (aa_cons (a_var 6) aa_nil))) (aa_cons (a_callTy call_tuple_of cal_tuple (by rfl) z_tuple (by decide +kernel) (aa_cons (a_lc [("one", 7)] rfl sc_law.nd (ai_seq (a_var 4)) (blkOk_by (own := [("one", 7)]) (N := ["script", "draws", "cell", "web", "numbers", "k", "house", "one"]) (sc := defScope st_law) (by decide +kernel)) (fun _ _ _ _ _ => (ag_name 7 sc_law.nd rfl (by first | exact Or.inl rfl | exact Or.inr rfl))) (fun _ _ _ _ _ => (ats_one (at_cmp (op_eqP hr.units) bin_eq (a_ix (a_ix (a_ix (a_var 3) a_int) (a_var 7)) a_int) (a_var 6) (nomark _)))) (fun _ _ _ _ _ => (a_var 7))) aa_nil)) aa_nil))))) (as_one (as_ret a_bl)) as_nil)
    (as_one (as_if (at_not (at_val (a_call G_law_same (hr.mono (by decide)) (by rfl) g_law_same k_law_same b_law_same (aa_cons (a_call G_sells_of (hr.mono (by decide)) (by rfl) g_sells_of k_sells_of b_sells_of (aa_cons (a_var 3) (aa_cons (a_var 6) aa_nil))) (aa_cons (a_callTy call_tuple_of cal_tuple (by rfl) z_tuple (by decide +kernel) (aa_cons (a_lc [("one", 7)] rfl sc_law.nd (ai_seq (a_var 4)) (blkOk_by (own := [("one", 7)]) (N := ["script", "draws", "cell", "web", "numbers", "k", "house", "one"]) (sc := defScope st_law) (by decide +kernel)) (fun _ _ _ _ _ => (ag_name 7 sc_law.nd rfl (by first | exact Or.inl rfl | exact Or.inr rfl))) (fun _ _ _ _ _ => (ats_one (at_cmp (op_eqP hr.units) bin_eq (a_ix (a_ix (a_ix (a_var 3) a_int) (a_var 7)) a_int) (a_var 6) (nomark _)))) (fun _ _ _ _ _ => (a_var 7))) aa_nil)) aa_nil))))) (as_one (as_ret a_bl)) as_nil))))
    (as_one (as_ret a_bl)))))))) (fun xs L q h => ?_)
  unfold sp_law at h
  split at h
  · rename_i ss
    obtain ⟨hs, hl, hq⟩ := h
    walk_at "c"
    intro ds hd
    walk_at "c"
    intro c ds1 hd1
    walk_at "c"
    intro a b ds2 hd2 ha ha' hb hb'
    walk_at "c"
    intro ds3 hs' cs hd3 hc hcl hhl
    walk_at "g"
    refine ⟨_, rfl, ?_⟩
    walk_at "g"
    refine ⟨fun i acc L => acc = (List.range i).map (fun (k : Nat) => PyData.int (k : Int)) ∧ L = [.dl ds3, .dl [.int a, .int b]], ⟨rfl, rfl⟩, fun _ _ _ _ _ => trivial, ?_, ?_⟩
    · rintro i x acc L' hx - ⟨rfl, rfl⟩
      obtain ⟨hi, rfl⟩ := range_at hx
      walk_at "v"
      exact Back0.mk [0, 1] ⟨by rw [List.range_succ, List.map_append]; simp, rfl⟩
    · rintro acc L' - ⟨rfl, rfl⟩
      rw [range_len]
      generalize hnd : (List.range ((cs.length : Int)).toNat).map (fun (k : Nat) => PyData.int (k : Int)) = nums
      have hnl : nums.length = cs.length := by rw [← hnd, List.length_map, List.length_range]; omega
      have hnum : ∀ (i : Nat) (d : D), nums[i]? = some d → i < cs.length ∧ d = .int (i : Int) := by
        rw [← hnd]
        intro i d hd
        rw [List.getElem?_map] at hd
        obtain ⟨j, hj, rfl⟩ := Option.map_eq_some_iff.mp hd
        obtain ⟨h1, h2⟩ := List.getElem?_eq_some_iff.mp hj
        simp at h1 h2
        subst h2
        exact ⟨by omega, rfl⟩
      walk_at "g"
      refine ⟨_, rfl, ?_⟩
      walk_at "g"
      refine ⟨fun i δ L => ∃ y6, δ = [some (.d (.list ss)), some (.ref 0), some (.d (.int c)), some (.d (.tuple [.tuple hs', .tuple cs])), some (.ref 2), none, y6, none] ∧ L = [.dl ds3, .dl [.int a, .int b], .dl nums], ⟨_, rfl, rfl⟩, fun _ _ _ _ _ => trivial, ?_, ?_⟩
      · rintro i0 x δ' L' hx ⟨y6, rfl, rfl⟩
        obtain ⟨hi, rfl⟩ := range_at hx
        walk_at "c"
        walk_at "g"
        refine ⟨fun i acc L => acc = selN (isBuyer (0 + (i0 : Int))) cs i ∧ L = [.dl ds3, .dl [.int a, .int b], .dl nums], ⟨rfl, rfl⟩, ?_, ?_, ?_⟩
        · rintro i acc L' - ⟨-, rfl⟩
          rfl
        · rintro i x acc L' hx - ⟨rfl, rfl⟩
          obtain ⟨d, hx1, rfl⟩ := d_at hx
          obtain ⟨hi, rfl⟩ := hnum i d hx1
          obtain ⟨d, hd0, hd1⟩ := atI_nn (xs := cs) (i := (i : Int)) (by omega) (by omega)
          obtain ⟨u, v, p, rfl⟩ := hc d (List.mem_of_getElem? hd0)
          have hd0 : cs[i]? = some _ := hd0
          walk_at "g"
          refine ⟨_, rfl, ?_⟩
          walk_at "g"
          refine ⟨_, hd1, ?_⟩
          walk_at "g"
          refine ⟨_, rfl, ?_⟩
          walk_at "g"
          refine ⟨fun hb => ?_, fun hb => ?_⟩
          · walk_at "g"
            refine Back0.mk [0, 1, 2] ⟨(selN_yes hd0 ?_).symm, rfl⟩
            simpa [isBuyer] using hb
          · walk_at "g"
            refine Back0.mk [0, 1, 2] ⟨(selN_no hd0 ?_).symm, rfl⟩
            simpa [isBuyer] using hb
        · rintro acc L' - ⟨rfl, rfl⟩
          rw [List.length_map, hnl]
          walk_at "g"
          refine call_go ?_
          refine ⟨rfl, .tup 3 _ (selN_sm _) (Nat.le_trans (selN_len _) (by omega)), ?_⟩
          walk_at "v"
          walk_at "c"
          walk_at "g"
          refine ⟨fun i acc L => acc = selN (isSeller (0 + (i0 : Int))) cs i ∧ L = [.dl ds3, .dl [.int a, .int b], .dl nums, .dl (selN (isBuyer (0 + (i0 : Int))) cs cs.length)], ⟨rfl, rfl⟩, ?_, ?_, ?_⟩
          · rintro i acc L' - ⟨-, rfl⟩
            rfl
          · rintro i x acc L' hx - ⟨rfl, rfl⟩
            obtain ⟨d, hx1, rfl⟩ := d_at hx
            obtain ⟨hi, rfl⟩ := hnum i d hx1
            obtain ⟨d, hd0, hd1⟩ := atI_nn (xs := cs) (i := (i : Int)) (by omega) (by omega)
            obtain ⟨u, v, p, rfl⟩ := hc d (List.mem_of_getElem? hd0)
            have hd0 : cs[i]? = some _ := hd0
            walk_at "g"
            refine ⟨_, rfl, ?_⟩
            walk_at "g"
            refine ⟨_, hd1, ?_⟩
            walk_at "g"
            refine ⟨_, rfl, ?_⟩
            walk_at "g"
            refine ⟨fun hb => ?_, fun hb => ?_⟩
            · walk_at "g"
              refine Back0.mk [0, 1, 2, 3] ⟨(selN_yes hd0 ?_).symm, rfl⟩
              simpa [isSeller] using hb
            · walk_at "g"
              refine Back0.mk [0, 1, 2, 3] ⟨(selN_no hd0 ?_).symm, rfl⟩
              simpa [isSeller] using hb
          · rintro acc L' - ⟨rfl, rfl⟩
            rw [List.length_map, hnl]
            walk_at "g"
            refine call_go ?_
            refine ⟨rfl, .tup 3 _ (selN_sm _) (Nat.le_trans (selN_len _) (by omega)), ?_⟩
            walk_at "v"
            exact Back.mk [0, 1, 2] ⟨_, rfl, rfl⟩
      · rintro δ' L' ⟨y6, rfl, rfl⟩
        walk_at "g"
        exact Exit.mk [] hq
  · exact h.elim
end
end T


set_option Elab.async false
set_option linter.all false
set_option maxRecDepth 100000
set_option maxHeartbeats 4000000
namespace T
open PySem L2 AB PyProof.Rows
local macro_rules | `(tactic| walk_at "w") => `(tactic| (conv => whnf))
local macro_rules | `(tactic| walk_at "s") => `(tactic| first | assumption | omega | (simp only [List.length_map, range_len, rangeC_len, Int.toNat_natCast]; omega) | rfl | decide | (show (0 : Int) < _; first | decide | omega) | (refine And.intro ?_ ?_ <;> first | decide | omega) | (refine And.intro ?_ (And.intro ?_ ?_) <;> first | decide | omega) | (rw [sizeLine_eq]; omega) | (rw [sizeLine_eq]; simp; done) | (rw [sizeLine_eq]; simp; omega) | (refine Or.inr ?_; decide) | (refine Or.inl ?_; decide) | (refine Or.inl (And.intro ?_ ?_) <;> omega) | (refine Or.inr (And.intro ?_ ?_) <;> omega))
local macro_rules | `(tactic| walk_at "g") => `(tactic| (walk_at "w"; repeat (refine And.intro (by walk_at "s") ?_; walk_at "w")))
local macro_rules | `(tactic| walk_at "l") => `(tactic| (intro xs L q h; (split at h <;> first | rfl | exact h.elim)))
local macro_rules | `(tactic| walk_at "c") => `(tactic| (walk_at "g"; refine call_go ?_; walk_at "g"))
local macro_rules | `(tactic| walk_at "b") => `(tactic| first | refine And.intro (fun (z : false = true) => by cases z) (fun (_ : false = false) => ?_) | refine And.intro (fun (_ : true = true) => ?_) (fun (z : true = false) => by cases z) | refine And.intro (fun (z : decide _ = true) => (fun _ => ?_) (of_decide_eq_true z)) (fun (z : decide _ = false) => (fun _ => ?_) (of_decide_eq_false z)) | refine And.intro (fun (_ : _ = true) => ?_) (fun (_ : _ = false) => ?_) | fail)
local macro_rules | `(tactic| walk_at "v") => `(tactic| (walk_at "g"; repeat' (walk_at "b" <;> walk_at "g")))

section
theorem law_start {P : Program} {w : World} {K : PySem.W.Frag} {H : Hp} {a : Addr} {ns : List Int} {E : XK} (hl : ns.length ≤ 63) (hO : Only H) (hS : SqL K H a (ns.map V.int)) : upF P w K sp_law [.ref a] H (fun v _ => v = .bl true) E := by
  have hF : SqF K H a (ns.map V.int) := by
    rcases hS with hS | hS
    · rcases hS with hS | hS
      · rcases hO a with h | ⟨o, xs, h⟩
        · rw [h] at hS; cases hS
        · rw [h] at hS; cases hS
      · exact .inl hS
    · exact .inr hS
  refine ⟨[.d (.list (ns.map PyData.int))], [], fun x _ => x = .d (.bool true), [], ⟨DR.ints ns, by rw [List.length_map]; exact hl, rfl⟩, ⟨List.nodup_nil, rfl, fun k o h => by simp at h⟩, .cons ⟨a, _, rfl, hF, Rs.ints.mpr rfl⟩ .nil, ?_⟩
  rintro x L' ρ' v H' rfl - - r
  exact r
theorem all_mk {l : PySem.W.OpenLaw} {w : World} {K : PySem.W.Frag} {h : Heap} {mg : Str → Option Value} {fa : Addr} (X : K.In h) (G : h.Ns mainGlobals mg) (hfa : mg "law" = some (.ref fa))
    {f_law_draws : Addr} {od_law_draws an_law_draws : Option Addr} {sl_law_draws : Array (Option Value)} {oc_law_draws kV_law_draws dc_law_draws pm_law_draws cd_law_draws ct_law_draws : Value} (a_law_draws : PySem.W.nsIn K mainGlobals "_law_draws" = some (some (.ref f_law_draws))) (l_law_draws : K.lookup f_law_draws = some ⟨oc_law_draws, od_law_draws, .func (PySem.W.fnOf "_law_draws" "_law_draws" (defArgs st_law_draws) (defBody st_law_draws) (defScope st_law_draws) .none kV_law_draws dc_law_draws pm_law_draws an_law_draws cd_law_draws ct_law_draws), sl_law_draws⟩) (c_law_draws : PySem.W.codeIn K cd_law_draws "_law_draws" = true) (k_law_draws : PySem.W.keepIn K (.ref f_law_draws) = true)
    {f_law_take : Addr} {od_law_take an_law_take : Option Addr} {sl_law_take : Array (Option Value)} {oc_law_take kV_law_take dc_law_take pm_law_take cd_law_take ct_law_take : Value} (a_law_take : PySem.W.nsIn K mainGlobals "_law_take" = some (some (.ref f_law_take))) (l_law_take : K.lookup f_law_take = some ⟨oc_law_take, od_law_take, .func (PySem.W.fnOf "_law_take" "_law_take" (defArgs st_law_take) (defBody st_law_take) (defScope st_law_take) .none kV_law_take dc_law_take pm_law_take an_law_take cd_law_take ct_law_take), sl_law_take⟩) (c_law_take : PySem.W.codeIn K cd_law_take "_law_take" = true) (k_law_take : PySem.W.keepIn K (.ref f_law_take) = true)
    {f_law_cell : Addr} {od_law_cell an_law_cell : Option Addr} {sl_law_cell : Array (Option Value)} {oc_law_cell kV_law_cell dc_law_cell pm_law_cell cd_law_cell ct_law_cell : Value} (a_law_cell : PySem.W.nsIn K mainGlobals "_law_cell" = some (some (.ref f_law_cell))) (l_law_cell : K.lookup f_law_cell = some ⟨oc_law_cell, od_law_cell, .func (PySem.W.fnOf "_law_cell" "_law_cell" (defArgs st_law_cell) (defBody st_law_cell) (defScope st_law_cell) .none kV_law_cell dc_law_cell pm_law_cell an_law_cell cd_law_cell ct_law_cell), sl_law_cell⟩) (c_law_cell : PySem.W.codeIn K cd_law_cell "_law_cell" = true) (k_law_cell : PySem.W.keepIn K (.ref f_law_cell) = true)
    {f_law_word : Addr} {od_law_word an_law_word : Option Addr} {sl_law_word : Array (Option Value)} {oc_law_word kV_law_word dc_law_word pm_law_word cd_law_word ct_law_word : Value} (a_law_word : PySem.W.nsIn K mainGlobals "_law_word" = some (some (.ref f_law_word))) (l_law_word : K.lookup f_law_word = some ⟨oc_law_word, od_law_word, .func (PySem.W.fnOf "_law_word" "_law_word" (defArgs st_law_word) (defBody st_law_word) (defScope st_law_word) .none kV_law_word dc_law_word pm_law_word an_law_word cd_law_word ct_law_word), sl_law_word⟩) (c_law_word : PySem.W.codeIn K cd_law_word "_law_word" = true) (k_law_word : PySem.W.keepIn K (.ref f_law_word) = true)
    {f_law_some_word : Addr} {od_law_some_word an_law_some_word : Option Addr} {sl_law_some_word : Array (Option Value)} {oc_law_some_word kV_law_some_word dc_law_some_word pm_law_some_word cd_law_some_word ct_law_some_word : Value} (a_law_some_word : PySem.W.nsIn K mainGlobals "_law_some_word" = some (some (.ref f_law_some_word))) (l_law_some_word : K.lookup f_law_some_word = some ⟨oc_law_some_word, od_law_some_word, .func (PySem.W.fnOf "_law_some_word" "_law_some_word" (defArgs st_law_some_word) (defBody st_law_some_word) (defScope st_law_some_word) .none kV_law_some_word dc_law_some_word pm_law_some_word an_law_some_word cd_law_some_word ct_law_some_word), sl_law_some_word⟩) (c_law_some_word : PySem.W.codeIn K cd_law_some_word "_law_some_word" = true) (k_law_some_word : PySem.W.keepIn K (.ref f_law_some_word) = true)
    {f_law_names : Addr} {od_law_names an_law_names : Option Addr} {sl_law_names : Array (Option Value)} {oc_law_names kV_law_names dc_law_names pm_law_names cd_law_names ct_law_names : Value} (a_law_names : PySem.W.nsIn K mainGlobals "_law_names" = some (some (.ref f_law_names))) (l_law_names : K.lookup f_law_names = some ⟨oc_law_names, od_law_names, .func (PySem.W.fnOf "_law_names" "_law_names" (defArgs st_law_names) (defBody st_law_names) (defScope st_law_names) .none kV_law_names dc_law_names pm_law_names an_law_names cd_law_names ct_law_names), sl_law_names⟩) (c_law_names : PySem.W.codeIn K cd_law_names "_law_names" = true) (k_law_names : PySem.W.keepIn K (.ref f_law_names) = true)
    {f_law_sides : Addr} {od_law_sides an_law_sides : Option Addr} {sl_law_sides : Array (Option Value)} {oc_law_sides kV_law_sides dc_law_sides pm_law_sides cd_law_sides ct_law_sides : Value} (a_law_sides : PySem.W.nsIn K mainGlobals "_law_sides" = some (some (.ref f_law_sides))) (l_law_sides : K.lookup f_law_sides = some ⟨oc_law_sides, od_law_sides, .func (PySem.W.fnOf "_law_sides" "_law_sides" (defArgs st_law_sides) (defBody st_law_sides) (defScope st_law_sides) .none kV_law_sides dc_law_sides pm_law_sides an_law_sides cd_law_sides ct_law_sides), sl_law_sides⟩) (c_law_sides : PySem.W.codeIn K cd_law_sides "_law_sides" = true) (k_law_sides : PySem.W.keepIn K (.ref f_law_sides) = true)
    {f_law_shuffled : Addr} {od_law_shuffled an_law_shuffled : Option Addr} {sl_law_shuffled : Array (Option Value)} {oc_law_shuffled kV_law_shuffled dc_law_shuffled pm_law_shuffled cd_law_shuffled ct_law_shuffled : Value} (a_law_shuffled : PySem.W.nsIn K mainGlobals "_law_shuffled" = some (some (.ref f_law_shuffled))) (l_law_shuffled : K.lookup f_law_shuffled = some ⟨oc_law_shuffled, od_law_shuffled, .func (PySem.W.fnOf "_law_shuffled" "_law_shuffled" (defArgs st_law_shuffled) (defBody st_law_shuffled) (defScope st_law_shuffled) .none kV_law_shuffled dc_law_shuffled pm_law_shuffled an_law_shuffled cd_law_shuffled ct_law_shuffled), sl_law_shuffled⟩) (c_law_shuffled : PySem.W.codeIn K cd_law_shuffled "_law_shuffled" = true) (k_law_shuffled : PySem.W.keepIn K (.ref f_law_shuffled) = true)
    {f_law_graph : Addr} {od_law_graph an_law_graph : Option Addr} {sl_law_graph : Array (Option Value)} {oc_law_graph kV_law_graph dc_law_graph pm_law_graph cd_law_graph ct_law_graph : Value} (a_law_graph : PySem.W.nsIn K mainGlobals "_law_graph" = some (some (.ref f_law_graph))) (l_law_graph : K.lookup f_law_graph = some ⟨oc_law_graph, od_law_graph, .func (PySem.W.fnOf "_law_graph" "_law_graph" (defArgs st_law_graph) (defBody st_law_graph) (defScope st_law_graph) .none kV_law_graph dc_law_graph pm_law_graph an_law_graph cd_law_graph ct_law_graph), sl_law_graph⟩) (c_law_graph : PySem.W.codeIn K cd_law_graph "_law_graph" = true) (k_law_graph : PySem.W.keepIn K (.ref f_law_graph) = true)
    {f_law_price : Addr} {od_law_price an_law_price : Option Addr} {sl_law_price : Array (Option Value)} {oc_law_price kV_law_price dc_law_price pm_law_price cd_law_price ct_law_price : Value} (a_law_price : PySem.W.nsIn K mainGlobals "_law_price" = some (some (.ref f_law_price))) (l_law_price : K.lookup f_law_price = some ⟨oc_law_price, od_law_price, .func (PySem.W.fnOf "_law_price" "_law_price" (defArgs st_law_price) (defBody st_law_price) (defScope st_law_price) .none kV_law_price dc_law_price pm_law_price an_law_price cd_law_price ct_law_price), sl_law_price⟩) (c_law_price : PySem.W.codeIn K cd_law_price "_law_price" = true) (k_law_price : PySem.W.keepIn K (.ref f_law_price) = true)
    {f_law_room : Addr} {od_law_room an_law_room : Option Addr} {sl_law_room : Array (Option Value)} {oc_law_room kV_law_room dc_law_room pm_law_room cd_law_room ct_law_room : Value} (a_law_room : PySem.W.nsIn K mainGlobals "_law_room" = some (some (.ref f_law_room))) (l_law_room : K.lookup f_law_room = some ⟨oc_law_room, od_law_room, .func (PySem.W.fnOf "_law_room" "_law_room" (defArgs st_law_room) (defBody st_law_room) (defScope st_law_room) .none kV_law_room dc_law_room pm_law_room an_law_room cd_law_room ct_law_room), sl_law_room⟩) (c_law_room : PySem.W.codeIn K cd_law_room "_law_room" = true) (k_law_room : PySem.W.keepIn K (.ref f_law_room) = true)
    {f_law_groups : Addr} {od_law_groups an_law_groups : Option Addr} {sl_law_groups : Array (Option Value)} {oc_law_groups kV_law_groups dc_law_groups pm_law_groups cd_law_groups ct_law_groups : Value} (a_law_groups : PySem.W.nsIn K mainGlobals "_law_groups" = some (some (.ref f_law_groups))) (l_law_groups : K.lookup f_law_groups = some ⟨oc_law_groups, od_law_groups, .func (PySem.W.fnOf "_law_groups" "_law_groups" (defArgs st_law_groups) (defBody st_law_groups) (defScope st_law_groups) .none kV_law_groups dc_law_groups pm_law_groups an_law_groups cd_law_groups ct_law_groups), sl_law_groups⟩) (c_law_groups : PySem.W.codeIn K cd_law_groups "_law_groups" = true) (k_law_groups : PySem.W.keepIn K (.ref f_law_groups) = true)
    {f_law_subset : Addr} {od_law_subset an_law_subset : Option Addr} {sl_law_subset : Array (Option Value)} {oc_law_subset kV_law_subset dc_law_subset pm_law_subset cd_law_subset ct_law_subset : Value} (a_law_subset : PySem.W.nsIn K mainGlobals "_law_subset" = some (some (.ref f_law_subset))) (l_law_subset : K.lookup f_law_subset = some ⟨oc_law_subset, od_law_subset, .func (PySem.W.fnOf "_law_subset" "_law_subset" (defArgs st_law_subset) (defBody st_law_subset) (defScope st_law_subset) .none kV_law_subset dc_law_subset pm_law_subset an_law_subset cd_law_subset ct_law_subset), sl_law_subset⟩) (c_law_subset : PySem.W.codeIn K cd_law_subset "_law_subset" = true) (k_law_subset : PySem.W.keepIn K (.ref f_law_subset) = true)
    {f_law_table : Addr} {od_law_table an_law_table : Option Addr} {sl_law_table : Array (Option Value)} {oc_law_table kV_law_table dc_law_table pm_law_table cd_law_table ct_law_table : Value} (a_law_table : PySem.W.nsIn K mainGlobals "_law_table" = some (some (.ref f_law_table))) (l_law_table : K.lookup f_law_table = some ⟨oc_law_table, od_law_table, .func (PySem.W.fnOf "_law_table" "_law_table" (defArgs st_law_table) (defBody st_law_table) (defScope st_law_table) .none kV_law_table dc_law_table pm_law_table an_law_table cd_law_table ct_law_table), sl_law_table⟩) (c_law_table : PySem.W.codeIn K cd_law_table "_law_table" = true) (k_law_table : PySem.W.keepIn K (.ref f_law_table) = true)
    {f_law_wish : Addr} {od_law_wish an_law_wish : Option Addr} {sl_law_wish : Array (Option Value)} {oc_law_wish kV_law_wish dc_law_wish pm_law_wish cd_law_wish ct_law_wish : Value} (a_law_wish : PySem.W.nsIn K mainGlobals "_law_wish" = some (some (.ref f_law_wish))) (l_law_wish : K.lookup f_law_wish = some ⟨oc_law_wish, od_law_wish, .func (PySem.W.fnOf "_law_wish" "_law_wish" (defArgs st_law_wish) (defBody st_law_wish) (defScope st_law_wish) .none kV_law_wish dc_law_wish pm_law_wish an_law_wish cd_law_wish ct_law_wish), sl_law_wish⟩) (c_law_wish : PySem.W.codeIn K cd_law_wish "_law_wish" = true) (k_law_wish : PySem.W.keepIn K (.ref f_law_wish) = true)
    {f_law_plain_choice : Addr} {od_law_plain_choice an_law_plain_choice : Option Addr} {sl_law_plain_choice : Array (Option Value)} {oc_law_plain_choice kV_law_plain_choice dc_law_plain_choice pm_law_plain_choice cd_law_plain_choice ct_law_plain_choice : Value} (a_law_plain_choice : PySem.W.nsIn K mainGlobals "_law_plain_choice" = some (some (.ref f_law_plain_choice))) (l_law_plain_choice : K.lookup f_law_plain_choice = some ⟨oc_law_plain_choice, od_law_plain_choice, .func (PySem.W.fnOf "_law_plain_choice" "_law_plain_choice" (defArgs st_law_plain_choice) (defBody st_law_plain_choice) (defScope st_law_plain_choice) .none kV_law_plain_choice dc_law_plain_choice pm_law_plain_choice an_law_plain_choice cd_law_plain_choice ct_law_plain_choice), sl_law_plain_choice⟩) (c_law_plain_choice : PySem.W.codeIn K cd_law_plain_choice "_law_plain_choice" = true) (k_law_plain_choice : PySem.W.keepIn K (.ref f_law_plain_choice) = true)
    {f_law_split : Addr} {od_law_split an_law_split : Option Addr} {sl_law_split : Array (Option Value)} {oc_law_split kV_law_split dc_law_split pm_law_split cd_law_split ct_law_split : Value} (a_law_split : PySem.W.nsIn K mainGlobals "_law_split" = some (some (.ref f_law_split))) (l_law_split : K.lookup f_law_split = some ⟨oc_law_split, od_law_split, .func (PySem.W.fnOf "_law_split" "_law_split" (defArgs st_law_split) (defBody st_law_split) (defScope st_law_split) .none kV_law_split dc_law_split pm_law_split an_law_split cd_law_split ct_law_split), sl_law_split⟩) (c_law_split : PySem.W.codeIn K cd_law_split "_law_split" = true) (k_law_split : PySem.W.keepIn K (.ref f_law_split) = true)
    {f_law_choice : Addr} {od_law_choice an_law_choice : Option Addr} {sl_law_choice : Array (Option Value)} {oc_law_choice kV_law_choice dc_law_choice pm_law_choice cd_law_choice ct_law_choice : Value} (a_law_choice : PySem.W.nsIn K mainGlobals "_law_choice" = some (some (.ref f_law_choice))) (l_law_choice : K.lookup f_law_choice = some ⟨oc_law_choice, od_law_choice, .func (PySem.W.fnOf "_law_choice" "_law_choice" (defArgs st_law_choice) (defBody st_law_choice) (defScope st_law_choice) .none kV_law_choice dc_law_choice pm_law_choice an_law_choice cd_law_choice ct_law_choice), sl_law_choice⟩) (c_law_choice : PySem.W.codeIn K cd_law_choice "_law_choice" = true) (k_law_choice : PySem.W.keepIn K (.ref f_law_choice) = true)
    {f_law_web : Addr} {od_law_web an_law_web : Option Addr} {sl_law_web : Array (Option Value)} {oc_law_web kV_law_web dc_law_web pm_law_web cd_law_web ct_law_web : Value} (a_law_web : PySem.W.nsIn K mainGlobals "_law_web" = some (some (.ref f_law_web))) (l_law_web : K.lookup f_law_web = some ⟨oc_law_web, od_law_web, .func (PySem.W.fnOf "_law_web" "_law_web" (defArgs st_law_web) (defBody st_law_web) (defScope st_law_web) .none kV_law_web dc_law_web pm_law_web an_law_web cd_law_web ct_law_web), sl_law_web⟩) (c_law_web : PySem.W.codeIn K cd_law_web "_law_web" = true) (k_law_web : PySem.W.keepIn K (.ref f_law_web) = true)
    {f_law_sizes : Addr} {od_law_sizes an_law_sizes : Option Addr} {sl_law_sizes : Array (Option Value)} {oc_law_sizes kV_law_sizes dc_law_sizes pm_law_sizes cd_law_sizes ct_law_sizes : Value} (a_law_sizes : PySem.W.nsIn K mainGlobals "_law_sizes" = some (some (.ref f_law_sizes))) (l_law_sizes : K.lookup f_law_sizes = some ⟨oc_law_sizes, od_law_sizes, .func (PySem.W.fnOf "_law_sizes" "_law_sizes" (defArgs st_law_sizes) (defBody st_law_sizes) (defScope st_law_sizes) .none kV_law_sizes dc_law_sizes pm_law_sizes an_law_sizes cd_law_sizes ct_law_sizes), sl_law_sizes⟩) (c_law_sizes : PySem.W.codeIn K cd_law_sizes "_law_sizes" = true) (k_law_sizes : PySem.W.keepIn K (.ref f_law_sizes) = true)
    {f_law_same : Addr} {od_law_same an_law_same : Option Addr} {sl_law_same : Array (Option Value)} {oc_law_same kV_law_same dc_law_same pm_law_same cd_law_same ct_law_same : Value} (a_law_same : PySem.W.nsIn K mainGlobals "_law_same" = some (some (.ref f_law_same))) (l_law_same : K.lookup f_law_same = some ⟨oc_law_same, od_law_same, .func (PySem.W.fnOf "_law_same" "_law_same" (defArgs st_law_same) (defBody st_law_same) (defScope st_law_same) .none kV_law_same dc_law_same pm_law_same an_law_same cd_law_same ct_law_same), sl_law_same⟩) (c_law_same : PySem.W.codeIn K cd_law_same "_law_same" = true) (k_law_same : PySem.W.keepIn K (.ref f_law_same) = true)
    {f_buys_of : Addr} {od_buys_of an_buys_of : Option Addr} {sl_buys_of : Array (Option Value)} {oc_buys_of kV_buys_of dc_buys_of pm_buys_of cd_buys_of ct_buys_of : Value} (a_buys_of : PySem.W.nsIn K mainGlobals "buys_of" = some (some (.ref f_buys_of))) (l_buys_of : K.lookup f_buys_of = some ⟨oc_buys_of, od_buys_of, .func (PySem.W.fnOf "buys_of" "buys_of" (defArgs st_buys_of) (defBody st_buys_of) (defScope st_buys_of) .none kV_buys_of dc_buys_of pm_buys_of an_buys_of cd_buys_of ct_buys_of), sl_buys_of⟩) (c_buys_of : PySem.W.codeIn K cd_buys_of "buys_of" = true) (k_buys_of : PySem.W.keepIn K (.ref f_buys_of) = true)
    {f_sells_of : Addr} {od_sells_of an_sells_of : Option Addr} {sl_sells_of : Array (Option Value)} {oc_sells_of kV_sells_of dc_sells_of pm_sells_of cd_sells_of ct_sells_of : Value} (a_sells_of : PySem.W.nsIn K mainGlobals "sells_of" = some (some (.ref f_sells_of))) (l_sells_of : K.lookup f_sells_of = some ⟨oc_sells_of, od_sells_of, .func (PySem.W.fnOf "sells_of" "sells_of" (defArgs st_sells_of) (defBody st_sells_of) (defScope st_sells_of) .none kV_sells_of dc_sells_of pm_sells_of an_sells_of cd_sells_of ct_sells_of), sl_sells_of⟩) (c_sells_of : PySem.W.codeIn K cd_sells_of "sells_of" = true) (k_sells_of : PySem.W.keepIn K (.ref f_sells_of) = true)
    {f_law : Addr} {od_law an_law : Option Addr} {sl_law : Array (Option Value)} {oc_law kV_law dc_law pm_law cd_law ct_law : Value} (a_law : PySem.W.nsIn K mainGlobals "law" = some (some (.ref f_law))) (l_law : K.lookup f_law = some ⟨oc_law, od_law, .func (PySem.W.fnOf "law" "law" (defArgs st_law) (defBody st_law) (defScope st_law) .none kV_law dc_law pm_law an_law cd_law ct_law), sl_law⟩) (c_law : PySem.W.codeIn K cd_law "law" = true) (k_law : PySem.W.keepIn K (.ref f_law) = true)
    (z_list : PySem.W.nsIn K mainGlobals "list" = some none) (z_range : PySem.W.nsIn K mainGlobals "range" = some none) (z_int : PySem.W.nsIn K mainGlobals "int" = some none) (z_len : PySem.W.nsIn K mainGlobals "len" = some none) (z_min : PySem.W.nsIn K mainGlobals "min" = some none) (z_abs : PySem.W.nsIn K mainGlobals "abs" = some none) (z_tuple : PySem.W.nsIn K mainGlobals "tuple" = some none) (z_max : PySem.W.nsIn K mainGlobals "max" = some none) (z_sorted : PySem.W.nsIn K mainGlobals "sorted" = some none) (z_isinstance : PySem.W.nsIn K mainGlobals "isinstance" = some none) (z_str : PySem.W.nsIn K mainGlobals "str" = some none) (z_bool : PySem.W.nsIn K mainGlobals "bool" = some none) (z_enumerate : PySem.W.nsIn K mainGlobals "enumerate" = some none) :
    ∃ fd : FuncData, (∀ (s : Shared) (v : Value), BindsTo s fd ⟨[v], []⟩ [("script", v)]) ∧ ∀ base : Heap, K.In base → base.Ns mainGlobals mg → FnOk l.prog w K mg base CX0 8 fa fd ["script"] (upF l.prog w K sp_law) := by
  have e := hfa.symm.trans (PySem.W.mg_of X G a_law)
  cases e
  have F_law_draws := fun_mk (st := st_law_draws) l_law_draws c_law_draws k_law_draws
  have b_law_draws := F_law_draws.binds (ps := ["script", "many"]) fun _ _ _ _ _ _ us hl => match us, hl with | [_, _], _ => rfl
  have g_law_draws := PySem.W.mg_of X G a_law_draws
  have F_law_take := fun_mk (st := st_law_take) l_law_take c_law_take k_law_take
  have b_law_take := F_law_take.binds (ps := ["draws", "many"]) fun _ _ _ _ _ _ us hl => match us, hl with | [_, _], _ => rfl
  have g_law_take := PySem.W.mg_of X G a_law_take
  have F_law_cell := fun_mk (st := st_law_cell) l_law_cell c_law_cell k_law_cell
  have b_law_cell := F_law_cell.binds (ps := ["script", "draws"]) fun _ _ _ _ _ _ us hl => match us, hl with | [_, _], _ => rfl
  have g_law_cell := PySem.W.mg_of X G a_law_cell
  have F_law_word := fun_mk (st := st_law_word) l_law_word c_law_word k_law_word
  have b_law_word := F_law_word.binds (ps := ["number"]) fun _ _ _ _ _ _ us hl => match us, hl with | [_], _ => rfl
  have g_law_word := PySem.W.mg_of X G a_law_word
  have F_law_some_word := fun_mk (st := st_law_some_word) l_law_some_word c_law_some_word k_law_some_word
  have b_law_some_word := F_law_some_word.binds (ps := ["draws"]) fun _ _ _ _ _ _ us hl => match us, hl with | [_], _ => rfl
  have g_law_some_word := PySem.W.mg_of X G a_law_some_word
  have F_law_names := fun_mk (st := st_law_names) l_law_names c_law_names k_law_names
  have b_law_names := F_law_names.binds (ps := ["draws", "many"]) fun _ _ _ _ _ _ us hl => match us, hl with | [_, _], _ => rfl
  have g_law_names := PySem.W.mg_of X G a_law_names
  have F_law_sides := fun_mk (st := st_law_sides) l_law_sides c_law_sides k_law_sides
  have b_law_sides := F_law_sides.binds (ps := ["contracts", "house"]) fun _ _ _ _ _ _ us hl => match us, hl with | [_, _], _ => rfl
  have g_law_sides := PySem.W.mg_of X G a_law_sides
  have F_law_shuffled := fun_mk (st := st_law_shuffled) l_law_shuffled c_law_shuffled k_law_shuffled
  have b_law_shuffled := F_law_shuffled.binds (ps := ["draws", "row"]) fun _ _ _ _ _ _ us hl => match us, hl with | [_, _], _ => rfl
  have g_law_shuffled := PySem.W.mg_of X G a_law_shuffled
  have F_law_graph := fun_mk (st := st_law_graph) l_law_graph c_law_graph k_law_graph
  have b_law_graph := F_law_graph.binds (ps := ["draws", "count", "most"]) fun _ _ _ _ _ _ us hl => match us, hl with | [_, _, _], _ => rfl
  have g_law_graph := PySem.W.mg_of X G a_law_graph
  have F_law_price := fun_mk (st := st_law_price) l_law_price c_law_price k_law_price
  have b_law_price := F_law_price.binds (ps := ["draws", "cell"]) fun _ _ _ _ _ _ us hl => match us, hl with | [_, _], _ => rfl
  have g_law_price := PySem.W.mg_of X G a_law_price
  have F_law_room := fun_mk (st := st_law_room) l_law_room c_law_room k_law_room
  have b_law_room := F_law_room.binds (ps := ["draws", "cell"]) fun _ _ _ _ _ _ us hl => match us, hl with | [_, _], _ => rfl
  have g_law_room := PySem.W.mg_of X G a_law_room
  have F_law_groups := fun_mk (st := st_law_groups) l_law_groups c_law_groups k_law_groups
  have b_law_groups := F_law_groups.binds (ps := ["draws", "contracts", "cell"]) fun _ _ _ _ _ _ us hl => match us, hl with | [_, _, _], _ => rfl
  have g_law_groups := PySem.W.mg_of X G a_law_groups
  have F_law_subset := fun_mk (st := st_law_subset) l_law_subset c_law_subset k_law_subset
  have b_law_subset := F_law_subset.binds (ps := ["draws", "contracts", "share"]) fun _ _ _ _ _ _ us hl => match us, hl with | [_, _, _], _ => rfl
  have g_law_subset := PySem.W.mg_of X G a_law_subset
  have F_law_table := fun_mk (st := st_law_table) l_law_table c_law_table k_law_table
  have b_law_table := F_law_table.binds (ps := ["draws", "own"]) fun _ _ _ _ _ _ us hl => match us, hl with | [_, _], _ => rfl
  have g_law_table := PySem.W.mg_of X G a_law_table
  have F_law_wish := fun_mk (st := st_law_wish) l_law_wish c_law_wish k_law_wish
  have b_law_wish := F_law_wish.binds (ps := ["draws", "contracts"]) fun _ _ _ _ _ _ us hl => match us, hl with | [_, _], _ => rfl
  have g_law_wish := PySem.W.mg_of X G a_law_wish
  have F_law_plain_choice := fun_mk (st := st_law_plain_choice) l_law_plain_choice c_law_plain_choice k_law_plain_choice
  have b_law_plain_choice := F_law_plain_choice.binds (ps := ["draws", "buys", "sells", "cell", "tables"]) fun _ _ _ _ _ _ us hl => match us, hl with | [_, _, _, _, _], _ => rfl
  have g_law_plain_choice := PySem.W.mg_of X G a_law_plain_choice
  have F_law_split := fun_mk (st := st_law_split) l_law_split c_law_split k_law_split
  have b_law_split := F_law_split.binds (ps := ["draws", "buys", "sells", "cell", "tables"]) fun _ _ _ _ _ _ us hl => match us, hl with | [_, _, _, _, _], _ => rfl
  have g_law_split := PySem.W.mg_of X G a_law_split
  have F_law_choice := fun_mk (st := st_law_choice) l_law_choice c_law_choice k_law_choice
  have b_law_choice := F_law_choice.binds (ps := ["draws", "buys", "sells", "cell", "tables"]) fun _ _ _ _ _ _ us hl => match us, hl with | [_, _, _, _, _], _ => rfl
  have g_law_choice := PySem.W.mg_of X G a_law_choice
  have F_law_web := fun_mk (st := st_law_web) l_law_web c_law_web k_law_web
  have b_law_web := F_law_web.binds (ps := ["draws", "cell", "sizes", "tables"]) fun _ _ _ _ _ _ us hl => match us, hl with | [_, _, _, _], _ => rfl
  have g_law_web := PySem.W.mg_of X G a_law_web
  have F_law_sizes := fun_mk (st := st_law_sizes) l_law_sizes c_law_sizes k_law_sizes
  have b_law_sizes := F_law_sizes.binds (ps := ["draws"]) fun _ _ _ _ _ _ us hl => match us, hl with | [_], _ => rfl
  have g_law_sizes := PySem.W.mg_of X G a_law_sizes
  have F_law_same := fun_mk (st := st_law_same) l_law_same c_law_same k_law_same
  have b_law_same := F_law_same.binds (ps := ["actual", "due"]) fun _ _ _ _ _ _ us hl => match us, hl with | [_, _], _ => rfl
  have g_law_same := PySem.W.mg_of X G a_law_same
  have F_buys_of := fun_mk (st := st_buys_of) l_buys_of c_buys_of k_buys_of
  have b_buys_of := F_buys_of.binds (ps := ["web", "house"]) fun _ _ _ _ _ _ us hl => match us, hl with | [_, _], _ => rfl
  have g_buys_of := PySem.W.mg_of X G a_buys_of
  have F_sells_of := fun_mk (st := st_sells_of) l_sells_of c_sells_of k_sells_of
  have b_sells_of := F_sells_of.binds (ps := ["web", "house"]) fun _ _ _ _ _ _ us hl => match us, hl with | [_, _], _ => rfl
  have g_sells_of := PySem.W.mg_of X G a_sells_of
  have F_law := fun_mk (st := st_law) l_law c_law k_law
  have b_law := F_law.binds (ps := ["script"]) fun _ _ _ _ _ _ us hl => match us, hl with | [_], _ => rfl
  have g_law := PySem.W.mg_of X G a_law
  have y_list := PySem.W.mg_none_of X G z_list
  have y_range := PySem.W.mg_none_of X G z_range
  have y_int := PySem.W.mg_none_of X G z_int
  have y_len := PySem.W.mg_none_of X G z_len
  have y_min := PySem.W.mg_none_of X G z_min
  have y_abs := PySem.W.mg_none_of X G z_abs
  have y_tuple := PySem.W.mg_none_of X G z_tuple
  have y_max := PySem.W.mg_none_of X G z_max
  have y_sorted := PySem.W.mg_none_of X G z_sorted
  have y_isinstance := PySem.W.mg_none_of X G z_isinstance
  have y_str := PySem.W.mg_none_of X G z_str
  have y_bool := PySem.W.mg_none_of X G z_bool
  have y_enumerate := PySem.W.mg_none_of X G z_enumerate
  refine ⟨PySem.W.fnOf "law" "law" (defArgs st_law) (defBody st_law) (defScope st_law) .none kV_law dc_law pm_law an_law cd_law ct_law, fun s v => .of_eq rfl, fun base _ _ => ?_⟩
  have G_law_draws := ok_law_draws (P := l.prog) (w := w) (mg := mg) (base := base) F_law_draws y_list y_range y_int y_len
  have G_law_take := ok_law_take (P := l.prog) (w := w) (mg := mg) (base := base) F_law_take y_len y_int
  have G_law_cell := ok_law_cell (P := l.prog) (w := w) (mg := mg) (base := base) F_law_cell g_law_take k_law_take b_law_take G_law_take y_int y_len
  have G_law_word := ok_law_word (P := l.prog) (w := w) (mg := mg) (base := base) F_law_word y_range y_int
  have G_law_some_word := ok_law_some_word (P := l.prog) (w := w) (mg := mg) (base := base) F_law_some_word g_law_take k_law_take b_law_take G_law_take g_law_word k_law_word b_law_word G_law_word y_int
  have G_law_names := ok_law_names (P := l.prog) (w := w) (mg := mg) (base := base) F_law_names g_law_some_word k_law_some_word b_law_some_word G_law_some_word g_law_take k_law_take b_law_take G_law_take y_range
  have G_law_sides := ok_law_sides (P := l.prog) (w := w) (mg := mg) (base := base) F_law_sides y_range y_len
  have G_law_shuffled := ok_law_shuffled (P := l.prog) (w := w) (mg := mg) (base := base) F_law_shuffled g_law_take k_law_take b_law_take G_law_take y_len
  have G_law_graph := ok_law_graph (P := l.prog) (w := w) (mg := mg) (base := base) F_law_graph g_law_shuffled k_law_shuffled b_law_shuffled G_law_shuffled g_law_take k_law_take b_law_take G_law_take y_range y_min y_len
  have G_law_price := ok_law_price (P := l.prog) (w := w) (mg := mg) (base := base) F_law_price g_law_take k_law_take b_law_take G_law_take
  have G_law_room := ok_law_room (P := l.prog) (w := w) (mg := mg) (base := base) F_law_room g_law_take k_law_take b_law_take G_law_take y_abs
  have G_law_groups := ok_law_groups (P := l.prog) (w := w) (mg := mg) (base := base) F_law_groups g_law_shuffled k_law_shuffled b_law_shuffled G_law_shuffled g_law_take k_law_take b_law_take G_law_take y_tuple y_max y_range y_len y_sorted y_abs
  have G_law_subset := ok_law_subset (P := l.prog) (w := w) (mg := mg) (base := base) F_law_subset g_law_take k_law_take b_law_take G_law_take y_tuple y_sorted
  have G_law_table := ok_law_table (P := l.prog) (w := w) (mg := mg) (base := base) F_law_table g_law_subset k_law_subset b_law_subset G_law_subset g_law_take k_law_take b_law_take G_law_take y_range y_tuple y_len
  have G_law_wish := ok_law_wish (P := l.prog) (w := w) (mg := mg) (base := base) F_law_wish g_law_shuffled k_law_shuffled b_law_shuffled G_law_shuffled g_law_take k_law_take b_law_take G_law_take y_tuple
  have G_law_plain_choice := ok_law_plain_choice (P := l.prog) (w := w) (mg := mg) (base := base) F_law_plain_choice g_law_take k_law_take b_law_take G_law_take g_law_room k_law_room b_law_room G_law_room g_law_groups k_law_groups b_law_groups G_law_groups g_law_table k_law_table b_law_table G_law_table g_law_wish k_law_wish b_law_wish G_law_wish g_law_subset k_law_subset b_law_subset G_law_subset y_len
  have G_law_split := ok_law_split (P := l.prog) (w := w) (mg := mg) (base := base) F_law_split g_law_take k_law_take b_law_take G_law_take g_law_plain_choice k_law_plain_choice b_law_plain_choice G_law_plain_choice g_law_groups k_law_groups b_law_groups G_law_groups y_range y_tuple
  have G_law_choice := ok_law_choice (P := l.prog) (w := w) (mg := mg) (base := base) F_law_choice g_law_plain_choice k_law_plain_choice b_law_plain_choice G_law_plain_choice g_law_take k_law_take b_law_take G_law_take g_law_split k_law_split b_law_split G_law_split
  have G_law_web := ok_law_web (P := l.prog) (w := w) (mg := mg) (base := base) F_law_web g_law_names k_law_names b_law_names G_law_names g_law_take k_law_take b_law_take G_law_take g_law_sides k_law_sides b_law_sides G_law_sides g_law_graph k_law_graph b_law_graph G_law_graph g_law_price k_law_price b_law_price G_law_price g_law_choice k_law_choice b_law_choice G_law_choice y_range y_tuple
  have G_law_sizes := ok_law_sizes (P := l.prog) (w := w) (mg := mg) (base := base) F_law_sizes g_law_take k_law_take b_law_take G_law_take
  have G_law_same := same_all (P := l.prog) (w := w) (mg := mg) (base := base) F_law_same g_law_same k_law_same b_law_same y_isinstance y_str y_bool y_tuple y_list y_range y_int y_len 4
  have G_buys_of := ok_buys_of (P := l.prog) (w := w) (mg := mg) (base := base) F_buys_of y_tuple y_enumerate
  have G_sells_of := ok_sells_of (P := l.prog) (w := w) (mg := mg) (base := base) F_sells_of y_tuple y_enumerate
  have G_law := ok_law (P := l.prog) (w := w) (mg := mg) (base := base) F_law g_law_draws k_law_draws b_law_draws G_law_draws g_law_cell k_law_cell b_law_cell G_law_cell g_law_web k_law_web b_law_web G_law_web g_law_sizes k_law_sizes b_law_sizes G_law_sizes g_law_same k_law_same b_law_same G_law_same g_buys_of k_buys_of b_buys_of G_buys_of g_sells_of k_sells_of b_sells_of G_sells_of y_range y_len y_tuple
  exact G_law
end
end T
open PySem PySem.W PyProof.Rows
set_option maxHeartbeats 0 in
theorem PySem.Challenge.cw_nochaingains_k04_buys_and_sells_holds : PySem.Challenge.rw_nochaingains_k04_buys_and_sells.Holds := by
  w_on; o_law; k_head; (case hw => w_witness2)
  k_fill
  refine L2.walk_of (l := PySem.Challenge.rw_nochaingains_k04_buys_and_sells) (n := 63) (k := 8) (x := "script") (CX := fun _ => L2.CX0) (sp := fun w => AB.upF (PySem.Challenge.rw_nochaingains_k04_buys_and_sells).prog w _ T.sp_law) rfl (by decide) rfl ⟨rfl, by decide, by decide⟩ (fun w h Y => PySem.W.kIn_of Y) ?F (fun _ _ a ns hl hO hS => T.law_start hl hO hS) (fun _ _ _ _ _ h => h)
  case F =>
    intro w mg fa h KX G hmg
    refine' T.all_mk KX G hmg ?a_law_draws ?l_law_draws ?c_law_draws ?k_law_draws ?a_law_take ?l_law_take ?c_law_take ?k_law_take ?a_law_cell ?l_law_cell ?c_law_cell ?k_law_cell ?a_law_word ?l_law_word ?c_law_word ?k_law_word ?a_law_some_word ?l_law_some_word ?c_law_some_word ?k_law_some_word ?a_law_names ?l_law_names ?c_law_names ?k_law_names ?a_law_sides ?l_law_sides ?c_law_sides ?k_law_sides ?a_law_shuffled ?l_law_shuffled ?c_law_shuffled ?k_law_shuffled ?a_law_graph ?l_law_graph ?c_law_graph ?k_law_graph ?a_law_price ?l_law_price ?c_law_price ?k_law_price ?a_law_room ?l_law_room ?c_law_room ?k_law_room ?a_law_groups ?l_law_groups ?c_law_groups ?k_law_groups ?a_law_subset ?l_law_subset ?c_law_subset ?k_law_subset ?a_law_table ?l_law_table ?c_law_table ?k_law_table ?a_law_wish ?l_law_wish ?c_law_wish ?k_law_wish ?a_law_plain_choice ?l_law_plain_choice ?c_law_plain_choice ?k_law_plain_choice ?a_law_split ?l_law_split ?c_law_split ?k_law_split ?a_law_choice ?l_law_choice ?c_law_choice ?k_law_choice ?a_law_web ?l_law_web ?c_law_web ?k_law_web ?a_law_sizes ?l_law_sizes ?c_law_sizes ?k_law_sizes ?a_law_same ?l_law_same ?c_law_same ?k_law_same ?a_buys_of ?l_buys_of ?c_buys_of ?k_buys_of ?a_sells_of ?l_sells_of ?c_sells_of ?k_sells_of ?a_law ?l_law ?c_law ?k_law ?z_list ?z_range ?z_int ?z_len ?z_min ?z_abs ?z_tuple ?z_max ?z_sorted ?z_isinstance ?z_str ?z_bool ?z_enumerate
    (case a_law_draws => k_is); (case l_law_draws => k_is); (case c_law_draws => k_is); (case k_law_draws => k_is); (case a_law_take => k_is); (case l_law_take => k_is); (case c_law_take => k_is); (case k_law_take => k_is)
    (case a_law_cell => k_is); (case l_law_cell => k_is); (case c_law_cell => k_is); (case k_law_cell => k_is); (case a_law_word => k_is); (case l_law_word => k_is); (case c_law_word => k_is); (case k_law_word => k_is)
    (case a_law_some_word => k_is); (case l_law_some_word => k_is); (case c_law_some_word => k_is); (case k_law_some_word => k_is); (case a_law_names => k_is); (case l_law_names => k_is); (case c_law_names => k_is); (case k_law_names => k_is)
    (case a_law_sides => k_is); (case l_law_sides => k_is); (case c_law_sides => k_is); (case k_law_sides => k_is); (case a_law_shuffled => k_is); (case l_law_shuffled => k_is); (case c_law_shuffled => k_is); (case k_law_shuffled => k_is)
    (case a_law_graph => k_is); (case l_law_graph => k_is); (case c_law_graph => k_is); (case k_law_graph => k_is); (case a_law_price => k_is); (case l_law_price => k_is); (case c_law_price => k_is); (case k_law_price => k_is)
    (case a_law_room => k_is); (case l_law_room => k_is); (case c_law_room => k_is); (case k_law_room => k_is); (case a_law_groups => k_is); (case l_law_groups => k_is); (case c_law_groups => k_is); (case k_law_groups => k_is)
    (case a_law_subset => k_is); (case l_law_subset => k_is); (case c_law_subset => k_is); (case k_law_subset => k_is); (case a_law_table => k_is); (case l_law_table => k_is); (case c_law_table => k_is); (case k_law_table => k_is)
    (case a_law_wish => k_is); (case l_law_wish => k_is); (case c_law_wish => k_is); (case k_law_wish => k_is); (case a_law_plain_choice => k_is); (case l_law_plain_choice => k_is); (case c_law_plain_choice => k_is); (case k_law_plain_choice => k_is)
    (case a_law_split => k_is); (case l_law_split => k_is); (case c_law_split => k_is); (case k_law_split => k_is); (case a_law_choice => k_is); (case l_law_choice => k_is); (case c_law_choice => k_is); (case k_law_choice => k_is)
    (case a_law_web => k_is); (case l_law_web => k_is); (case c_law_web => k_is); (case k_law_web => k_is); (case a_law_sizes => k_is); (case l_law_sizes => k_is); (case c_law_sizes => k_is); (case k_law_sizes => k_is)
    (case a_law_same => k_is); (case l_law_same => k_is); (case c_law_same => k_is); (case k_law_same => k_is); (case a_buys_of => k_is); (case l_buys_of => k_is); (case c_buys_of => k_is); (case k_buys_of => k_is)
    (case a_sells_of => k_is); (case l_sells_of => k_is); (case c_sells_of => k_is); (case k_sells_of => k_is); (case a_law => k_is); (case l_law => k_is); (case c_law => k_is); (case k_law => k_is)
    (case z_list => k_is); (case z_range => k_is); (case z_int => k_is); (case z_len => k_is); (case z_min => k_is); (case z_abs => k_is); (case z_tuple => k_is); (case z_max => k_is)
    (case z_sorted => k_is); (case z_isinstance => k_is); (case z_str => k_is); (case z_bool => k_is); (case z_enumerate => k_is)
