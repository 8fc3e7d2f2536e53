import PyProof.Rows.All
import Wide.All
import OpenK.AllK
import Wide.FinOn
import PySem.Challenge.RW_causeloops_k01_any_values_as_placements
import HandS.ForMost
import HandS.ForExc
import HandS.Conv
import HandS.IsInst
import HandS.Wide
import HandS.Style
import HandS.TupAny
import HandS.Zip
import HandS.Codes
import HandS.Defaults
import PyProof.ListStr
import KE.KRevSl
import PyProof.ReprRoads
import PyProof.StrLawsRepr
import PyProof.FitsInt
import PyProof.CallFns
import HandS.Text
import PyProof.NeKinds
import OpenK.KMore
set_option Elab.async false
set_option linter.all false
set_option maxRecDepth 100000
set_option maxHeartbeats 4000000
namespace Cal
open PySem PySem.Spec PyProof.Rows L2
/-! ### data -/
inductive D where
  | non | bl (b : Bool) | int (i : Int) | str (s : Str) | raw (v : V)
  | lst (xs : List D) | tup (xs : List D) | dk (kvs : List (Key × D)) | dt (kvs : List (List Key × D))
instance : Inhabited D := ⟨.non⟩
mutual
def Dt (K : PySem.W.Frag) (G : Hp) : D → V → Prop
  | .non, v => v = .non
  | .bl b, v => v = .bl b
  | .int i, v => v = .int i
  | .str s, v => v = .str s
  | .raw u, v => v = u
  | .lst ds, v => ∃ a vs, v = .ref a ∧ G a = some (.lst vs) ∧ DtA K G ds vs
  | .tup ds, v => ∃ a vs, v = .ref a ∧ G a = some (.tup vs) ∧ DtA K G ds vs
  | .dk ds, v => ∃ a kvs, v = .ref a ∧ G a = some (.dK kvs) ∧ DtK K G ds kvs
  | .dt ds, v => ∃ a kvs, v = .ref a ∧ G a = some (.dT kvs) ∧ DtT K G ds kvs
def DtA (K : PySem.W.Frag) (G : Hp) : List D → List V → Prop
  | [], vs => vs = []
  | d :: ds, vs => ∃ v r, vs = v :: r ∧ Dt K G d v ∧ DtA K G ds r
def DtK (K : PySem.W.Frag) (G : Hp) : List (Key × D) → List (Key × V) → Prop
  | [], vs => vs = []
  | (k, d) :: ds, vs => ∃ v r, vs = (k, v) :: r ∧ Dt K G d v ∧ DtK K G ds r
def DtT (K : PySem.W.Frag) (G : Hp) : List (List Key × D) → List (List Key × V) → Prop
  | [], vs => vs = []
  | (k, d) :: ds, vs => ∃ v r, vs = (k, v) :: r ∧ Dt K G d v ∧ DtT K G ds r
end
theorem rd_mono {G G' : Hp} {a u} (e : Same G G') (h : Rd G a u) : Rd G' a u := by
  rcases h with h | ⟨o, h⟩
  · exact .inl (e _ _ h)
  · exact .inr ⟨o, e _ _ h⟩
theorem seqT_mono {K : PySem.W.Frag} {G G' : Hp} (e : Same G G') {a xs} (h : SqT K G a xs) : SqT K G' a xs := by
  rcases h with h | h
  · exact .inl (rd_mono e h)
  · exact .inr h
mutual
theorem Dt.mono {K : PySem.W.Frag} {G G' : Hp} (e : Same G G') : ∀ (d : D) {v : V}, Dt K G d v → Dt K G' d v
  | .non, _, h => h
  | .bl b, _, h => h
  | .int i, _, h => h
  | .str s, _, h => h
  | .raw u, _, h => h
  | .lst ds, _, ⟨a, vs, r, s, t⟩ => ⟨a, vs, r, e _ _ s, DtA.mono e ds t⟩
  | .tup ds, _, ⟨a, vs, r, s, t⟩ => ⟨a, vs, r, e _ _ s, DtA.mono e ds t⟩
  | .dk ds, _, ⟨a, vs, r, s, t⟩ => ⟨a, vs, r, e _ _ s, DtK.mono e ds t⟩
  | .dt ds, _, ⟨a, vs, r, s, t⟩ => ⟨a, vs, r, e _ _ s, DtT.mono e ds t⟩
theorem DtA.mono {K : PySem.W.Frag} {G G' : Hp} (e : Same G G') : ∀ (ds : List D) {vs : List V}, DtA K G ds vs → DtA K G' ds vs
  | [], _, h => h
  | d :: ds, _, ⟨v, r, q, s, t⟩ => ⟨v, r, q, Dt.mono e d s, DtA.mono e ds t⟩
theorem DtK.mono {K : PySem.W.Frag} {G G' : Hp} (e : Same G G') : ∀ (ds : List (Key × D)) {vs : List (Key × V)}, DtK K G ds vs → DtK K G' ds vs
  | [], _, h => h
  | (k, d) :: ds, _, ⟨v, r, q, s, t⟩ => ⟨v, r, q, Dt.mono e d s, DtK.mono e ds t⟩
theorem DtT.mono {K : PySem.W.Frag} {G G' : Hp} (e : Same G G') : ∀ (ds : List (List Key × D)) {vs : List (List Key × V)}, DtT K G ds vs → DtT K G' ds vs
  | [], _, h => h
  | (k, d) :: ds, _, ⟨v, r, q, s, t⟩ => ⟨v, r, q, Dt.mono e d s, DtT.mono e ds t⟩
end
theorem DtA.length {K : PySem.W.Frag} {G : Hp} : ∀ {ds : List D} {vs : List V}, DtA K G ds vs → vs.length = ds.length
  | [], _, h => by rw [show _ = [] from h]; rfl
  | d :: ds, _, ⟨v, r, q, s, t⟩ => by rw [q, List.length_cons, List.length_cons, DtA.length t]
theorem DtA.get {K : PySem.W.Frag} {G : Hp} : ∀ {ds : List D} {vs : List V} {i : Nat} {d : D}, DtA K G ds vs → ds[i]? = some d → ∃ v, vs[i]? = some v ∧ Dt K G d v
  | [], _, _, _, _, e => by simp at e
  | d :: ds, _, 0, _, ⟨v, r, q, s, t⟩, e => by
    simp at e; subst e; exact ⟨v, by rw [q]; rfl, s⟩
  | d :: ds, _, i + 1, _, ⟨v, r, q, s, t⟩, e => by
    obtain ⟨u, h1, h2⟩ := DtA.get (i := i) t (by simpa using e)
    exact ⟨u, by rw [q]; simpa using h1, h2⟩
theorem DtA.append {K : PySem.W.Frag} {G : Hp} : ∀ {ds es : List D} {vs us : List V}, DtA K G ds vs → DtA K G es us → DtA K G (ds ++ es) (vs ++ us)
  | [], _, _, _, h, k => by rw [show _ = [] from h]; exact k
  | d :: ds, _, _, _, ⟨v, r, q, s, t⟩, k => ⟨v, r ++ _, by rw [q]; rfl, s, DtA.append t k⟩
theorem DtA.take {K : PySem.W.Frag} {G : Hp} : ∀ (n : Nat) {ds : List D} {vs : List V}, DtA K G ds vs → DtA K G (ds.take n) (vs.take n)
  | 0, ds, vs, _ => by rw [List.take_zero, List.take_zero]; rfl
  | n + 1, [], _, h => by rw [show _ = [] from h]; rfl
  | n + 1, d :: ds, _, ⟨v, r, q, s, t⟩ => ⟨v, r.take n, by rw [q]; rfl, s, DtA.take n t⟩
theorem DtA.drop {K : PySem.W.Frag} {G : Hp} : ∀ (n : Nat) {ds : List D} {vs : List V}, DtA K G ds vs → DtA K G (ds.drop n) (vs.drop n)
  | 0, ds, vs, h => h
  | n + 1, [], _, h => by rw [show _ = [] from h]; rfl
  | n + 1, d :: ds, _, ⟨v, r, q, s, t⟩ => by rw [q]; exact DtA.drop n t
theorem DtA.ints {K : PySem.W.Frag} {G : Hp} : ∀ {is : List Int} {vs : List V}, DtA K G (is.map D.int) vs → vs = is.map V.int
  | [], _, h => h
  | i :: is, _, ⟨v, r, q, s, t⟩ => by rw [q, show v = V.int i from s, DtA.ints t]; rfl
theorem DtA.strs {K : PySem.W.Frag} {G : Hp} : ∀ {is : List Str} {vs : List V}, DtA K G (is.map D.str) vs → vs = is.map V.str
  | [], _, h => h
  | i :: is, _, ⟨v, r, q, s, t⟩ => by rw [q, show v = V.str i from s, DtA.strs t]; rfl
theorem DtA.bls {K : PySem.W.Frag} {G : Hp} : ∀ {is : List Bool} {vs : List V}, DtA K G (is.map D.bl) vs → vs = is.map V.bl
  | [], _, h => h
  | i :: is, _, ⟨v, r, q, s, t⟩ => by rw [q, show v = V.bl i from s, DtA.bls t]; rfl
theorem DtA.of_ints {K : PySem.W.Frag} {G : Hp} : ∀ (is : List Int), DtA K G (is.map D.int) (is.map V.int)
  | [] => rfl
  | i :: is => ⟨_, _, rfl, rfl, DtA.of_ints is⟩
theorem DtA.of_strs {K : PySem.W.Frag} {G : Hp} : ∀ (is : List Str), DtA K G (is.map D.str) (is.map V.str)
  | [] => rfl
  | i :: is => ⟨_, _, rfl, rfl, DtA.of_strs is⟩
theorem DtA.dropLast {K : PySem.W.Frag} {G : Hp} {ds : List D} {vs : List V} (h : DtA K G ds vs) : DtA K G ds.dropLast vs.dropLast := by
  rw [List.dropLast_eq_take, List.dropLast_eq_take, h.length]
  exact h.take _

/-! ### where one stands -/
inductive Cl where
  | lst (ds : List D) | dk (kvs : List (Key × D)) | dt (kvs : List (List Key × D)) | rg (lo hi : Int)
def CellOk (K : PySem.W.Frag) (G H : Hp) (l : Addr) : Cl → Prop
  | .lst ds => ∃ vs, H l = some (.lst vs) ∧ DtA K G ds vs
  | .dk ds => ∃ kvs, H l = some (.dK kvs) ∧ DtK K G ds kvs
  | .dt ds => ∃ kvs, H l = some (.dT kvs) ∧ DtT K G ds kvs
  | .rg lo hi => H l = some (.rng lo hi)
theorem CellOk.mono {K : PySem.W.Frag} {G G' H H' : Hp} {l : Addr} (e : Same G G') (k : ∀ o, H l = some o → H' l = some o) : ∀ {c : Cl}, CellOk K G H l c → CellOk K G' H' l c
  | .lst ds, ⟨vs, a, b⟩ => ⟨vs, k _ a, DtA.mono e ds b⟩
  | .dk ds, ⟨vs, a, b⟩ => ⟨vs, k _ a, DtK.mono e ds b⟩
  | .dt ds, ⟨vs, a, b⟩ => ⟨vs, k _ a, DtT.mono e ds b⟩
  | .rg lo hi, a => k _ a
theorem CellOk.there {K : PySem.W.Frag} {G H : Hp} {l : Addr} : ∀ {c : Cl}, CellOk K G H l c → H l ≠ none
  | .lst ds, ⟨vs, a, b⟩ => by rw [a]; simp
  | .dk ds, ⟨vs, a, b⟩ => by rw [a]; simp
  | .dt ds, ⟨vs, a, b⟩ => by rw [a]; simp
  | .rg lo hi, a => by rw [show H l = some (.rng lo hi) from a]; simp
theorem ne_of_mem {M : List Addr} {p b : Addr} (n : p ∉ M) (h : b ∈ M) : b ≠ p := fun e => n (e ▸ h)
/-- there, and no tuple -/
def Ent (H : Hp) (b : Addr) : Prop := H b ≠ none ∧ ∀ vs, H b ≠ some (.tup vs)
theorem CellOk.noTup {K : PySem.W.Frag} {G H : Hp} {l : Addr} {vs : List V} : ∀ {c : Cl}, CellOk K G H l c → H l ≠ some (.tup vs)
  | .lst ds, ⟨vs, a, b⟩ => by rw [a]; simp
  | .dk ds, ⟨vs, a, b⟩ => by rw [a]; simp
  | .dt ds, ⟨vs, a, b⟩ => by rw [a]; simp
  | .rg lo hi, a => by rw [show H l = some (.rng lo hi) from a]; simp
structure Bs where
  K : PySem.W.Frag
  I : Hp → Prop
  M : List Addr
  loc : ∀ H H', I H → (∀ b ∈ M, H' b = H b) → I H'
  G0 : Hp
  H0 : Hp
structure AtG (B : Bs) (ρ : List (Option D)) (μ : List (Addr × Cl)) (τ : List (V × D)) (σ : L2.St) (H G : Hp) : Prop where
  sub : Same G H
  inv : B.I H
  out : ∀ b ∈ B.M, G b = none ∧ Ent H b
  tup : ∀ b vs, H b = some (.tup vs) → G b = some (.tup vs)
  base : ∀ b o, B.H0 b = some o → b ∉ B.M → H b = some o
  ext : ∀ b o, G b = some o → B.H0 b = none ∨ B.G0 b = some o
  len : ρ.length = σ.length
  slots : ∀ (i : Nat) (d : D), ρ[i]? = some (some d) → ∃ v, σ[i]? = some (some v) ∧ Dt B.K G d v
  cells : ∀ p ∈ μ, G p.1 = none ∧ B.H0 p.1 = none ∧ p.1 ∉ B.M ∧ CellOk B.K G H p.1 p.2
  nd : (μ.map (·.1)).Nodup
  temps : ∀ p ∈ τ, Dt B.K G p.2 p.1
def At (B : Bs) (ρ : List (Option D)) (μ : List (Addr × Cl)) (τ : List (V × D)) (σ : L2.St) (H : Hp) : Prop := ∃ G, AtG B ρ μ τ σ H G
section
variable {B : Bs} {ρ : List (Option D)} {μ : List (Addr × Cl)} {τ τ' : List (V × D)} {σ : L2.St} {H H' G G' : Hp} {v : V} {d : D} {p : Addr}
theorem At.sub (h : At B ρ μ τ σ H) (k : ∀ p ∈ τ', p ∈ τ) : At B ρ μ τ' σ H := by
  obtain ⟨G, h⟩ := h
  exact ⟨G, { h with temps := fun p hp => h.temps p (k p hp) }⟩
theorem At.pop (h : At B ρ μ ((v, d) :: τ) σ H) : At B ρ μ τ σ H := h.sub fun p hp => List.mem_cons_of_mem _ hp
theorem At.top (h : At B ρ μ ((v, d) :: τ) σ H) : ∃ G, AtG B ρ μ τ σ H G ∧ Dt B.K G d v := by
  obtain ⟨G, h⟩ := h
  exact ⟨G, { h with temps := fun p hp => h.temps p (List.mem_cons_of_mem _ hp) }, h.temps _ (List.mem_cons_self ..)⟩
theorem AtG.push (h : AtG B ρ μ τ σ H G) (k : Dt B.K G d v) : AtG B ρ μ ((v, d) :: τ) σ H G :=
  { h with temps := fun p hp => (List.mem_cons.mp hp).elim (fun e => by subst e; exact k) (h.temps p) }
theorem At.flat (h : At B ρ μ τ σ H) (k : ∀ G, Dt B.K G d v) : At B ρ μ ((v, d) :: τ) σ H := by
  obtain ⟨G, h⟩ := h
  exact ⟨G, h.push (k G)⟩
theorem At.var {i : Nat} (h : At B ρ μ τ σ H) (e : ρ[i]? = some (some d)) : ∃ v, σ[i]? = some (some v) ∧ At B ρ μ ((v, d) :: τ) σ H := by
  obtain ⟨G, h⟩ := h
  obtain ⟨v, h1, h2⟩ := h.slots i d e
  exact ⟨v, h1, G, h.push h2⟩
theorem At.set (i : Nat) (h : At B ρ μ ((v, d) :: τ) σ H) : At B (ρ.set i (some d)) μ τ (σ.set i (some v)) H := by
  obtain ⟨G, h, k⟩ := h.top
  refine ⟨G, { h with len := by rw [List.length_set, List.length_set, h.len], slots := fun j e q => ?_ }⟩
  by_cases hj : i = j
  · subst hj
    by_cases hl : i < ρ.length
    · rw [List.getElem?_set_self hl] at q
      have q1 : d = e := Option.some.inj (Option.some.inj q)
      subst q1
      exact ⟨v, by rw [List.getElem?_set_self (by rw [← h.len]; exact hl)], k⟩
    · rw [List.getElem?_eq_none (by rw [List.length_set]; omega)] at q
      cases q
  · rw [List.getElem?_set_ne hj] at q ⊢
    exact h.slots j e q
/-- a slot forgotten -/
theorem At.forget (h : At B ρ μ τ σ H) {ρ' : List (Option D)} (hl : ρ'.length = ρ.length) (k : ∀ (i : Nat) (d : D), ρ'[i]? = some (some d) → ρ[i]? = some (some d)) : At B ρ' μ τ σ H := by
  obtain ⟨G, h⟩ := h
  exact ⟨G, { h with len := by rw [hl, h.len], slots := fun i d e => h.slots i d (k i d e) }⟩
theorem AtG.laid (h : AtG B ρ μ τ σ H G) (hs : Same G G') (sub : Same G' H') (kp : ∀ b o, H b = some o → H' b = some o) (hext : ∀ b o, G' b = some o → B.H0 b = none ∨ B.G0 b = some o) (hcells : ∀ q ∈ μ, G' q.1 = none) (hM : ∀ b ∈ B.M, G' b = none) (hI : ∀ b ∈ B.M, H' b = H b) (ht : ∀ b vs, H' b = some (.tup vs) → G' b = some (.tup vs)) : AtG B ρ μ τ σ H' G' where
  sub := sub
  inv := B.loc H H' h.inv hI
  out := fun b hb => ⟨hM b hb, by unfold Ent; rw [hI b hb]; exact (h.out b hb).2⟩
  tup := ht
  base := fun b o e hb => kp b o (h.base b o e hb)
  ext := hext
  len := h.len
  slots := fun i d e => let ⟨v, a, b⟩ := h.slots i d e; ⟨v, a, Dt.mono hs d b⟩
  cells := fun q hq => let ⟨a, b, c, e⟩ := h.cells q hq; ⟨hcells q hq, b, c, e.mono hs (kp q.1)⟩
  nd := h.nd
  temps := fun q hq => Dt.mono hs q.2 (h.temps q hq)
theorem same_new {o : HO} (h : H p = none) : Same H (upd H p o) := fun b u e => by rw [upd_ne (ne_of_none e h)]; exact e
theorem AtG.notNew (h : AtG B ρ μ τ σ H G) (hp : H p = none) : G p = none ∧ B.H0 p = none ∧ p ∉ B.M ∧ ∀ q ∈ μ, q.1 ≠ p := by
  refine ⟨h.sub.free hp, ?_, fun m => (h.out p m).2.1 hp, fun q hq e => ?_⟩
  · cases e : B.H0 p with
    | none => rfl
    | some o =>
      by_cases m : p ∈ B.M
      · exact absurd hp (h.out p m).2.1
      · rw [h.base p o e m] at hp; cases hp
  · obtain ⟨_, _, _, c⟩ := h.cells q hq
    exact c.there (by rw [e]; exact hp)
/-- a new object that never changes -/
theorem AtG.new {o : HO} (h : AtG B ρ μ τ σ H G) (hp : H p = none) : AtG B ρ μ τ σ (upd H p o) (upd G p o) ∧ Same G (upd G p o) := by
  obtain ⟨n1, n2, n3, n4⟩ := h.notNew hp
  have hG : Same G (upd G p o) := same_new n1
  refine ⟨h.laid hG (fun b u e => ?_) (same_new hp) (fun b u e => ?_) (fun q hq => ?_) (fun b hb => ?_) (fun b hb => ?_) (fun b vs e => ?_), hG⟩
  · by_cases hb : b = p
    · subst hb; rw [upd_same] at e ⊢; exact e
    · rw [upd_ne hb] at e ⊢; exact h.sub b u e
  · by_cases hb : b = p
    · subst hb; exact .inl n2
    · rw [upd_ne hb] at e; exact h.ext b u e
  · rw [upd_ne (n4 q hq)]; exact (h.cells q hq).1
  · rw [upd_ne (ne_of_mem n3 hb)]; exact (h.out b hb).1
  · rw [upd_ne (ne_of_mem n3 hb)]
  · by_cases hb : b = p
    · subst hb; rw [upd_same] at e ⊢; exact e
    · rw [upd_ne hb] at e ⊢; exact h.tup b vs e
theorem At.new {o : HO} {dn : D} (h : At B ρ μ τ σ H) (hp : H p = none) (hd : ∀ G, (∀ q ∈ τ, Dt B.K G q.2 q.1) → G p = some o → Dt B.K G dn (.ref p)) : At B ρ μ ((.ref p, dn) :: τ) σ (upd H p o) := by
  obtain ⟨G, h⟩ := h
  obtain ⟨h', _⟩ := h.new (o := o) hp
  exact ⟨_, h'.push (hd _ h'.temps upd_same)⟩
/-- .. of known values -/
theorem AtG.newTup {vs : List V} {ds : List D} (h : AtG B ρ μ τ σ H G) (hp : H p = none) (k : DtA B.K G ds vs) : At B ρ μ ((.ref p, .tup ds) :: τ) σ (upd H p (.tup vs)) := by
  obtain ⟨h', s⟩ := h.new (o := .tup vs) hp
  exact ⟨_, h'.push ⟨p, vs, rfl, upd_same, DtA.mono s ds k⟩⟩
theorem AtG.newLst {vs : List V} {ds : List D} (h : AtG B ρ μ τ σ H G) (hp : H p = none) (k : DtA B.K G ds vs) : At B ρ μ ((.ref p, .lst ds) :: τ) σ (upd H p (.lst vs)) := by
  obtain ⟨h', s⟩ := h.new (o := .lst vs) hp
  exact ⟨_, h'.push ⟨p, vs, rfl, upd_same, DtA.mono s ds k⟩⟩
/-- a new object that will change -/
theorem At.newCell {c : Cl} {o : HO} (h : At B ρ μ τ σ H) (hp : H p = none) (hc : ∀ G, (∀ q ∈ τ, Dt B.K G q.2 q.1) → CellOk B.K G (upd H p o) p c) : At B ρ ((p, c) :: μ) τ σ (upd H p o) ∧ ∀ q ∈ μ, q.1 ≠ p := by
  obtain ⟨G, h⟩ := h
  obtain ⟨n1, n2, n3, n4⟩ := h.notNew hp
  have h' : AtG B ρ μ τ σ (upd H p o) G := by
    refine h.laid (Same.refl G) (fun b u e => ?_) (same_new hp) h.ext (fun q hq => (h.cells q hq).1) (fun b hb => (h.out b hb).1) (fun b hb => ?_) (fun b vs e => ?_)
    · rw [upd_ne (ne_of_none (h.sub b u e) hp)]; exact h.sub b u e
    · rw [upd_ne (ne_of_mem n3 hb)]
    · by_cases hb : b = p
      · subst hb; exact absurd e (hc G h.temps).noTup
      · rw [upd_ne hb] at e; exact h.tup b vs e
  refine ⟨⟨G, { h' with cells := fun q hq => ?_, nd := ?_ }⟩, n4⟩
  · rcases List.mem_cons.mp hq with e | hq
    · subst e; exact ⟨n1, n2, n3, hc G h.temps⟩
    · exact h'.cells q hq
  · rw [List.map_cons, List.nodup_cons]
    refine ⟨fun m => ?_, h.nd⟩
    obtain ⟨q, hq, e⟩ := List.mem_map.mp m
    exact n4 q hq e
theorem mem_set {α : Type} {l : List α} {j : Nat} {x y : α} (h : y ∈ l.set j x) : y = x ∨ ∃ i, i ≠ j ∧ l[i]? = some y := by
  obtain ⟨i, hi⟩ := List.mem_iff_getElem?.mp h
  by_cases e : j = i
  · subst e
    by_cases hl : j < l.length
    · rw [List.getElem?_set_self hl] at hi
      exact .inl (Option.some.inj hi).symm
    · rw [List.getElem?_eq_none (by rw [List.length_set]; omega)] at hi; cases hi
  · rw [List.getElem?_set_ne e] at hi
    exact .inr ⟨i, fun z => e z.symm, hi⟩
/-- a cell changes -/
theorem At.write {c c' : Cl} {o : HO} {j : Nat} (h : At B ρ μ τ σ H) (hj : μ[j]? = some (p, c)) (hc : ∀ G, (∀ q ∈ τ, Dt B.K G q.2 q.1) → CellOk B.K G H p c → CellOk B.K G (upd H p o) p c') : At B ρ (μ.set j (p, c')) τ σ (upd H p o) := by
  obtain ⟨G, h⟩ := h
  have hm : (p, c) ∈ μ := List.mem_of_getElem? hj
  obtain ⟨n1, n2, n3, n4⟩ := (h.cells _ hm : G p = none ∧ B.H0 p = none ∧ p ∉ B.M ∧ CellOk B.K G H p c)
  refine ⟨G, ⟨fun b u e => ?_, B.loc H _ h.inv fun b hb => upd_ne (ne_of_mem n3 hb), fun b hb => ⟨(h.out b hb).1, by unfold Ent; rw [upd_ne (ne_of_mem n3 hb)]; exact (h.out b hb).2⟩, fun b vs e => ?_, fun b u e hb => ?_, h.ext, h.len, h.slots, fun q hq => ?_, ?_, h.temps⟩⟩
  · rw [upd_ne (fun z => by subst z; rw [n1] at e; cases e)]; exact h.sub b u e
  · by_cases hb : b = p
    · subst hb; exact absurd e (hc G h.temps n4).noTup
    · rw [upd_ne hb] at e; exact h.tup b vs e
  · rw [upd_ne (fun z => by subst z; rw [n2] at e; cases e)]; exact h.base b u e hb
  · rcases mem_set hq with e | ⟨i, hi, e⟩
    · subst e; exact ⟨n1, n2, n3, hc G h.temps n4⟩
    · obtain ⟨a, b, cc, dd⟩ := h.cells q (List.mem_of_getElem? e)
      have hne : q.1 ≠ p := fun z => by
        have e1 : (μ.map (·.1))[i]? = some p := by rw [List.getElem?_map, e]; simpa using z
        have e2 : (μ.map (·.1))[j]? = some p := by rw [List.getElem?_map, hj]; rfl
        exact hi ((List.getElem?_inj (List.getElem?_eq_some_iff.mp e1).1 h.nd).mp (e1.trans e2.symm))
      exact ⟨a, b, cc, dd.mono (Same.refl G) fun o' z => by rw [upd_ne hne]; exact z⟩
  · have e : (μ.set j (p, c')).map (·.1) = μ.map (·.1) := by
      rw [List.map_set]
      refine List.ext_getElem? fun i => ?_
      by_cases hi : j = i
      · subst hi
        have hl : j < (μ.map (·.1)).length := by rw [List.length_map]; exact (List.getElem?_eq_some_iff.mp hj).1
        rw [List.getElem?_set_self hl, List.getElem?_map, hj]; rfl
      · rw [List.getElem?_set_ne hi]
    rw [e]; exact h.nd
/-- a cell is looked at -/
theorem At.cell {c : Cl} {j : Nat} (h : At B ρ μ τ σ H) (hj : μ[j]? = some (p, c)) : ∃ G, AtG B ρ μ τ σ H G ∧ CellOk B.K G H p c := by
  obtain ⟨G, h⟩ := h
  exact ⟨G, h, (h.cells _ (List.mem_of_getElem? hj)).2.2.2⟩
end
end Cal


namespace Cal
open PySem PySem.Spec PyProof.Rows L2
abbrev Mu := List (Addr × Cl)
abbrev Ro := List (Option D)
/-! ### what evaluates to what -/
def Xv (B : Bs) (te : TE) (ρ : Ro) (μ : Mu) (R : D → Mu → Prop) : Prop := ∀ (τ : List (V × D)) (σ : L2.St) (H : Hp), At B ρ μ τ σ H → ∀ Q : VK, (∀ v H' d μ', R d μ' → At B ρ μ' ((v, d) :: τ) σ H' → Q v H') → te σ H Q
def Ev (B : Bs) (te : TE) (ρ : Ro) (μ : Mu) (P : D → Prop) : Prop := Xv B te ρ μ fun d μ' => P d ∧ μ' = μ
def Ed (B : Bs) (te : TE) (ρ : Ro) (μ : Mu) (d : D) : Prop := Ev B te ρ μ fun e => e = d
def Et (B : Bs) (tt : TT) (ρ : Ro) (μ : Mu) (P : Bool → Prop) : Prop := ∀ (τ : List (V × D)) (σ : L2.St) (H : Hp), At B ρ μ τ σ H → ∀ Q : Bool → Hp → Prop, (∀ b H', P b → At B ρ μ τ σ H' → Q b H') → tt σ H Q
def Eb (B : Bs) (tt : TT) (ρ : Ro) (μ : Mu) (b : Bool) : Prop := Et B tt ρ μ fun c => c = b
/-- what args evaluate to: the values with their data stand on top, the first one deepest -/
def Ea (B : Bs) (ta : TA) (ρ : Ro) (μ : Mu) (P : List D → Prop) : Prop := ∀ (τ : List (V × D)) (σ : L2.St) (H : Hp), At B ρ μ τ σ H → ∀ Q : List V → Hp → Prop, (∀ vs H' ds, P ds → vs.length = ds.length → At B ρ μ (vs.zip ds ++ τ) σ H' → Q vs H') → ta σ H Q
/-- operations by values -/
def RD (B : Bs) (r : R2) (ρ : Ro) (μ : Mu) (d1 d2 : D) (P : D → Prop) : Prop := ∀ (τ : List (V × D)) (σ : L2.St) (H : Hp) (x y : V), At B ρ μ ((y, d2) :: (x, d1) :: τ) σ H → ∀ Q : VK, (∀ v H' d, P d → At B ρ μ ((v, d) :: τ) σ H' → Q v H') → r x y H Q
def RU (B : Bs) (r : V → Hp → VK → Prop) (ρ : Ro) (μ : Mu) (d1 : D) (P : D → Prop) : Prop := ∀ (τ : List (V × D)) (σ : L2.St) (H : Hp) (x : V), At B ρ μ ((x, d1) :: τ) σ H → ∀ Q : VK, (∀ v H' d, P d → At B ρ μ ((v, d) :: τ) σ H' → Q v H') → r x H Q
def RC (B : Bs) (r : List V → Hp → VK → Prop) (ρ : Ro) (μ : Mu) (ds : List D) (P : D → Prop) : Prop := ∀ (τ : List (V × D)) (σ : L2.St) (H : Hp) (vs : List V), vs.length = ds.length → At B ρ μ (vs.zip ds ++ τ) σ H → ∀ Q : VK, (∀ v H' d, P d → At B ρ μ ((v, d) :: τ) σ H' → Q v H') → r vs H Q
section
variable {B : Bs} {ρ : Ro} {μ : Mu} {ta tb tc te tx : TE} {tt tu : TT} {P P1 P2 P3 : D → Prop} {d d1 d2 d3 e : D} {r r' : R2} {R R1 : D → Mu → Prop} {i j : Int} {b : Bool} {v : V}
theorem Xv.imp (h : Xv B te ρ μ R) (k : ∀ d μ', R d μ' → R1 d μ') : Xv B te ρ μ R1 := fun τ σ H a Q q => h τ σ H a Q fun v H' d μ' hd => q v H' d μ' (k d μ' hd)
theorem Ev.imp (h : Ev B te ρ μ P) (k : ∀ d, P d → P1 d) : Ev B te ρ μ P1 := Xv.imp h fun d μ' hd => ⟨k d hd.1, hd.2⟩
theorem Ed.is (h : Ed B te ρ μ d) (k : d = e) : Ed B te ρ μ e := k ▸ h
theorem Ed.ev (h : Ed B te ρ μ d) (k : P d) : Ev B te ρ μ P := Ev.imp h fun _ z => z ▸ k
theorem Ev.go (h : Ev B te ρ μ P) {τ σ H} (a : At B ρ μ τ σ H) {Q : VK} (q : ∀ v H' d, P d → At B ρ μ ((v, d) :: τ) σ H' → Q v H') : te σ H Q := h τ σ H a Q fun v H' d μ' hd => by
  obtain ⟨h1, rfl⟩ := hd
  exact q v H' d h1
theorem Ev.mk (h : ∀ (τ : List (V × D)) (σ : L2.St) (H : Hp), At B ρ μ τ σ H → ∀ Q : VK, (∀ v H' d, P d → At B ρ μ ((v, d) :: τ) σ H' → Q v H') → te σ H Q) : Ev B te ρ μ P := fun τ σ H a Q q => h τ σ H a Q fun v H' d hd => q v H' d μ ⟨hd, rfl⟩
theorem ed_var {i : Nat} (h : ρ[i]? = some (some d)) : Ed B (tVar i) ρ μ d := Ev.mk fun τ σ H a Q q => by
  obtain ⟨v, h1, h2⟩ := a.var h
  exact ⟨v, h1, q v H d rfl h2⟩
theorem ed_cV {v : V} {d : D} (h : ∀ G, Dt B.K G d v) : Ed B (tC v) ρ μ d := Ev.mk fun τ σ H a Q q => q v H d rfl (a.flat h)
theorem ed_int : Ed B (tC (.int i)) ρ μ (.int i) := ed_cV fun _ => rfl
theorem ed_str {s : Str} : Ed B (tC (.str s)) ρ μ (.str s) := ed_cV fun _ => rfl
theorem ed_bl : Ed B (tC (.bl b)) ρ μ (.bl b) := ed_cV fun _ => rfl
theorem ed_non : Ed B (tC .non) ρ μ .non := ed_cV fun _ => rfl
theorem ed_raw : Ed B (tC v) ρ μ (.raw v) := ed_cV fun _ => rfl
theorem ev_op (ha : Ev B ta ρ μ P1) (hb : Ev B tb ρ μ P2) (hr : ∀ d1 d2, P1 d1 → P2 d2 → RD B r ρ μ d1 d2 P) : Ev B (tOp r ta tb) ρ μ P := Ev.mk fun τ σ H a Q q =>
  ha.go a fun x H1 d1 h1 a1 => hb.go a1 fun y H2 d2 h2 a2 => hr d1 d2 h1 h2 τ σ H2 x y a2 Q q
theorem ed_op (ha : Ed B ta ρ μ d1) (hb : Ed B tb ρ μ d2) (hr : RD B r ρ μ d1 d2 P) : Ev B (tOp r ta tb) ρ μ P := ev_op ha hb fun _ _ e1 e2 => by
  subst e1; subst e2; exact hr
theorem ev_un {r : V → Hp → VK → Prop} (ha : Ev B ta ρ μ P1) (hr : ∀ d1, P1 d1 → RU B r ρ μ d1 P) : Ev B (tUn r ta) ρ μ P := Ev.mk fun τ σ H a Q q =>
  ha.go a fun x H1 d1 h1 a1 => hr d1 h1 τ σ H1 x a1 Q q
theorem ed_un {r : V → Hp → VK → Prop} (ha : Ed B ta ρ μ d1) (hr : RU B r ρ μ d1 P) : Ev B (tUn r ta) ρ μ P := ev_un ha fun _ e1 => by
  subst e1; exact hr
/-! operators -/
theorem RD.inl (h : RD B r ρ μ d1 d2 P) : RD B (fun x y H Q => r x y H Q ∨ r' x y H Q) ρ μ d1 d2 P := fun τ σ H x y a Q q => .inl (h τ σ H x y a Q q)
theorem RD.inr (h : RD B r' ρ μ d1 d2 P) : RD B (fun x y H Q => r x y H Q ∨ r' x y H Q) ρ μ d1 d2 P := fun τ σ H x y a Q q => .inr (h τ σ H x y a Q q)
theorem At.two {x y : V} {τ σ H} (a : At B ρ μ ((y, d2) :: (x, d1) :: τ) σ H) : ∃ G, AtG B ρ μ τ σ H G ∧ Dt B.K G d1 x ∧ Dt B.K G d2 y := by
  obtain ⟨G, h1, h2⟩ := a.top
  exact ⟨G, { h1 with temps := fun p hp => h1.temps p (List.mem_cons_of_mem _ hp) }, h1.temps _ (List.mem_cons_self ..), h2⟩
/-- both stay, the answer is flat -/
theorem rd_flat {z : V} {d : D} (hz : ∀ G, Dt B.K G d z) (h : ∀ G H x y, Same G H → Dt B.K G d1 x → Dt B.K G d2 y → ∀ Q : VK, Q z H → r x y H Q) : RD B r ρ μ d1 d2 (fun e => e = d) := fun τ σ H x y a Q q => by
  obtain ⟨G, g, k1, k2⟩ := a.two
  exact h G H x y g.sub k1 k2 Q (q z H d rfl (At.flat ⟨G, g⟩ hz))
theorem ru_flat {r : V → Hp → VK → Prop} {z : V} {d : D} (hz : ∀ G, Dt B.K G d z) (h : ∀ G H x, Same G H → Dt B.K G d1 x → ∀ Q : VK, Q z H → r x H Q) : RU B r ρ μ d1 (fun e => e = d) := fun τ σ H x a Q q => by
  obtain ⟨G, g, k1⟩ := a.top
  exact h G H x g.sub k1 Q (q z H d rfl (At.flat ⟨G, g⟩ hz))
theorem rd_I0 {g : Int → Int → V} {d : D} (hz : ∀ G, Dt B.K G d (g i j)) : RD B (rI0 g) ρ μ (.int i) (.int j) (fun e => e = d) := rd_flat hz fun G H x y _ h1 h2 Q q => ⟨i, j, h1, h2, q⟩
theorem rd_I {C : Int → Int → Prop} {g : Int → Int → V} {d : D} (hz : ∀ G, Dt B.K G d (g i j)) (hc : C i j) : RD B (rI C g) ρ μ (.int i) (.int j) (fun e => e = d) := rd_flat hz fun G H x y _ h1 h2 Q q => ⟨i, j, h1, h2, hc, q⟩
theorem rd_add : RD B (rI0 fun i j => .int (i + j)) ρ μ (.int i) (.int j) (fun e => e = .int (i + j)) := rd_I0 fun _ => rfl
theorem rd_sub : RD B (rI0 fun i j => .int (i - j)) ρ μ (.int i) (.int j) (fun e => e = .int (i - j)) := rd_I0 fun _ => rfl
theorem rd_lt : RD B (rI0 fun i j => .bl (decide (i < j))) ρ μ (.int i) (.int j) (fun e => e = .bl (decide (i < j))) := rd_I0 fun _ => rfl
theorem rd_le : RD B (rI0 fun i j => .bl (decide (i ≤ j))) ρ μ (.int i) (.int j) (fun e => e = .bl (decide (i ≤ j))) := rd_I0 fun _ => rfl
theorem rd_gt : RD B (rI0 fun i j => .bl (decide (j < i))) ρ μ (.int i) (.int j) (fun e => e = .bl (decide (j < i))) := rd_I0 fun _ => rfl
theorem rd_ge : RD B (rI0 fun i j => .bl (decide (j ≤ i))) ρ μ (.int i) (.int j) (fun e => e = .bl (decide (j ≤ i))) := rd_I0 fun _ => rfl
theorem rd_mul (h : CMul i j) : RD B (rI CMul fun i j => .int (i * j)) ρ μ (.int i) (.int j) (fun e => e = .int (i * j)) := rd_I (fun _ => rfl) h
theorem rd_mod (h : 0 < j) : RD B (rI (fun _ j => 0 < j) fun i j => .int (i % j)) ρ μ (.int i) (.int j) (fun e => e = .int (i % j)) := rd_I (fun _ => rfl) h
theorem rd_pow (h : CPow i j) : RD B (rI CPow fun i j => .int (i ^ j.toNat)) ρ μ (.int i) (.int j) (fun e => e = .int (i ^ j.toNat)) := rd_I (fun _ => rfl) h
/-! tests -/
theorem et_test (h : Ev B te ρ μ P) {Pb : Bool → Prop} (k : ∀ d, P d → ∃ b, d = .bl b ∧ Pb b) : Et B (tTest te) ρ μ Pb := fun τ σ H a Q q => h.go a fun v H' d hd a1 => by
  obtain ⟨b, rfl, hb⟩ := k d hd
  obtain ⟨G, g, hv⟩ := a1.top
  exact ⟨b, hv, q b H' hb ⟨G, g⟩⟩
theorem et_B (h : Ev B te ρ μ P) {Pb : Bool → Prop} (k : ∀ d, P d → ∃ b, d = .bl b ∧ Pb b) : Et B (tB te) ρ μ Pb := fun τ σ H a Q q => h.go a fun v H' d hd a1 => by
  obtain ⟨b, rfl, hb⟩ := k d hd
  obtain ⟨G, g, hv⟩ := a1.top
  exact ⟨b, hv, q b H' hb ⟨G, g⟩⟩
theorem eb_test (h : Ed B te ρ μ (.bl b)) : Eb B (tTest te) ρ μ b := et_test h fun d e => ⟨b, e, rfl⟩
theorem eb_B (h : Ed B te ρ μ (.bl b)) : Eb B (tB te) ρ μ b := et_B h fun d e => ⟨b, e, rfl⟩
theorem Et.imp {Pb Pb' : Bool → Prop} (h : Et B tt ρ μ Pb) (k : ∀ b, Pb b → Pb' b) : Et B tt ρ μ Pb' := fun τ σ H a Q q => h τ σ H a Q fun b H' hb => q b H' (k b hb)
theorem Eb.is {b c : Bool} (h : Eb B tt ρ μ b) (k : b = c) : Eb B tt ρ μ c := k ▸ h
theorem et_not {Pb : Bool → Prop} (h : Et B tt ρ μ fun b => Pb (!b)) : Et B (tNot tt) ρ μ Pb := fun τ σ H a Q q => h τ σ H a _ fun b H' hb a1 => q (!b) H' hb a1
theorem eb_not (h : Eb B tt ρ μ b) : Eb B (tNot tt) ρ μ (!b) := et_not (Et.imp h fun c e => by rw [e])
theorem et_and {Pa Pb : Bool → Prop} (h1 : Et B tt ρ μ Pa) (h2 : Pa true → Et B tu ρ μ Pb) (h3 : Pa false → Pb false) : Et B (tAnd tt tu) ρ μ Pb := fun τ σ H a Q q => h1 τ σ H a _ fun b H' hb a1 => by
  cases b with
  | true => show tu σ H' Q; exact h2 hb τ σ H' a1 Q q
  | false => show Q false H'; exact q false H' (h3 hb) a1
theorem et_or {Pa Pb : Bool → Prop} (h1 : Et B tt ρ μ Pa) (h2 : Pa false → Et B tu ρ μ Pb) (h3 : Pa true → Pb true) : Et B (tOr tt tu) ρ μ Pb := fun τ σ H a Q q => h1 τ σ H a _ fun b H' hb a1 => by
  cases b with
  | true => show Q true H'; exact q true H' (h3 hb) a1
  | false => show tu σ H' Q; exact h2 hb τ σ H' a1 Q q
theorem eb_and {a b : Bool} (h1 : Eb B tt ρ μ a) (h2 : a = true → Eb B tu ρ μ b) : Eb B (tAnd tt tu) ρ μ (a && b) := et_and h1 (fun e => by
  subst e; exact Et.imp (h2 rfl) fun c e => by rw [e]; rfl) (fun e => by rw [← e]; rfl)
theorem eb_or {a b : Bool} (h1 : Eb B tt ρ μ a) (h2 : a = false → Eb B tu ρ μ b) : Eb B (tOr tt tu) ρ μ (a || b) := et_or h1 (fun e => by
  subst e; exact Et.imp (h2 rfl) fun c e => by rw [e]; rfl) (fun e => by rw [← e]; rfl)
theorem ev_andV {Pb : Bool → Prop} (h1 : Ev B ta ρ μ P1) (k : ∀ d, P1 d → ∃ b, d = .bl b ∧ Pb b) (h2 : Pb true → Ev B tb ρ μ P) (h3 : Pb false → P (.bl false)) : Ev B (tAndV ta tb) ρ μ P := Ev.mk fun τ σ H a Q q => h1.go a fun v H' d hd a1 => by
  obtain ⟨b, rfl, hb⟩ := k d hd
  obtain ⟨G, g, hv⟩ := a1.top
  refine ⟨b, hv, ?_⟩
  cases b with
  | true => exact (h2 hb).go ⟨G, g⟩ q
  | false => exact q _ H' _ (h3 hb) (At.flat ⟨G, g⟩ fun _ => rfl)
theorem ev_orV {Pb : Bool → Prop} (h1 : Ev B ta ρ μ P1) (k : ∀ d, P1 d → ∃ b, d = .bl b ∧ Pb b) (h2 : Pb false → Ev B tb ρ μ P) (h3 : Pb true → P (.bl true)) : Ev B (tOrV ta tb) ρ μ P := Ev.mk fun τ σ H a Q q => h1.go a fun v H' d hd a1 => by
  obtain ⟨b, rfl, hb⟩ := k d hd
  obtain ⟨G, g, hv⟩ := a1.top
  refine ⟨b, hv, ?_⟩
  cases b with
  | true => exact q _ H' _ (h3 hb) (At.flat ⟨G, g⟩ fun _ => rfl)
  | false => exact (h2 hb).go ⟨G, g⟩ q
theorem ed_andV {a b : Bool} (h1 : Ed B ta ρ μ (.bl a)) (h2 : a = true → Ed B tb ρ μ (.bl b)) : Ed B (tAndV ta tb) ρ μ (.bl (a && b)) := ev_andV (Pb := fun c => c = a) h1 (fun d e => ⟨a, e, rfl⟩) (fun e => by
  subst e; exact Ev.imp (h2 rfl) fun c e => by rw [e]; rfl) (fun e => by rw [← e]; rfl)
theorem ed_orV {a b : Bool} (h1 : Ed B ta ρ μ (.bl a)) (h2 : a = false → Ed B tb ρ μ (.bl b)) : Ed B (tOrV ta tb) ρ μ (.bl (a || b)) := ev_orV (Pb := fun c => c = a) h1 (fun d e => ⟨a, e, rfl⟩) (fun e => by
  subst e; exact Ev.imp (h2 rfl) fun c e => by rw [e]; rfl) (fun e => by rw [← e]; rfl)
theorem ed_notV (h : Ed B ta ρ μ (.bl b)) : Ed B (tNotV ta) ρ μ (.bl (!b)) := Ev.mk fun τ σ H a Q q => h.go a fun v H' d hd a1 => by
  subst hd
  obtain ⟨G, g, hv⟩ := a1.top
  exact ⟨b, hv, q _ H' _ rfl (At.flat ⟨G, g⟩ fun _ => rfl)⟩
theorem ev_if {Pb : Bool → Prop} (h : Et B tt ρ μ Pb) (h1 : Pb true → Ev B ta ρ μ P) (h2 : Pb false → Ev B tb ρ μ P) : Ev B (tIf tt ta tb) ρ μ P := Ev.mk fun τ σ H a Q q => h τ σ H a _ fun b H' hb a1 => by
  cases b with
  | true => exact (h1 hb).go a1 q
  | false => exact (h2 hb).go a1 q
theorem ed_if (h : Eb B tt ρ μ b) (h1 : b = true → Ed B ta ρ μ d) (h2 : b = false → Ed B tb ρ μ d) : Ed B (tIf tt ta tb) ρ μ d := ev_if h (fun e => h1 e.symm) (fun e => h2 e.symm)
theorem ed_chain {a b : Bool} (ha : Ed B ta ρ μ d1) (hb : Ed B tb ρ μ d2) (hc : a = true → Ed B tc ρ μ d3) (h1 : ∀ G H x y, Same G H → Dt B.K G d1 x → Dt B.K G d2 y → ∀ Q : VK, Q (.bl a) H → r x y H Q)
    (h2 : a = true → ∀ G H x y, Same G H → Dt B.K G d2 x → Dt B.K G d3 y → ∀ Q : VK, Q (.bl b) H → r' x y H Q) : Ed B (tChain r r' ta tb tc) ρ μ (.bl (a && b)) := Ev.mk fun τ σ H at0 Q q =>
  ha.go at0 fun x H1 _ e1 a1 => hb.go a1 fun y H2 _ e2 a2 => by
    rw [e1, e2] at a2
    obtain ⟨G, g, k1, k2⟩ := a2.two
    refine h1 G H2 x y g.sub k1 k2 _ ⟨a, rfl, ?_⟩
    cases a with
    | true =>
      refine (hc rfl).go (At.sub (τ' := (y, d2) :: τ) a2 fun p hp => ?_) fun z H3 _ e3 a3 => ?_
      · rcases List.mem_cons.mp hp with e | e
        · rw [e]; exact List.mem_cons_self ..
        · exact List.mem_cons_of_mem _ (List.mem_cons_of_mem _ e)
      · rw [e3] at a3
        obtain ⟨G3, g3, k3, k4⟩ := a3.two
        exact h2 rfl G3 H3 y z g3.sub k3 k4 Q (q _ H3 _ rfl (At.flat ⟨G3, g3⟩ fun _ => rfl))
    | false => exact q _ H2 _ rfl (At.flat ⟨G, g⟩ fun _ => rfl)
/-! args, calls -/
theorem ea_nil : Ea B tNil ρ μ (fun ds => ds = []) := fun τ σ H a Q q => q [] H [] rfl rfl a
theorem ea_cons {tr : TA} {Ps : List D → Prop} (h : Ev B ta ρ μ P) (hr : ∀ d, P d → Ea B tr ρ μ (fun ds => Ps (d :: ds))) : Ea B (tCons ta tr) ρ μ Ps := fun τ σ H a Q q => h.go a fun x H1 d hd a1 =>
  hr d hd _ σ H1 a1 _ fun xs H2 ds hds hl a2 => q (x :: xs) H2 (d :: ds) hds (by rw [List.length_cons, List.length_cons, hl]) (a2.sub fun p hp => by
    rw [List.zip_cons_cons, List.cons_append] at hp
    rcases List.mem_cons.mp hp with e | e
    · rw [e]; exact List.mem_append_right _ (List.mem_cons_self ..)
    · rcases List.mem_append.mp e with e | e
      · exact List.mem_append_left _ e
      · exact List.mem_append_right _ (List.mem_cons_of_mem _ e))
theorem ead_cons {tr : TA} {ds : List D} (h : Ed B ta ρ μ d) (hr : Ea B tr ρ μ (fun es => es = ds)) : Ea B (tCons ta tr) ρ μ (fun es => es = d :: ds) := ea_cons h fun e he => by
  subst he
  exact fun τ σ H a Q q => hr τ σ H a Q fun vs H' es z => q vs H' es (by rw [z])
theorem ev_cb {r : List V → Hp → VK → Prop} {t : TA} {Ps : List D → Prop} (h : Ea B t ρ μ Ps) (hr : ∀ ds, Ps ds → RC B r ρ μ ds P) : Ev B (tCB r t) ρ μ P := Ev.mk fun τ σ H a Q q => h τ σ H a _ fun vs H1 ds hds hl a1 => hr ds hds τ σ H1 vs hl a1 Q q
theorem ed_cb {r : List V → Hp → VK → Prop} {t : TA} {ds : List D} (h : Ea B t ρ μ (fun es => es = ds)) (hr : RC B r ρ μ ds P) : Ev B (tCB r t) ρ μ P := ev_cb h fun es e => by
  subst e; exact hr
theorem RC.inl {r r' : List V → Hp → VK → Prop} {ds : List D} (h : RC B r ρ μ ds P) : RC B (fun xs H Q => r xs H Q ∨ r' xs H Q) ρ μ ds P := fun τ σ H x y a Q q => .inl (h τ σ H x y a Q q)
theorem RC.inr {r r' : List V → Hp → VK → Prop} {ds : List D} (h : RC B r' ρ μ ds P) : RC B (fun xs H Q => r xs H Q ∨ r' xs H Q) ρ μ ds P := fun τ σ H x y a Q q => .inr (h τ σ H x y a Q q)
theorem DtA.of_zip {K : PySem.W.Frag} {G : Hp} : ∀ {vs : List V} {ds : List D}, vs.length = ds.length → (∀ p ∈ vs.zip ds, Dt K G p.2 p.1) → DtA K G ds vs
  | [], [], _, _ => rfl
  | [], d :: ds, h, _ => by simp at h
  | v :: vs, [], h, _ => by simp at h
  | v :: vs, d :: ds, h, k => ⟨v, vs, rfl, k (v, d) (by simp), DtA.of_zip (by simpa using h) fun p hp => k p (by rw [List.zip_cons_cons]; exact List.mem_cons_of_mem _ hp)⟩
theorem At.args {vs : List V} {ds : List D} {τ σ H} (hl : vs.length = ds.length) (a : At B ρ μ (vs.zip ds ++ τ) σ H) : ∃ G, AtG B ρ μ τ σ H G ∧ DtA B.K G ds vs := by
  obtain ⟨G, h⟩ := a
  exact ⟨G, { h with temps := fun p hp => h.temps p (List.mem_append_right _ hp) }, DtA.of_zip hl fun p hp => h.temps p (List.mem_append_left _ hp)⟩
theorem rc_flat {r : List V → Hp → VK → Prop} {ds : List D} {z : V} {d : D} (hz : ∀ G, Dt B.K G d z) (h : ∀ G H xs, Same G H → DtA B.K G ds xs → ∀ Q : VK, Q z H → r xs H Q) : RC B r ρ μ ds (fun e => e = d) := fun τ σ H xs hl a Q q => by
  obtain ⟨G, g, k⟩ := a.args hl
  exact h G H xs g.sub k Q (q z H d rfl (At.flat ⟨G, g⟩ hz))
/-- displays -/
theorem ev_tup {t : TA} {Ps : List D → Prop} (h : Ea B t ρ μ Ps) (hl : ∀ ds, Ps ds → ds.length ≤ sizeLine ∧ P (.tup ds)) : Ev B (tTup t) ρ μ P := Ev.mk fun τ σ H a Q q => h τ σ H a _ fun vs H1 ds hds hlen a1 =>
  ⟨by rw [hlen]; exact (hl ds hds).1, fun p hp => q _ _ _ (hl ds hds).2 (At.sub (At.new (dn := .tup ds) a1 hp fun G k1 k2 => ⟨p, vs, rfl, k2, DtA.of_zip hlen fun q hq => k1 q (List.mem_append_left _ hq)⟩) fun q hq => by
    rcases List.mem_cons.mp hq with e | e
    · rw [e]; exact List.mem_cons_self ..
    · exact List.mem_cons_of_mem _ (List.mem_append_right _ e))⟩
theorem ev_lst {t : TA} {Ps : List D → Prop} (h : Ea B t ρ μ Ps) (hl : ∀ ds, Ps ds → ds.length ≤ sizeLine ∧ P (.lst ds)) : Ev B (tLst t) ρ μ P := Ev.mk fun τ σ H a Q q => h τ σ H a _ fun vs H1 ds hds hlen a1 =>
  ⟨by rw [hlen]; exact (hl ds hds).1, fun p hp => q _ _ _ (hl ds hds).2 (At.sub (At.new (dn := .lst ds) a1 hp fun G k1 k2 => ⟨p, vs, rfl, k2, DtA.of_zip hlen fun q hq => k1 q (List.mem_append_left _ hq)⟩) fun q hq => by
    rcases List.mem_cons.mp hq with e | e
    · rw [e]; exact List.mem_cons_self ..
    · exact List.mem_cons_of_mem _ (List.mem_append_right _ e))⟩
theorem ed_tup {t : TA} {ds : List D} (h : Ea B t ρ μ (fun es => es = ds)) (hl : ds.length ≤ sizeLine) : Ed B (tTup t) ρ μ (.tup ds) := ev_tup h fun es e => ⟨by rw [e]; exact hl, by rw [e]⟩
theorem ed_lst {t : TA} {ds : List D} (h : Ea B t ρ μ (fun es => es = ds)) (hl : ds.length ≤ sizeLine) : Ed B (tLst t) ρ μ (.lst ds) := ev_lst h fun es e => ⟨by rw [e]; exact hl, by rw [e]⟩
/-! own calls -/
/-- what a def promises: pre of the data of its arguments; post of its answer's -/
def fsp (K : PySem.W.Frag) (I : Hp → Prop) (M : List Addr) (pre : List D → Prop) (post : List D → D → Prop) : Sp := fun vs H Q _ => ∃ (G : Hp) (ds : List D), DtA K G ds vs ∧ pre ds ∧ Same G H ∧ I H ∧ (∀ b ∈ M, G b = none ∧ Ent H b) ∧ (∀ b vs, H b = some (.tup vs) → G b = some (.tup vs)) ∧
  ∀ v H' d, post ds d → I H' → (∀ b ∈ M, Ent H' b) → (∀ b o, H b = some o → b ∉ M → H' b = some o) → Dt K (fun b => match H b with | none => H' b | some _ => G b) d v → Q v H'
end
end Cal


namespace Cal
open PySem PySem.Spec PyProof.Rows L2
section
variable {B : Bs} {ρ ρ' : Ro} {μ μ' : Mu} {τ : List (V × D)} {σ : L2.St} {H : Hp} {ta tb tc te tx : TE} {tt tu : TT} {P P1 P2 P3 : D → Prop} {d d1 d2 d3 e : D} {r r' : R2} {R R1 : D → Mu → Prop} {i j : Int} {b : Bool} {v : V} {E : XK}
/-! ### own calls -/
theorem ev_callS {sp : Sp} {I' : Hp → Prop} {M' : List Addr} {pre : List D → Prop} {post : List D → D → Prop} {t : TA} {Ps : List D → Prop} (h : Ea B t ρ μ Ps) (hs : ∀ vs H Q, fsp B.K I' M' pre post vs H Q E → sp vs H Q E) (hpre : ∀ ds, Ps ds → pre ds) (hpost : ∀ ds d, Ps ds → post ds d → P d)
    (hM : ∀ b ∈ M', b ∈ B.M) (hI : ∀ H, B.I H → I' H) (hI' : ∀ H H', B.I H → I' H' → (∀ b ∈ B.M, H b ≠ none) → (∀ b o, H b = some o → b ∉ M' → H' b = some o) → B.I H') : Ev B (tCall sp [] E t) ρ μ P := Ev.mk fun τ σ H a Q q => h τ σ H a _ fun vs H1 ds hds hl a1 => by
  obtain ⟨G, g, k⟩ := a1.args hl
  rw [List.append_nil]
  refine hs _ _ _ ⟨G, ds, k, hpre ds hds, g.sub, hI H1 g.inv, fun b hb => g.out b (hM b hb), g.tup, fun v H2 d hd i2 n2 s2 dv => ?_⟩
  have sg : Same G (fun b => match H1 b with | none => H2 b | some _ => G b) := fun b o e => by
    have e1 := g.sub b o e
    show (match H1 b with | none => H2 b | some _ => G b) = some o
    rw [e1]; exact e
  have nM : ∀ b o, G b = some o → b ∉ M' := fun b o e m => by rw [(g.out b (hM b m)).1] at e; cases e
  have gn : ∀ b, G b = none → H1 b ≠ none → (match H1 b with | none => H2 b | some _ => G b) = none := fun b e1 e2 => by
    cases e : H1 b with
    | none => exact absurd e e2
    | some o => exact e1
  refine q v H2 d (hpost ds d hds hd) ⟨_, AtG.push (G := fun b => match H1 b with | none => H2 b | some _ => G b) ⟨fun b o e => ?_, hI' H1 H2 g.inv i2 (fun b hb => (g.out b hb).2.1) s2, fun b hb => ⟨gn b (g.out b hb).1 (g.out b hb).2.1, ?_⟩, fun b vs e => ?_, fun b o e hb => s2 b o (g.base b o e hb) fun m => hb (hM b m), fun b o e => ?_, g.len, fun i d e => let ⟨v, a, c⟩ := g.slots i d e; ⟨v, a, Dt.mono sg d c⟩, fun p hp => ?_, g.nd, fun p hp => Dt.mono sg p.2 (g.temps p hp)⟩ dv⟩
  · cases e1 : H1 b with
    | none => rw [e1] at e; exact e
    | some o1 =>
      rw [e1] at e
      have e2 := g.sub b o e
      exact s2 b o e2 (nM b o e)
  · by_cases m : b ∈ M'
    · exact n2 b m
    · cases e1 : H1 b with
      | none => exact absurd e1 (g.out b hb).2.1
      | some o1 => unfold Ent; rw [s2 b o1 e1 m, ← e1]; exact (g.out b hb).2
  · show (match H1 b with | none => H2 b | some _ => G b) = some (.tup vs)
    cases e1 : H1 b with
    | none => exact e
    | some o1 =>
      by_cases m : b ∈ M'
      · exact absurd e ((n2 b m).2 vs)
      · rw [s2 b o1 e1 m] at e
        rw [e] at e1
        exact g.tup b vs e1
  · cases e1 : H1 b with
    | none =>
      refine .inl ?_
      cases e2 : B.H0 b with
      | none => rfl
      | some o2 =>
        by_cases m : b ∈ B.M
        · exact absurd e1 (g.out b m).2.1
        · rw [g.base b o2 e2 m] at e1; cases e1
    | some o1 => rw [e1] at e; exact g.ext b o e
  · obtain ⟨c1, c2, c3, c4⟩ := g.cells p hp
    refine ⟨gn _ c1 c4.there, c2, c3, c4.mono sg fun o e => s2 _ o e fun m => c3 (hM _ m)⟩
theorem ev_call {I' : Hp → Prop} {M' : List Addr} {pre : List D → Prop} {post : List D → D → Prop} {t : TA} {Ps : List D → Prop} (h : Ea B t ρ μ Ps) (hpre : ∀ ds, Ps ds → pre ds) (hpost : ∀ ds d, Ps ds → post ds d → P d)
    (hM : ∀ b ∈ M', b ∈ B.M) (hI : ∀ H, B.I H → I' H) (hI' : ∀ H H', B.I H → I' H' → (∀ b ∈ B.M, H b ≠ none) → (∀ b o, H b = some o → b ∉ M' → H' b = some o) → B.I H') : Ev B (tCall (fsp B.K I' M' pre post) [] E t) ρ μ P := ev_callS h (fun _ _ _ z => z) hpre hpost hM hI hI'
/-- a def that changes nothing but what all change -/
theorem ev_callD {pre : List D → Prop} {post : List D → D → Prop} {t : TA} {Ps : List D → Prop} (h : Ea B t ρ μ Ps) (hpre : ∀ ds, Ps ds → pre ds) (hpost : ∀ ds d, Ps ds → post ds d → P d) : Ev B (tCall (fsp B.K B.I B.M pre post) [] E t) ρ μ P :=
  ev_call h hpre hpost (fun _ h => h) (fun _ h => h) fun _ _ _ i _ _ => i
/-- a def that changes nothing -/
theorem ev_callP {pre : List D → Prop} {post : List D → D → Prop} {t : TA} {Ps : List D → Prop} (h : Ea B t ρ μ Ps) (hpre : ∀ ds, Ps ds → pre ds) (hpost : ∀ ds d, Ps ds → post ds d → P d) : Ev B (tCall (fsp B.K (fun _ => True) [] pre post) [] E t) ρ μ P :=
  ev_call h hpre hpost (fun _ h => nomatch h) (fun _ _ => True.intro) fun H H' i _ n s => B.loc H H' i fun b hb => by
    cases e : H b with
    | none => exact absurd e (n b hb)
    | some o => exact s b o e fun z => nomatch z
/-! ### a def's beginning -/
theorem fsp_start {K : PySem.W.Frag} {I : Hp → Prop} {M : List Addr} {pre : List D → Prop} {post : List D → D → Prop} {vs : List V} {H : Hp} {Q : VK} (loc : ∀ H H', I H → (∀ b ∈ M, H' b = H b) → I H') (N : List Str) (h : fsp K I M pre post vs H Q E) :
    ∃ (G : Hp) (ds : List D), pre ds ∧ vs.length = ds.length ∧ At ⟨K, I, M, loc, G, H⟩ (ds.map some ++ List.replicate (N.length - ds.length) none) [] [] (start N vs) H ∧
      ∀ {ρ μ τ σ v H' d}, post ds d → At ⟨K, I, M, loc, G, H⟩ ρ μ ((v, d) :: τ) σ H' → Q v H' := by
  obtain ⟨G, ds, k, hp, s, i, o, tp, q⟩ := h
  refine ⟨G, ds, hp, k.length, ⟨G, ⟨s, i, o, tp, fun _ _ e _ => e, fun _ _ e => .inr e, ?_, fun i d e => ?_, fun _ h => (nomatch h), List.nodup_nil, fun _ h => (nomatch h)⟩⟩, fun {ρ μ τ σ v H' d} hd a => ?_⟩
  · show (ds.map some ++ List.replicate (N.length - ds.length) none).length = (vs.map some ++ List.replicate (N.length - vs.length) none).length
    rw [List.length_append, List.length_append, List.length_map, List.length_map, List.length_replicate, List.length_replicate, k.length]
  · by_cases hi : i < ds.length
    · rw [List.getElem?_append_left (by rw [List.length_map]; exact hi), List.getElem?_map] at e
      cases e1 : ds[i]? with
      | none => rw [e1] at e; cases e
      | some d' =>
        rw [e1] at e
        have e2 : d' = d := Option.some.inj (Option.some.inj e)
        subst e2
        obtain ⟨v, h1, h2⟩ := k.get e1
        refine ⟨v, ?_, h2⟩
        show (vs.map some ++ List.replicate (N.length - vs.length) none)[i]? = _
        rw [List.getElem?_append_left (by rw [List.length_map, k.length]; exact hi), List.getElem?_map, h1]
        rfl
    · rw [List.getElem?_append_right (by rw [List.length_map]; omega), List.getElem?_replicate] at e
      split at e <;> cases e
  · obtain ⟨G1, g, k1⟩ := a.top
    refine q v H' d hd g.inv (fun b hb => (g.out b hb).2) g.base (Dt.mono (fun b o e => ?_) d k1)
    show (match H b with | none => H' b | some _ => G b) = some o
    rcases g.ext b o e with z | z
    · rw [show H b = none from z]; exact g.sub b o e
    · cases e1 : H b with
      | none => exact g.sub b o e
      | some o1 => exact z
/-! ### statements -/
variable {D0 : Ends} {ts t1 t2 : TS} {g : TG}
theorem x_seq (h : t1 { D0 with nx := t2 D0 } σ H) : tSeq t1 t2 D0 σ H := h
theorem x_next (h : D0.nx σ H) : tNext D0 σ H := h
theorem x_asg {k : Nat} (a : At B ρ μ τ σ H) (he : Xv B te ρ μ R) (q : ∀ d μ' σ' H', R d μ' → At B (ρ.set k (some d)) μ' τ σ' H' → D0.nx σ' H') : tAsg te (gName k) D0 σ H :=
  he τ σ H a _ fun v H' d μ' hd a' => q d μ' _ H' hd (a'.set k)
theorem x_set {k : Nat} (a : At B ρ μ τ σ H) (he : Ed B te ρ μ d) (q : ∀ σ' H', At B (ρ.set k (some d)) μ τ σ' H' → D0.nx σ' H') : tAsg te (gName k) D0 σ H :=
  x_asg a he fun e μ' σ' H' z a' => by
    obtain ⟨z1, z2⟩ := z
    subst z1; subst z2; exact q σ' H' a'
theorem x_setV {k : Nat} (a : At B ρ μ τ σ H) (he : Ev B te ρ μ P) (q : ∀ d σ' H', P d → At B (ρ.set k (some d)) μ τ σ' H' → D0.nx σ' H') : tAsg te (gName k) D0 σ H :=
  x_asg a he fun e μ' σ' H' z a' => by
    obtain ⟨z1, z2⟩ := z
    subst z2; exact q e σ' H' z1 a'
theorem x_if {Pb : Bool → Prop} (a : At B ρ μ τ σ H) (h : Et B tt ρ μ Pb) (q1 : Pb true → ∀ H', At B ρ μ τ σ H' → t1 D0 σ H') (q2 : Pb false → ∀ H', At B ρ μ τ σ H' → t2 D0 σ H') : tIfS tt t1 t2 D0 σ H := h τ σ H a _ fun b H' hb a' => by
  cases b with
  | true => exact q1 hb H' a'
  | false => exact q2 hb H' a'
theorem x_ifb (a : At B ρ μ τ σ H) (h : Eb B tt ρ μ b) (q1 : b = true → ∀ H', At B ρ μ τ σ H' → t1 D0 σ H') (q2 : b = false → ∀ H', At B ρ μ τ σ H' → t2 D0 σ H') : tIfS tt t1 t2 D0 σ H := x_if a h (fun e => q1 e.symm) (fun e => q2 e.symm)
theorem x_ret (a : At B ρ μ τ σ H) (he : Ev B te ρ μ P) (q : ∀ v H' d, P d → At B ρ μ ((v, d) :: τ) σ H' → D0.rt v H') : tRet te D0 σ H := he.go a q
theorem x_drop (a : At B ρ μ τ σ H) (he : Xv B te ρ μ R) (q : ∀ d μ' H', R d μ' → At B ρ μ' τ σ H' → D0.nx σ H') : tDrop te D0 σ H := he τ σ H a _ fun v H' d μ' hd a' => q d μ' H' hd a'.pop
theorem x_par {k l : Nat} {t : TA} {Ps : D → D → Prop} (a : At B ρ μ τ σ H) (he : Ea B t ρ μ fun ds => ∃ d1 d2, ds = [d1, d2] ∧ Ps d1 d2) (q : ∀ d1 d2 σ' H', Ps d1 d2 → At B ((ρ.set k (some d1)).set l (some d2)) μ τ σ' H' → D0.nx σ' H') : tPar k l t D0 σ H := he τ σ H a _ fun vs H' ds hds hl a' => by
  obtain ⟨d1, d2, rfl, hd⟩ := hds
  match vs, hl with
  | [v, w], _ =>
    refine ⟨v, w, rfl, q d1 d2 _ H' hd ?_⟩
    exact At.set l (At.sub (τ' := (w, d2) :: τ) (At.set k a') fun p hp => by simpa using hp)
/-! ### targets -/
/-- a target takes a value: the slots js alone change -/
def Gd (B : Bs) (g : TG) (ρ : Ro) (μ : Mu) (d : D) (ρ' : Ro) (js : List Nat) : Prop := ∀ (τ : List (V × D)) (σ : L2.St) (H : Hp) (v : V), At B ρ μ ((v, d) :: τ) σ H → ∀ Q : L2.St → Hp → Prop, (∀ σ', At B ρ' μ τ σ' H → σ'.length = σ.length → (∀ i, i ∉ js → σ'[i]? = σ[i]?) → Q σ' H) → g v σ H Q
theorem gd_name (k : Nat) : Gd B (gName k) ρ μ d (ρ.set k (some d)) [k] := fun τ σ H v a Q q => q _ (a.set k) (List.length_set ..) fun i hi => by
  rw [List.getElem?_set_ne (fun e => hi (by rw [e]; exact List.mem_singleton.mpr rfl))]
theorem gd_tup2 {k l : Nat} : Gd B (gTup B.K 2 (gCons (gName k) (gCons (gName l) gNil))) ρ μ (.tup [d1, d2]) ((ρ.set k (some d1)).set l (some d2)) [k, l] := fun τ σ H v a Q q => by
  obtain ⟨G, g, p, vs, rfl, e, u, r, rfl, hu, w, r', rfl, hw, rfl⟩ := a.top
  refine ⟨p, [u, w], rfl, .inl (.inl (g.sub _ _ e)), rfl, u, [w], rfl, w, [], rfl, rfl, ?_⟩
  refine q _ (At.set l (At.set (τ := (w, d2) :: τ) k ⟨G, (g.push hw).push hu⟩)) (by rw [List.length_set, List.length_set]) fun i hi => ?_
  rw [List.getElem?_set_ne (fun z => hi (by rw [z]; simp)), List.getElem?_set_ne (fun z => hi (by rw [z]; simp))]
theorem x_asgG {ρ' : Ro} {js : List Nat} (a : At B ρ μ τ σ H) (he : Ed B te ρ μ d) (hg : Gd B g ρ μ d ρ' js) (q : ∀ σ' H', At B ρ' μ τ σ' H' → D0.nx σ' H') : tAsg te g D0 σ H :=
  he.go a fun v H' d' hd a' => by
    subst hd
    exact hg τ σ H' v a' _ fun σ' a2 _ _ => q σ' H' a2
/-! ### what is walked: n turns, f i the data of turn i -/
def Ei (B : Bs) (wi : TI) (ρ : Ro) (μ : Mu) (n : Nat) (f : Nat → D) : Prop := ∀ (τ : List (V × D)) (σ : L2.St) (H : Hp), At B ρ μ τ σ H → ∀ Rr : It → Hp → Prop,
  (∀ J H1 τ1, (∀ p ∈ τ, p ∈ τ1) → At B ρ μ τ1 σ H1 → (∀ i ρ' μ' τ' σ' H', (∀ p ∈ τ1, p ∈ τ') → At B ρ' μ' τ' σ' H' → (n ≤ i → J.stop i H') ∧ (i < n → J.go i H' ∧ ∀ x H2, J.yld i H' x H2 → At B ρ' μ' ((x, f i) :: τ') σ' H2)) → Rr J H1) → wi σ H Rr
theorem getD_of {ds : List D} {i : Nat} (h : i < ds.length) : ds[i]? = some (ds.getD i .non) := by
  rw [List.getD_eq_getElem?_getD, List.getElem?_eq_getElem h]; rfl
theorem ei_tup {tl : TE} {ds : List D} (h : Ed B tl ρ μ (.tup ds)) : Ei B (iTup B.K tl) ρ μ ds.length (fun i => ds.getD i .non) := fun τ σ H a Rr q => h.go a fun v H' d hd a1 => by
  subst hd
  obtain ⟨G, g, p, vs, rfl, e, k⟩ := id a1.top
  refine ⟨p, rfl, ⟨vs, .inl (.inl (g.sub _ _ e))⟩, q _ H' _ (fun z hz => List.mem_cons_of_mem _ hz) a1 fun i ρ' μ' τ' σ' H' hsub a2 => ?_⟩
  obtain ⟨G2, g2⟩ := a2
  obtain ⟨p', vs', e', e2, k2⟩ := g2.temps _ (hsub _ (List.mem_cons_self ..))
  cases e'
  have e3 : SqT B.K H' p vs' := .inl (.inl (g2.sub _ _ e2))
  refine ⟨fun hi => ⟨vs', e3, by rw [k2.length]; exact hi⟩, fun hi => ?_⟩
  obtain ⟨x, hx, dx⟩ := k2.get (getD_of hi)
  refine ⟨⟨vs', x, e3, hx⟩, fun y H2 hy => ?_⟩
  obtain ⟨rfl, hy⟩ := hy
  have ey : x = y := Option.some.inj (hx.symm.trans (hy vs' e3))
  subst ey
  exact ⟨G2, g2.push dx⟩
theorem ei_lst {tl : TE} {ds : List D} (h : Ed B tl ρ μ (.lst ds)) : Ei B (iList B.K tl) ρ μ ds.length (fun i => ds.getD i .non) := fun τ σ H a Rr q => h.go a fun v H' d hd a1 => by
  subst hd
  obtain ⟨G, g, p, vs, rfl, e, k⟩ := id a1.top
  refine ⟨p, rfl, ⟨vs, .inl (.inl (g.sub _ _ e))⟩, q _ H' _ (fun z hz => List.mem_cons_of_mem _ hz) a1 fun i ρ' μ' τ' σ' H' hsub a2 => ?_⟩
  obtain ⟨G2, g2⟩ := a2
  obtain ⟨p', vs', e', e2, k2⟩ := g2.temps _ (hsub _ (List.mem_cons_self ..))
  cases e'
  have e3 : SqL B.K H' p vs' := .inl (.inl (g2.sub _ _ e2))
  refine ⟨fun hi => ⟨vs', e3, by rw [k2.length]; exact hi⟩, fun hi => ?_⟩
  obtain ⟨x, hx, dx⟩ := k2.get (getD_of hi)
  refine ⟨⟨vs', x, e3, hx⟩, fun y H2 hy => ?_⟩
  obtain ⟨rfl, hy⟩ := hy
  have ey : x = y := Option.some.inj (hx.symm.trans (hy vs' e3))
  subst ey
  exact ⟨G2, g2.push dx⟩
theorem ei_str {tl : TE} {s : Str} (h : Ed B tl ρ μ (.str s)) : Ei B (iStr tl) ρ μ s.cps.size (fun i => .str ⟨#[s.cps.getD i 0]⟩) := fun τ σ H a Rr q => h.go a fun v H' d hd a1 => by
  subst hd
  obtain ⟨G, g, e⟩ := id a1.top
  refine ⟨s, e, q _ H' _ (fun z hz => List.mem_cons_of_mem _ hz) a1 fun i ρ' μ' τ' σ' H' hsub a2 => ⟨fun hi => hi, fun hi => ⟨hi, fun y H2 hy => ?_⟩⟩⟩
  obtain ⟨rfl, c, hc, rfl⟩ := hy
  refine At.flat a2 fun G => ?_
  show V.str ⟨#[c]⟩ = V.str ⟨#[s.cps.getD i 0]⟩
  rw [Array.getD_eq_getD_getElem?, hc]; rfl
theorem ei_rng1 {t : TA} (h : Ea B t ρ μ (fun es => es = [.int i])) (hb : -(2 ^ 62) ≤ i ∧ i < 2 ^ 62) : Ei B (iRng1 t) ρ μ i.toNat (fun k => .int k) := fun τ σ H a Rr q => h τ σ H a _ fun vs H1 ds hds hl a1 => by
  subst hds
  obtain ⟨G, g, k⟩ := a1.args hl
  obtain ⟨v, r, rfl, hv, hr⟩ := k
  have hr' : r = [] := hr
  subst hr'
  refine ⟨i, by rw [show v = V.int i from hv], hb.1, hb.2, q _ H1 τ (fun z hz => hz) ⟨G, g⟩ fun k ρ' μ' τ' σ' H' hsub a2 => ⟨fun hi => hi, fun hi => ⟨hi, fun y H2 hy => ?_⟩⟩⟩
  obtain ⟨rfl, rfl⟩ := hy
  exact At.flat a2 fun G => by
    show V.int (0 + (k : Int)) = V.int (k : Int)
    rw [Int.zero_add]
theorem ei_rng2 {t : TA} (h : Ea B t ρ μ (fun es => es = [.int i, .int j])) (hb : -(2 ^ 62) ≤ i ∧ i < 2 ^ 62 ∧ -(2 ^ 62) ≤ j ∧ j < 2 ^ 62) : Ei B (iRng2 t) ρ μ (j - i).toNat (fun k => .int (i + k)) := fun τ σ H a Rr q => h τ σ H a _ fun vs H1 ds hds hl a1 => by
  subst hds
  obtain ⟨G, g, k⟩ := a1.args hl
  obtain ⟨v, r, rfl, hv, w, r', rfl, hw, hr⟩ := k
  have hr' : r' = [] := hr
  subst hr'
  refine ⟨i, j, by rw [show v = V.int i from hv, show w = V.int j from hw], hb, q _ H1 τ (fun z hz => hz) ⟨G, g⟩ fun k ρ' μ' τ' σ' H' hsub a2 => ⟨fun hi => hi, fun hi => ⟨hi, fun y H2 hy => ?_⟩⟩⟩
  obtain ⟨rfl, rfl⟩ := hy
  exact At.flat a2 fun G => rfl
/-- for: Inv tells the slots and cells at each turn -/
theorem x_for {wi : TI} {n : Nat} {f : Nat → D} {tb : TS} {js : List Nat} (a : At B ρ μ τ σ H) (hi : Ei B wi ρ μ n f) (Inv : Nat → Ro → Mu → Prop) (h0 : Inv 0 ρ μ)
    (hs : ∀ i ρ' μ' τ1 σ' H' v (Dn : Ends), i < n → Inv i ρ' μ' → (∀ p ∈ τ, p ∈ τ1) → At B ρ' μ' ((v, f i) :: τ1) σ' H' → (∀ ρ2 μ2 σ2 H2, Inv (i + 1) ρ2 μ2 → At B ρ2 μ2 τ1 σ2 H2 → Dn.nx σ2 H2) → (∀ ρ2 μ2 σ2 H2, Inv (i + 1) ρ2 μ2 → At B ρ2 μ2 τ1 σ2 H2 → Dn.ct σ2 H2) → Dn.bk = D0.nx → Dn.rt = D0.rt → g v σ' H' (tb Dn))
    (hd : ∀ ρ' μ' σ' H', Inv n ρ' μ' → At B ρ' μ' τ σ' H' → D0.nx σ' H') : tFor wi g tb D0 σ H := hi τ σ H a _ fun J H1 τ1 hsub a1 hJ => by
  refine ⟨fun i m σ H => m = n - i ∧ i ≤ n ∧ ∃ ρ' μ', Inv i ρ' μ' ∧ At B ρ' μ' τ1 σ H, ⟨n, by omega, by omega, ρ, μ, h0, a1⟩, fun i m σ2 H2 hW => ?_⟩
  obtain ⟨rfl, hin, ρ', μ', hI, a2⟩ := hW
  obtain ⟨s1, s2⟩ := hJ i ρ' μ' τ1 σ2 H2 (fun _ z => z) a2
  by_cases hlt : i < n
  · obtain ⟨s3, s4⟩ := s2 hlt
    refine .inr ⟨s3, fun σ3 H3 => ∃ ρ' μ', Inv (i + 1) ρ' μ' ∧ At B ρ' μ' τ1 σ3 H3, fun σ3 H3 ⟨ρ3, μ3, i3, a3⟩ => ⟨n - (i + 1), by omega, rfl, hlt, ρ3, μ3, i3, a3⟩, fun x H3 hy => ?_⟩
    exact hs i ρ' μ' τ1 σ2 H3 x { D0 with nx := fun σ3 H3 => ∃ ρ' μ', Inv (i + 1) ρ' μ' ∧ At B ρ' μ' τ1 σ3 H3, ct := fun σ3 H3 => ∃ ρ' μ', Inv (i + 1) ρ' μ' ∧ At B ρ' μ' τ1 σ3 H3, bk := D0.nx } hlt hI hsub (s4 x H3 hy) (fun ρ2 μ2 σ2 H2 i2 a2 => ⟨ρ2, μ2, i2, a2⟩) (fun ρ2 μ2 σ2 H2 i2 a2 => ⟨ρ2, μ2, i2, a2⟩) rfl rfl
  · have e : i = n := by omega
    subst e
    exact .inl ⟨s1 (Nat.le_refl _), hd ρ' μ' σ2 H2 hI (a2.sub hsub)⟩
end
end Cal


namespace Cal
open PySem PySem.Spec PyProof.Rows L2
section
variable {B : Bs} {ρ ρ' : Ro} {μ μ' : Mu} {τ : List (V × D)} {σ σ2 : L2.St} {H : Hp} {ta tb tc te tx : TE} {tt tu : TT} {P P1 P2 P3 : D → Prop} {d d1 d2 d3 e : D} {r r' : R2} {R R1 : D → Mu → Prop} {i j : Int} {b : Bool} {v : V} {E : XK} {p : Addr}
/-- a cell that changes no more -/
theorem At.freeze {ds : List D} (a : At B ρ ((p, .lst ds) :: μ) τ σ H) : At B ρ μ ((.ref p, .lst ds) :: τ) σ H := by
  obtain ⟨G, g⟩ := a
  obtain ⟨n1, n2, n3, vs, n4, n5⟩ := (g.cells _ (List.mem_cons_self ..) : G p = none ∧ B.H0 p = none ∧ p ∉ B.M ∧ ∃ vs, H p = some (.lst vs) ∧ DtA B.K G ds vs)
  have sg : Same G (upd G p (.lst vs)) := same_new n1
  have nd := g.nd
  rw [List.map_cons, List.nodup_cons] at nd
  refine ⟨upd G p (.lst vs), AtG.push ⟨fun b o e => ?_, g.inv, fun b hb => ?_, fun b us e => ?_, g.base, fun b o e => ?_, g.len, fun i d e => let ⟨v, a, c⟩ := g.slots i d e; ⟨v, a, Dt.mono sg d c⟩, fun q hq => ?_, nd.2, fun q hq => Dt.mono sg q.2 (g.temps q hq)⟩ ⟨p, vs, rfl, upd_same, DtA.mono sg ds n5⟩⟩
  · by_cases hb : b = p
    · subst hb; rw [upd_same] at e; cases e; exact n4
    · rw [upd_ne hb] at e; exact g.sub b o e
  · rw [upd_ne (ne_of_mem n3 hb)]; exact g.out b hb
  · by_cases hb : b = p
    · subst hb; rw [n4] at e; cases e
    · rw [upd_ne hb]; exact g.tup b us e
  · by_cases hb : b = p
    · subst hb; exact .inl n2
    · rw [upd_ne hb] at e; exact g.ext b o e
  · obtain ⟨c1, c2, c3, c4⟩ := g.cells q (List.mem_cons_of_mem _ hq)
    refine ⟨?_, c2, c3, c4.mono sg fun o e => e⟩
    rw [upd_ne (fun z => nd.1 (List.mem_map.mpr ⟨q, hq, z⟩))]; exact c1
/-- the slots' data, as temps -/
def sv : Ro → L2.St → List (V × D)
  | some d :: ρ, some v :: σ => (v, d) :: sv ρ σ
  | _ :: ρ, _ :: σ => sv ρ σ
  | _, _ => []
theorem sv_mem : ∀ {ρ : Ro} {σ : L2.St} {q : V × D}, q ∈ sv ρ σ → ∃ i : Nat, ρ[i]? = some (some q.2) ∧ σ[i]? = some (some q.1)
  | [], σ, q, h => by cases σ <;> simp [sv] at h
  | none :: ρ, [], q, h => by simp [sv] at h
  | some d :: ρ, [], q, h => by simp [sv] at h
  | none :: ρ, v :: σ, q, h => by
    obtain ⟨i, h1, h2⟩ := sv_mem (ρ := ρ) (σ := σ) (by simpa [sv] using h)
    exact ⟨i + 1, by simpa using h1, by simpa using h2⟩
  | some d :: ρ, none :: σ, q, h => by
    obtain ⟨i, h1, h2⟩ := sv_mem (ρ := ρ) (σ := σ) (by simpa [sv] using h)
    exact ⟨i + 1, by simpa using h1, by simpa using h2⟩
  | some d :: ρ, some v :: σ, q, h => by
    rcases List.mem_cons.mp (show q ∈ (v, d) :: sv ρ σ from h) with e | e
    · subst e; exact ⟨0, rfl, rfl⟩
    · obtain ⟨i, h1, h2⟩ := sv_mem e
      exact ⟨i + 1, by simpa using h1, by simpa using h2⟩
theorem mem_sv : ∀ {ρ : Ro} {σ : L2.St} {i : Nat} {d : D} {v : V}, ρ[i]? = some (some d) → σ[i]? = some (some v) → (v, d) ∈ sv ρ σ
  | [], σ, i, d, v, h, _ => by simp at h
  | _ :: ρ, [], i, d, v, _, h => by simp at h
  | none :: ρ, w :: σ, 0, d, v, h, _ => by simp at h
  | none :: ρ, w :: σ, i + 1, d, v, h, k => by
    show _ ∈ sv ρ σ
    exact mem_sv (i := i) (by simpa using h) (by simpa using k)
  | some d' :: ρ, none :: σ, 0, d, v, h, k => by simp at k
  | some d' :: ρ, none :: σ, i + 1, d, v, h, k => by
    show _ ∈ sv ρ σ
    exact mem_sv (i := i) (by simpa using h) (by simpa using k)
  | some d' :: ρ, some v' :: σ, 0, d, v, h, k => by
    simp at h k; subst h; subst k; exact List.mem_cons_self ..
  | some d' :: ρ, some v' :: σ, i + 1, d, v, h, k => List.mem_cons_of_mem _ (mem_sv (i := i) (by simpa using h) (by simpa using k))
theorem At.save (a : At B ρ μ τ σ H) : At B ρ μ (sv ρ σ ++ τ) σ H := by
  obtain ⟨G, g⟩ := a
  refine ⟨G, { g with temps := fun q hq => ?_ }⟩
  rcases List.mem_append.mp hq with h | h
  · obtain ⟨i, h1, h2⟩ := sv_mem h
    obtain ⟨v, h3, h4⟩ := g.slots i _ h1
    rw [h2] at h3
    cases h3
    exact h4
  · exact g.temps q h
def Fits (ρ : Ro) (σ : L2.St) : Prop := ρ.length = σ.length ∧ ∀ (i : Nat) (d : D), ρ[i]? = some (some d) → ∃ v, σ[i]? = some (some v)
theorem At.fits (a : At B ρ μ τ σ H) : Fits ρ σ := by
  obtain ⟨G, g⟩ := a
  exact ⟨g.len, fun i d e => let ⟨v, h, _⟩ := g.slots i d e; ⟨v, h⟩⟩
theorem At.restore {ρ2 : Ro} (f : Fits ρ σ) (a : At B ρ2 μ τ σ2 H) (k : ∀ q ∈ sv ρ σ, q ∈ τ) : At B ρ μ τ σ H := by
  obtain ⟨G, g⟩ := a
  refine ⟨G, { g with len := f.1, slots := fun i d e => ?_ }⟩
  obtain ⟨v, h⟩ := f.2 i d e
  exact ⟨v, h, g.temps _ (k _ (mem_sv e h))⟩
def wipeR (ρ : Ro) : List Nat → Ro
  | [] => ρ
  | v :: vs => (wipeR ρ vs).set v none
theorem wipeR_len : ∀ vs : List Nat, (wipeR ρ vs).length = ρ.length
  | [] => rfl
  | v :: vs => by show ((wipeR ρ vs).set v none).length = _; rw [List.length_set, wipeR_len vs]
theorem wipeR_get {k : Nat} : ∀ {vs : List Nat}, (wipeR ρ vs)[k]? = some (some d) → ρ[k]? = some (some d) ∧ k ∉ vs
  | [], h => ⟨h, by simp⟩
  | v :: vs, h => by
    have h : ((wipeR ρ vs).set v none)[k]? = some (some d) := h
    by_cases hv : v = k
    · subst hv
      by_cases hl : v < (wipeR ρ vs).length
      · rw [List.getElem?_set_self hl] at h; cases h
      · rw [List.getElem?_eq_none (by rw [List.length_set]; omega)] at h; cases h
    · rw [List.getElem?_set_ne hv] at h
      obtain ⟨h1, h2⟩ := wipeR_get h
      exact ⟨h1, by simp only [List.mem_cons, not_or]; exact ⟨fun e => hv e.symm, h2⟩⟩
theorem wipe_get {k : Nat} : ∀ {vs : List Nat}, k ∉ vs → (wipe σ vs)[k]? = σ[k]?
  | [], _ => rfl
  | v :: vs, h => by
    rw [List.mem_cons, not_or] at h
    show ((wipe σ vs).set v none)[k]? = _
    rw [List.getElem?_set_ne (fun e => h.1 e.symm)]; exact wipe_get h.2
theorem wipe_in {k : Nat} : ∀ {vs : List Nat}, k ∈ vs → (wipe σ vs)[k]? = if k < σ.length then some none else none
  | v :: vs, h => by
    show ((wipe σ vs).set v none)[k]? = _
    by_cases hv : v = k
    · subst hv
      by_cases hl : v < σ.length
      · rw [List.getElem?_set_self (by rw [wipe_length]; exact hl), if_pos hl]
      · rw [if_neg hl, List.getElem?_eq_none (by rw [List.length_set, wipe_length]; omega)]
    · rw [List.getElem?_set_ne hv]
      rcases List.mem_cons.mp h with e | e
      · exact absurd e.symm hv
      · exact wipe_in e
theorem wipe_ext {vs js : List Nat} (hjs : ∀ k ∈ js, k ∈ vs) (hl : σ2.length = (wipe σ vs).length) (h : ∀ i, i ∉ js → σ2[i]? = (wipe σ vs)[i]?) : wipe σ2 vs = wipe σ vs := by
  refine List.ext_getElem? fun k => ?_
  by_cases hk : k ∈ vs
  · rw [wipe_in hk, wipe_in hk, hl, wipe_length]
  · rw [wipe_get hk, h k (fun z => hk (hjs k z)), wipe_get hk]
theorem At.wiped (a : At B ρ μ τ σ H) (vs : List Nat) : At B (wipeR ρ vs) μ τ (wipe σ vs) H := by
  obtain ⟨G, g⟩ := a
  refine ⟨G, { g with len := by rw [wipeR_len, wipe_length, g.len], slots := fun i d e => ?_ }⟩
  obtain ⟨h1, h2⟩ := wipeR_get e
  obtain ⟨v, h3, h4⟩ := g.slots i d h1
  exact ⟨v, by rw [wipe_get h2]; exact h3, h4⟩
/-- what a comprehension of i turns gives -/
def LcOk (c : Nat → Bool) (Pe : Nat → D → Prop) : Nat → List D → Prop
  | 0, ds => ds = []
  | i + 1, ds => if c i = true then ∃ ds' d, ds = ds' ++ [d] ∧ LcOk c Pe i ds' ∧ Pe i d else LcOk c Pe i ds
theorem LcOk.len {c : Nat → Bool} {Pe : Nat → D → Prop} : ∀ {n : Nat} {ds : List D}, LcOk c Pe n ds → ds.length ≤ n
  | 0, ds, h => by rw [show ds = [] from h]; exact Nat.le_refl _
  | n + 1, ds, h => by
    unfold LcOk at h
    split at h
    · obtain ⟨ds', d, rfl, h1, _⟩ := h
      rw [List.length_append]
      have := LcOk.len h1
      show ds'.length + 1 ≤ n + 1
      omega
    · exact Nat.le_succ_of_le (LcOk.len h)
theorem LcOk.det {c : Nat → Bool} {h : Nat → D} : ∀ {n : Nat} {ds : List D}, LcOk c (fun i d => d = h i) n ds → ds = ((List.range n).filter c).map h
  | 0, ds, k => k
  | n + 1, ds, k => by
    unfold LcOk at k
    rw [List.range_succ, List.filter_append, List.map_append]
    split at k
    · rename_i hc
      obtain ⟨ds', d, rfl, h1, rfl⟩ := k
      rw [← LcOk.det h1, List.filter_cons, if_pos hc]; rfl
    · rename_i hc
      rw [← LcOk.det k, List.filter_cons, if_neg hc]
      show ds = ds ++ []
      rw [List.append_nil]
theorem LcOk.all {Pe : Nat → D → Prop} : ∀ {n : Nat} {ds : List D}, LcOk (fun _ => true) Pe n ds → ds.length = n ∧ ∀ i d, ds[i]? = some d → Pe i d
  | 0, ds, k => by rw [show ds = [] from k]; exact ⟨rfl, fun i d e => by simp at e⟩
  | n + 1, ds, k => by
    unfold LcOk at k
    rw [if_pos rfl] at k
    obtain ⟨ds', d, rfl, h1, h2⟩ := k
    obtain ⟨l, q⟩ := LcOk.all h1
    refine ⟨by rw [List.length_append, l]; rfl, fun i e he => ?_⟩
    by_cases hi : i < ds'.length
    · rw [List.getElem?_append_left hi] at he; exact q i e he
    · rw [List.getElem?_append_right (by omega)] at he
      by_cases hj : i = ds'.length
      · subst hj
        rw [Nat.sub_self] at he
        have : d = e := by simpa using he
        subst this; rw [l]; exact h2
      · rw [List.getElem?_eq_none (by simp; omega)] at he; cases he
theorem ev_lc {wi : TI} {g : TG} {vs js : List Nat} {n : Nat} {f : Nat → D} (hi : Ei B wi ρ μ n f) (ρi : Nat → Ro) (hjs : ∀ k ∈ js, k ∈ vs) (hn : n ≤ 1000000) (c : Nat → Bool) (Pe : Nat → D → Prop)
    (hg : ∀ i, i < n → ∀ cl, Gd B g (wipeR ρ vs) (cl :: μ) (f i) (ρi i) js) (ht : ∀ i, i < n → ∀ cl, Eb B tt (ρi i) (cl :: μ) (c i)) (he : ∀ i, i < n → c i = true → ∀ cl, Ev B te (ρi i) (cl :: μ) (Pe i))
    (hP : ∀ ds, LcOk c Pe n ds → P (.lst ds)) : Ev B (tLc wi g tt te vs) ρ μ P := Ev.mk fun τ σ H a Q q => hi (sv ρ σ ++ τ) σ H a.save _ fun J H1 τ1 hsub a1 hJ Dl hD => by
  have hf := a.fits
  refine ⟨fun i m H => m = n - i ∧ i ≤ n ∧ ∃ ds, LcOk c Pe i ds ∧ At B ρ ((Dl, .lst ds) :: μ) τ1 σ H, ⟨n, by omega, Nat.zero_le _, [], rfl, (At.newCell (c := .lst []) (o := .lst []) a1 hD fun G _ => ⟨[], upd_same, rfl⟩).1⟩, fun i m H2 hW => ?_⟩
  obtain ⟨rfl, hin, ds, hds, a2⟩ := hW
  obtain ⟨s1, s2⟩ := hJ i ρ _ τ1 σ H2 (fun _ z => z) a2
  by_cases hlt : i < n
  · obtain ⟨s3, s4⟩ := s2 hlt
    refine .inr ⟨s3, fun H => ∃ ds, LcOk c Pe (i + 1) ds ∧ At B ρ ((Dl, .lst ds) :: μ) τ1 σ H, fun H' ⟨ds, h1, h2⟩ => ⟨n - (i + 1), by omega, rfl, hlt, ds, h1, h2⟩, fun x H3 hy => ?_⟩
    refine hg i hlt _ τ1 (wipe σ vs) H3 x (At.wiped (s4 x H3 hy) vs) _ fun σ' a3 hl3 hk3 => ⟨wipe_ext hjs hl3 hk3, ?_⟩
    refine ht i hlt _ τ1 σ' H3 a3 _ fun b H4 hb a4 => ?_
    subst hb
    cases hc : c i with
    | true =>
      refine (he i hlt hc _).go a4 fun y H5 dy hdy a5 => ?_
      obtain ⟨G, g5, vs5, e5, k5⟩ := a5.cell (j := 0) rfl
      refine ⟨vs5, e5, ?_, ds ++ [dy], ?_, ?_⟩
      · rw [k5.length]
        exact Nat.lt_of_le_of_lt (LcOk.len hds) (Nat.lt_of_lt_of_le hlt (Nat.le_trans hn (by decide)))
      · unfold LcOk
        rw [if_pos hc]
        exact ⟨ds, dy, rfl, hds, hdy⟩
      · have a6 : At B (ρi i) ((Dl, .lst (ds ++ [dy])) :: μ) ((y, dy) :: τ1) σ' (upd H5 Dl (.lst (vs5 ++ [y]))) := At.write (j := 0) (c' := .lst (ds ++ [dy])) a5 rfl fun G k1 ⟨vs6, e6, k6⟩ => by
          rw [e5] at e6
          cases e6
          exact ⟨_, upd_same, k6.append ⟨y, [], rfl, k1 _ (List.mem_cons_self ..), rfl⟩⟩
        exact At.restore hf a6.pop fun q hq => hsub q (List.mem_append_left _ hq)
    | false =>
      refine ⟨ds, ?_, At.restore hf a4 fun q hq => hsub q (List.mem_append_left _ hq)⟩
      unfold LcOk
      rw [hc, if_neg Bool.false_ne_true]
      exact hds
  · have e : i = n := by omega
    subst e
    refine .inl ⟨s1 (Nat.le_refl _), ?_⟩
    exact q _ H2 _ (hP ds hds) (a2.freeze.sub fun z hz => by
      rcases List.mem_cons.mp hz with e | e
      · rw [e]; exact List.mem_cons_self ..
      · exact List.mem_cons_of_mem _ (hsub z (List.mem_append_right _ e)))
theorem eb_yes : Eb B tYes ρ μ true := fun τ σ H a Q q => q true H rfl a
/-- no test, the target a name -/
theorem ev_lc0 {wi : TI} {k : Nat} {vs : List Nat} {n : Nat} {f : Nat → D} (hi : Ei B wi ρ μ n f) (hk : k ∈ vs) (hn : n ≤ 1000000) (Pe : Nat → D → Prop) (he : ∀ i, i < n → ∀ cl, Ev B te ((wipeR ρ vs).set k (some (f i))) (cl :: μ) (Pe i))
    (hP : ∀ ds : List D, ds.length = n → (∀ i d, ds[i]? = some d → Pe i d) → P (.lst ds)) : Ev B (tLc wi (gName k) tYes te vs) ρ μ P :=
  ev_lc hi (fun i => (wipeR ρ vs).set k (some (f i))) (js := [k]) (fun z hz => by rw [List.mem_singleton.mp hz]; exact hk) hn (fun _ => true) Pe (fun i _ cl => gd_name k) (fun _ _ _ => eb_yes) (fun i hi _ cl => he i hi cl) fun ds h => hP ds h.all.1 h.all.2
theorem ed_lc0 {wi : TI} {k : Nat} {vs : List Nat} {n : Nat} {f h : Nat → D} (hi : Ei B wi ρ μ n f) (hk : k ∈ vs) (hn : n ≤ 1000000) (he : ∀ i, i < n → ∀ cl, Ed B te ((wipeR ρ vs).set k (some (f i))) (cl :: μ) (h i)) : Ed B (tLc wi (gName k) tYes te vs) ρ μ (.lst ((List.range n).map h)) :=
  ev_lc hi (fun i => (wipeR ρ vs).set k (some (f i))) (js := [k]) (fun z hz => by rw [List.mem_singleton.mp hz]; exact hk) hn (fun _ => true) (fun i d => d = h i) (fun i _ cl => gd_name k) (fun _ _ _ => eb_yes) (fun i hi _ cl => he i hi cl) fun ds h => by
    rw [h.det, List.filter_eq_self.mpr fun _ _ => rfl]
theorem ed_lcT {wi : TI} {k : Nat} {vs : List Nat} {n : Nat} {f h : Nat → D} (c : Nat → Bool) (hi : Ei B wi ρ μ n f) (hk : k ∈ vs) (hn : n ≤ 1000000) (ht : ∀ i, i < n → ∀ cl, Eb B tt ((wipeR ρ vs).set k (some (f i))) (cl :: μ) (c i)) (he : ∀ i, i < n → c i = true → ∀ cl, Ed B te ((wipeR ρ vs).set k (some (f i))) (cl :: μ) (h i)) : Ed B (tLc wi (gName k) tt te vs) ρ μ (.lst (((List.range n).filter c).map h)) :=
  ev_lc hi (fun i => (wipeR ρ vs).set k (some (f i))) (js := [k]) (fun z hz => by rw [List.mem_singleton.mp hz]; exact hk) hn c (fun i d => d = h i) (fun i _ cl => gd_name k) ht he fun ds h => by rw [h.det]
theorem map_range_getD (h : D → D) (ds : List D) : (List.range ds.length).map (fun i => h (ds.getD i .non)) = ds.map h := by
  refine List.ext_getElem? fun i => ?_
  rw [List.getElem?_map, List.getElem?_map]
  by_cases hi : i < ds.length
  · rw [List.getElem?_range hi, getD_of hi]; rfl
  · rw [List.getElem?_eq_none (by simpa using hi), List.getElem?_eq_none (by simpa using hi)]; rfl
end
end Cal


namespace Cal
open PySem PySem.Spec PyProof.Rows L2
/-! ### operators of many kinds -/
section
variable {X : Cx}
def rAddU (K : PySem.W.Frag) : R2 := fun x y H Q => rI0 (fun i j => V.int (i + j)) x y H Q ∨ (∃ i j, x = V.str i ∧ y = V.str j ∧ i.length + j.length ≤ sizeLine ∧ Q (V.str (i ++ j)) H) ∨ rCatA K x y H Q ∨ rCat x y H Q
theorem u_add : OpR X (binaryOp .Add) (rAddU X.K) := OpR.or op_add (OpR.or op_add_str (OpR.or op_catA op_cat))
def rMulU : R2 := rI CMul fun i j => .int (i * j)
theorem u_mul : OpR X (binaryOp .Mult) rMulU := op_mul
def rLtU : R2 := fun x y H Q => rI0 (fun i j => .bl (decide (i < j))) x y H Q ∨ ∃ i j, x = .str i ∧ y = .str j ∧ Q (.bl (decide (i.cps.toList < j.cps.toList))) H
theorem u_lt : OpR X (compareOp .Lt) rLtU := OpR.or op_lt op_lt_str
def rLeU : R2 := fun x y H Q => rI0 (fun i j => .bl (decide (i ≤ j))) x y H Q ∨ ∃ i j, x = .str i ∧ y = .str j ∧ Q (.bl !decide (j.cps.toList < i.cps.toList)) H
theorem u_le : OpR X (compareOp .LtE) rLeU := OpR.or op_le op_le_str
def rGeU : R2 := fun x y H Q => rI0 (fun i j => .bl (decide (j ≤ i))) x y H Q ∨ ∃ i j, x = .str i ∧ y = .str j ∧ Q (.bl !decide (i.cps.toList < j.cps.toList)) H
theorem u_ge : OpR X (compareOp .GtE) rGeU := OpR.or op_ge op_ge_str
theorem u_eq (hu : X.A.units + 64 < cLine) : OpR X (compareOp .Eq) (rEqD X.K) := op_eqD hu
theorem u_ne (hu : X.A.units + 64 < cLine) : OpR X (compareOp .NotEq) (rNeD X.K) := op_neD hu
theorem u_neg : UnR X (unaryOp .USub) (rU fun i => .int (-i)) := un_neg
def rSlU (K : PySem.W.Frag) : V → Option Int → Option Int → Hp → VK → Prop := fun x lo hi H Q => rSlA K x lo hi H Q ∨ rSlL K x lo hi H Q ∨ rSlS x lo hi H Q
theorem u_sl : SlR X (rSlU X.K) := SlR.or sl_tupA (SlR.or sl_list sl_str)
def rLenU (K : PySem.W.Frag) : List V → Hp → VK → Prop := fun xs H Q => (∃ p ys, xs = [.ref p] ∧ (SqL K H p ys ∨ SqT K H p ys) ∧ Q (.int ys.length) H) ∨ ∃ z, xs = [.str z] ∧ z.length ≤ sizeLine ∧ Q (.int z.length) H
theorem u_len : CallR X (.builtin "len") (rLenU X.K) := CallR.or call_len_seq call_len_str
def rSortU2 (K : PySem.W.Frag) : List V → Hp → VK → Prop := fun xs H Q => rSorted K xs H Q ∨ rSortedS K xs H Q
theorem u_sorted : CallR X (.builtin "sorted") (rSortU2 X.K) := CallR.or cr_sorted cr_sortedS
end
/-! ### data as the library's -/
mutual
def py : D → PyData
  | .non => .none | .bl b => .bool b | .int i => .int i | .str s => .str s | .raw _ => .none
  | .lst ds => .list (pyA ds) | .tup ds => .tuple (pyA ds) | .dk _ => .dict [] | .dt _ => .none
def pyA : List D → List PyData
  | [] => [] | d :: ds => py d :: pyA ds
end
mutual
/-- no dict, no raw thing -/
def plain : D → Bool
  | .lst ds => plainA ds | .tup ds => plainA ds | .dk _ => false | .dt _ => false | .raw _ => false
  | .non => true | .bl _ => true | .int _ => true | .str s => PyData.strOk s
def plainA : List D → Bool
  | [] => true | d :: ds => plain d && plainA ds
end
mutual
theorem Dt.dp {K : PySem.W.Frag} {G H : Hp} (e : Same G H) : ∀ (d : D) {v : V}, plain d = true → Dt K G d v → Dp K H v (py d)
  | .non, _, _, h => by rw [show _ = V.non from h]; exact .non
  | .bl b, _, _, h => by rw [show _ = V.bl b from h]; exact .bl b
  | .int i, _, _, h => by rw [show _ = V.int i from h]; exact .int i
  | .str s, _, _, h => by rw [show _ = V.str s from h]; exact .str s
  | .raw u, _, p, _ => by simp [plain] at p
  | .lst ds, _, p, ⟨a, vs, r, s, t⟩ => by
    rw [r]; exact .lst (.inl (.inl (e _ _ s))) (DtA.dp e ds (by simpa [plain] using p) t)
  | .tup ds, _, p, ⟨a, vs, r, s, t⟩ => by
    rw [r]; exact .tup (.inl (.inl (e _ _ s))) (DtA.dp e ds (by simpa [plain] using p) t)
  | .dk ds, _, p, _ => by simp [plain] at p
  | .dt ds, _, p, _ => by simp [plain] at p
theorem DtA.dp {K : PySem.W.Frag} {G H : Hp} (e : Same G H) : ∀ (ds : List D) {vs : List V}, plainA ds = true → DtA K G ds vs → DpAll K H vs (pyA ds)
  | [], _, _, h => by rw [show _ = [] from h]; exact .nil
  | d :: ds, _, p, ⟨v, r, q, s, t⟩ => by
    have p' : plain d = true ∧ plainA ds = true := by simpa [plainA] using p
    rw [q]; exact .cons (Dt.dp e d p'.1 s) (DtA.dp e ds p'.2 t)
end
mutual
theorem canLay_py : ∀ d : D, plain d = true → (py d).canLay0 = true
  | .non, _ => by simp [py, PyData.canLay0]
  | .bl b, _ => by simp [py, PyData.canLay0]
  | .int i, _ => by simp [py, PyData.canLay0]
  | .str s, h => by simpa [py, PyData.canLay0, plain] using h
  | .raw u, p => by simp [plain] at p
  | .lst ds, p => by simpa [py, PyData.canLay0] using canLay_pyA ds (by simpa [plain] using p)
  | .tup ds, p => by simpa [py, PyData.canLay0] using canLay_pyA ds (by simpa [plain] using p)
  | .dk ds, p => by simp [plain] at p
  | .dt ds, p => by simp [plain] at p
theorem canLay_pyA : ∀ ds : List D, plainA ds = true → PyData.canLayAll0 (pyA ds) = true
  | [], _ => by simp [pyA, PyData.canLayAll0]
  | d :: ds, p => by
    have p' : plain d = true ∧ plainA ds = true := by simpa [plainA] using p
    simp [pyA, PyData.canLayAll0, canLay_py d p'.1, canLay_pyA ds p'.2]
end
mutual
def dep : D → Nat
  | .lst ds => depA ds + 1 | .tup ds => depA ds + 1 | .dk _ => 1 | _ => 0
def depA : List D → Nat
  | [] => 0 | d :: ds => max (dep d) (depA ds)
end
mutual
theorem depth_py : ∀ d : D, (py d).depth = dep d
  | .non => rfl
  | .bl b => rfl
  | .int i => rfl
  | .str s => rfl
  | .raw u => rfl
  | .lst ds => by simp only [py, PyData.depth, dep, depth_pyA ds]
  | .tup ds => by simp only [py, PyData.depth, dep, depth_pyA ds]
  | .dk ds => by simp [py, PyData.depth, dep, PyData.depthKv]
  | .dt ds => rfl
theorem depth_pyA : ∀ ds : List D, PyData.depthAll (pyA ds) = depA ds
  | [] => rfl
  | d :: ds => by simp only [pyA, PyData.depthAll, depA, depth_py d, depth_pyA ds]
end
theorem shaped_py {d : D} (h : plain d = true) (k : dep d ≤ 64) : SeqAt.shaped (py d) = true := by
  unfold SeqAt.shaped
  rw [canLay_py d h, depth_py d, decide_eq_true k]; rfl
def eqD (d e : D) : Bool := PyData.eqv (py d) (py e)
section
variable {B : Bs} {ρ ρ' : Ro} {μ μ' : Mu} {τ : List (V × D)} {σ σ2 : L2.St} {H : Hp} {ta tb tc te tx : TE} {tt tu : TT} {P P1 P2 P3 : D → Prop} {d d1 d2 d3 e : D} {r r' : R2} {R R1 : D → Mu → Prop} {i j : Int} {b : Bool} {v : V} {E : XK} {p : Addr} {ds es : List D}
theorem rd_eqD (h1 : plain d1 = true) (h2 : plain d2 = true) (k1 : dep d1 ≤ 64) (k2 : dep d2 ≤ 64) : RD B (rEqD B.K) ρ μ d1 d2 (fun e => e = .bl (eqD d1 d2)) := rd_flat (fun _ => rfl) fun G H x y s a b Q q =>
  ⟨py d1, py d2, a.dp s d1 h1, b.dp s d2 h2, shaped_py h1 k1, shaped_py h2 k2, q⟩
theorem rd_neD (h1 : plain d1 = true) (h2 : plain d2 = true) (k1 : dep d1 ≤ 64) (k2 : dep d2 ≤ 64) : RD B (rNeD B.K) ρ μ d1 d2 (fun e => e = .bl (!eqD d1 d2)) := rd_flat (fun _ => rfl) fun G H x y s a b Q q =>
  ⟨py d1, py d2, a.dp s d1 h1, b.dp s d2 h2, shaped_py h1 k1, shaped_py h2 k2, q⟩
theorem rd_lt_str {s t : Str} : RD B (fun x y H Q => ∃ i j, x = .str i ∧ y = .str j ∧ Q (.bl (decide (i.cps.toList < j.cps.toList))) H) ρ μ (.str s) (.str t) (fun e => e = .bl (decide (s.cps.toList < t.cps.toList))) := rd_flat (fun _ => rfl) fun G H x y _ a b Q q => ⟨s, t, a, b, q⟩
theorem rd_add_str {s t : Str} (h : s.length + t.length ≤ sizeLine) : RD B (fun x y H Q => ∃ i j, x = .str i ∧ y = .str j ∧ i.length + j.length ≤ sizeLine ∧ Q (.str (i ++ j)) H) ρ μ (.str s) (.str t) (fun e => e = .str (s ++ t)) := rd_flat (fun _ => rfl) fun G H x y _ a b Q q => ⟨s, t, a, b, h, q⟩
/-- tuples glued -/
theorem rd_catA (h : ds.length + es.length ≤ sizeLine) : RD B (rCatA B.K) ρ μ (.tup ds) (.tup es) (fun e => e = .tup (ds ++ es)) := fun τ σ H x y a Q q => by
  obtain ⟨G, g, ⟨p, vs, rfl, e1, k1⟩, ⟨p', us, rfl, e2, k2⟩⟩ := a.two
  refine ⟨p, p', vs, us, rfl, rfl, .inl (.inl (g.sub _ _ e1)), .inl (.inl (g.sub _ _ e2)), by rw [k1.length, k2.length]; exact h, fun z => ?_, fun z1 z2 => ?_, fun z1 z2 q' hq' => ?_⟩
  · have : ds = [] := List.eq_nil_of_length_eq_zero (by rw [← k1.length, z]; rfl)
    subst this
    exact q _ H _ rfl ⟨G, g.push ⟨p', us, rfl, e2, k2⟩⟩
  · have : es = [] := List.eq_nil_of_length_eq_zero (by rw [← k2.length, z2]; rfl)
    subst this
    exact q _ H _ rfl ⟨G, g.push ⟨p, vs, rfl, e1, by rw [List.append_nil]; exact k1⟩⟩
  · exact q _ _ _ rfl (g.newTup hq' (k1.append k2))
end
end Cal


namespace Cal
open PySem PySem.Spec PyProof.Rows L2
section
variable {B : Bs} {ρ ρ' : Ro} {μ μ' : Mu} {τ : List (V × D)} {σ σ2 : L2.St} {H : Hp} {ta tb tc te tx : TE} {tt tu : TT} {P P1 P2 P3 : D → Prop} {d d1 d2 d3 e : D} {r r' : R2} {R R1 : D → Mu → Prop} {i j : Int} {b : Bool} {v : V} {E : XK} {p : Addr} {ds es : List D}
theorem rd_addI : RD B (rAddU B.K) ρ μ (.int i) (.int j) (fun e => e = .int (i + j)) := RD.inl rd_add
theorem rd_addS {s t : Str} (h : s.length + t.length ≤ sizeLine) : RD B (rAddU B.K) ρ μ (.str s) (.str t) (fun e => e = .str (s ++ t)) := RD.inr (RD.inl (rd_add_str h))
theorem rd_addT (h : ds.length + es.length ≤ sizeLine) : RD B (rAddU B.K) ρ μ (.tup ds) (.tup es) (fun e => e = .tup (ds ++ es)) := RD.inr (RD.inr (RD.inl (rd_catA h)))
theorem rd_addL (h : ds.length + es.length ≤ sizeLine) : RD B (rAddU B.K) ρ μ (.lst ds) (.lst es) (fun e => e = .lst (ds ++ es)) := fun τ σ H x y a Q q => by
  obtain ⟨G, g, ⟨p, vs, rfl, e1, k1⟩, ⟨p', us, rfl, e2, k2⟩⟩ := a.two
  exact .inr (.inr (.inr ⟨p, p', vs, us, rfl, rfl, g.sub _ _ e1, g.sub _ _ e2, by rw [k1.length, k2.length]; exact h, fun q' hq' => q _ _ _ rfl (g.newLst hq' (k1.append k2))⟩))
theorem rd_mulI (h : CMul i j) : RD B rMulU ρ μ (.int i) (.int j) (fun e => e = .int (i * j)) := rd_mul h
theorem rd_ltI : RD B rLtU ρ μ (.int i) (.int j) (fun e => e = .bl (decide (i < j))) := RD.inl rd_lt
theorem rd_ltS {s t : Str} : RD B rLtU ρ μ (.str s) (.str t) (fun e => e = .bl (decide (s.cps.toList < t.cps.toList))) := RD.inr rd_lt_str
theorem rd_leI : RD B rLeU ρ μ (.int i) (.int j) (fun e => e = .bl (decide (i ≤ j))) := RD.inl rd_le
theorem rd_leS {s t : Str} : RD B rLeU ρ μ (.str s) (.str t) (fun e => e = .bl (!decide (t.cps.toList < s.cps.toList))) := RD.inr (rd_flat (fun _ => rfl) fun G H x y _ a b Q q => ⟨s, t, a, b, q⟩)
theorem rd_geI : RD B rGeU ρ μ (.int i) (.int j) (fun e => e = .bl (decide (j ≤ i))) := RD.inl rd_ge
theorem rd_geS {s t : Str} : RD B rGeU ρ μ (.str s) (.str t) (fun e => e = .bl (!decide (s.cps.toList < t.cps.toList))) := RD.inr (rd_flat (fun _ => rfl) fun G H x y _ a b Q q => ⟨s, t, a, b, q⟩)
theorem ru_neg : RU B (rU fun i => .int (-i)) ρ μ (.int i) (fun e => e = .int (-i)) := ru_flat (fun _ => rfl) fun G H x _ h Q q => ⟨i, h, q⟩
/-! len -/
theorem one_arg {K : PySem.W.Frag} {G : Hp} {d : D} {xs : List V} (h : DtA K G [d] xs) : ∃ v, xs = [v] ∧ Dt K G d v := by
  obtain ⟨v, r, rfl, h1, h2⟩ := h
  exact ⟨v, by rw [show r = [] from h2], h1⟩
theorem two_args {K : PySem.W.Frag} {G : Hp} {d1 d2 : D} {xs : List V} (h : DtA K G [d1, d2] xs) : ∃ v w, xs = [v, w] ∧ Dt K G d1 v ∧ Dt K G d2 w := by
  obtain ⟨v, r, rfl, h1, h2⟩ := h
  obtain ⟨w, rfl, h3⟩ := one_arg h2
  exact ⟨v, w, rfl, h1, h3⟩
theorem rc_lenT : RC B (rLenU B.K) ρ μ [.tup ds] (fun e => e = .int ds.length) := rc_flat (fun _ => rfl) fun G H xs s h Q q => by
  obtain ⟨v, rfl, p, vs, rfl, e, k⟩ := one_arg h
  rw [← k.length] at q
  exact .inl ⟨p, vs, rfl, .inr (.inl (.inl (s _ _ e))), q⟩
theorem rc_lenL : RC B (rLenU B.K) ρ μ [.lst ds] (fun e => e = .int ds.length) := rc_flat (fun _ => rfl) fun G H xs s h Q q => by
  obtain ⟨v, rfl, p, vs, rfl, e, k⟩ := one_arg h
  rw [← k.length] at q
  exact .inl ⟨p, vs, rfl, .inl (.inl (.inl (s _ _ e))), q⟩
theorem rc_lenS {s : Str} (hs : s.length ≤ sizeLine) : RC B (rLenU B.K) ρ μ [.str s] (fun e => e = .int s.length) := rc_flat (fun _ => rfl) fun G H xs _ h Q q => by
  obtain ⟨v, rfl, hv⟩ := one_arg h
  exact .inr ⟨s, by rw [show v = V.str s from hv], hs, q⟩
/-- of a cell -/
theorem rc_lenC {k : Nat} (hm : μ[k]? = some (p, .lst ds)) : RC B (rLenU B.K) ρ μ [.raw (.ref p)] (fun e => e = .int ds.length) := fun τ σ H xs hl a Q q => by
  obtain ⟨G, g, h⟩ := a.args hl
  obtain ⟨v, rfl, hv⟩ := one_arg h
  obtain ⟨vs, e, k⟩ := (g.cells _ (List.mem_of_getElem? hm)).2.2.2
  refine .inl ⟨p, vs, by rw [show v = V.ref p from hv], .inl (.inl (.inl e)), ?_⟩
  rw [k.length]
  exact q _ H _ rfl (At.flat ⟨G, g⟩ fun _ => rfl)
/-! isinstance -/
def tyD : D → String
  | .non => "NoneType" | .bl _ => "bool" | .int _ => "int" | .str _ => "str" | .lst _ => "list" | .tup _ => "tuple" | .dk _ => "dict" | .dt _ => "dict" | .raw _ => ""
theorem tyX_of {K : PySem.W.Frag} {G H : Hp} (s : Same G H) : ∀ {d : D} {v : V}, tyD d ≠ "" → Dt K G d v → TyX K H v (.type (tyD d))
  | .non, v, _, h => by rw [show v = .non from h]; exact .base .non
  | .bl b, v, _, h => by rw [show v = .bl b from h]; exact .base (.bl b)
  | .int i, v, _, h => by rw [show v = .int i from h]; exact .base (.int i)
  | .str t, v, _, h => by rw [show v = .str t from h]; exact .base (.str t)
  | .lst ds, v, _, ⟨a, vs, r, e, k⟩ => by rw [r]; exact .base (.lst (s _ _ e))
  | .tup ds, v, _, ⟨a, vs, r, e, k⟩ => by rw [r]; exact .base (.tup (s _ _ e))
  | .dk ds, v, _, ⟨a, vs, r, e, k⟩ => by rw [r]; exact .base (.dK (s _ _ e))
  | .dt ds, v, _, ⟨a, vs, r, e, k⟩ => by rw [r]; exact .base (.dT (s _ _ e))
  | .raw u, v, n, _ => absurd rfl n
theorem rc_isi {T : String} {b : Bool} (hn : tyD d ≠ "") (h : kitB (tyD d) T = some b) : RC B (rIsi B.K) ρ μ [d, .raw (.ty T)] (fun e => e = .bl b) := rc_flat (fun _ => rfl) fun G H xs s k Q q => by
  obtain ⟨v, w, rfl, h1, h2⟩ := two_args k
  exact ⟨v, w, _, _, b, rfl, by rw [show w = V.ty T from h2]; exact .ty T, tyX_of s hn h1, kit_ty h, q⟩
/-! all, any, int, min, max -/
theorem rc_all {bs : List Bool} : RC B (rAll B.K) ρ μ [.lst (bs.map D.bl)] (fun e => e = .bl (bs.all id)) := rc_flat (fun _ => rfl) fun G H xs s h Q q => by
  obtain ⟨v, rfl, p, vs, rfl, e, k⟩ := one_arg h
  exact ⟨p, bs, rfl, .inl (.inl (by rw [← k.bls]; exact s _ _ e)), q⟩
theorem rc_any {bs : List Bool} : RC B (rAny B.K) ρ μ [.lst (bs.map D.bl)] (fun e => e = .bl (bs.any id)) := rc_flat (fun _ => rfl) fun G H xs s h Q q => by
  obtain ⟨v, rfl, p, vs, rfl, e, k⟩ := one_arg h
  exact ⟨p, bs, rfl, .inl (.inl (by rw [← k.bls]; exact s _ _ e)), q⟩
theorem rc_intI : RC B (fun xs H Q => (∃ i, xs = [.int i] ∧ Q (.int i) H) ∨ ∃ k, xs = [.bl k] ∧ Q (.int (if k then 1 else 0)) H) ρ μ [.int i] (fun e => e = .int i) := rc_flat (fun _ => rfl) fun G H xs s h Q q => by
  obtain ⟨v, rfl, hv⟩ := one_arg h
  exact .inl ⟨i, by rw [show v = V.int i from hv], q⟩
theorem rc_max : RC B (fun xs H Q => ∃ i j, xs = [.int i, .int j] ∧ Q (.int (if j > i then j else i)) H) ρ μ [.int i, .int j] (fun e => e = .int (max i j)) := rc_flat (fun _ => rfl) fun G H xs s h Q q => by
  obtain ⟨v, w, rfl, hv, hw⟩ := two_args h
  refine ⟨i, j, by rw [show v = V.int i from hv, show w = V.int j from hw], ?_⟩
  have : (if j > i then j else i) = max i j := by split <;> omega
  rw [this]; exact q
theorem rc_min : RC B (fun xs H Q => ∃ i j, xs = [.int i, .int j] ∧ Q (.int (if j < i then j else i)) H) ρ μ [.int i, .int j] (fun e => e = .int (min i j)) := rc_flat (fun _ => rfl) fun G H xs s h Q q => by
  obtain ⟨v, w, rfl, hv, hw⟩ := two_args h
  refine ⟨i, j, by rw [show v = V.int i from hv, show w = V.int j from hw], ?_⟩
  have : (if j < i then j else i) = min i j := by split <;> omega
  rw [this]; exact q
/-! parts of a slice -/
def Eo (B : Bs) (to : TO) (ρ : Ro) (μ : Mu) (o : Option Int) : Prop := ∀ (τ : List (V × D)) (σ : L2.St) (H : Hp), At B ρ μ τ σ H → ∀ Q : Option Int → Hp → Prop, (∀ H', At B ρ μ τ σ H' → Q o H') → to σ H Q
theorem eo_none : Eo B tNoPart ρ μ none := fun τ σ H a Q q => q H a
theorem eo_some (h : Ed B te ρ μ (.int i)) : Eo B (tPart te) ρ μ (some i) := fun τ σ H a Q q => h.go a fun v H' d hd a' => by
  subst hd
  obtain ⟨G, g, hv⟩ := a'.top
  exact ⟨i, hv, q H' ⟨G, g⟩⟩
def cutD (ds : List D) (lo hi : Option Int) : List D := (ds.drop (HT.sIx ds.length 0 lo)).take (HT.sIx ds.length ds.length hi - HT.sIx ds.length 0 lo)
theorem DtA.cut {K : PySem.W.Frag} {G : Hp} {vs : List V} {lo hi : Option Int} (h : DtA K G ds vs) : DtA K G (cutD ds lo hi) (cutV vs lo hi) := by
  unfold cutD cutV
  rw [h.length]
  exact (h.drop _).take _
theorem ed_slT {tl th : TO} {lo hi : Option Int} (h : Ed B te ρ μ (.tup ds)) (hl : Eo B tl ρ μ lo) (hh : Eo B th ρ μ hi) : Ed B (tSl (rSlU B.K) te tl th) ρ μ (.tup (cutD ds lo hi)) := Ev.mk fun τ σ H a Q q => h.go a fun v H1 d hd a1 => hl _ σ H1 a1 _ fun H2 a2 => hh _ σ H2 a2 _ fun H3 a3 => by
  subst hd
  obtain ⟨G, g, p, vs, rfl, e, k⟩ := a3.top
  refine .inl ⟨p, vs, rfl, .inl (.inl (g.sub _ _ e)), fun z => ?_, fun z p' hp' => q _ _ _ rfl (g.newTup hp' k.cut)⟩
  have : cutD ds lo hi = ds := by
    unfold cutD
    rw [k.length] at z
    rw [z.1, z.2, List.drop_zero, Nat.sub_zero, List.take_length]
  rw [this] at q
  exact q _ H3 _ rfl ⟨G, g.push ⟨p, vs, rfl, e, k⟩⟩
theorem ed_slL {tl th : TO} {lo hi : Option Int} (h : Ed B te ρ μ (.lst ds)) (hl : Eo B tl ρ μ lo) (hh : Eo B th ρ μ hi) : Ed B (tSl (rSlU B.K) te tl th) ρ μ (.lst (cutD ds lo hi)) := Ev.mk fun τ σ H a Q q => h.go a fun v H1 d hd a1 => hl _ σ H1 a1 _ fun H2 a2 => hh _ σ H2 a2 _ fun H3 a3 => by
  subst hd
  obtain ⟨G, g, p, vs, rfl, e, k⟩ := a3.top
  exact .inr (.inl ⟨p, vs, rfl, .inl (.inl (g.sub _ _ e)), fun p' hp' => q _ _ _ rfl (g.newLst hp' k.cut)⟩)
theorem ed_slS {s : Str} {tl th : TO} {lo hi : Option Int} (h : Ed B te ρ μ (.str s)) (hl : Eo B tl ρ μ lo) (hh : Eo B th ρ μ hi) (hs : s.length ≤ sizeLine) : Ed B (tSl (rSlU B.K) te tl th) ρ μ (.str (cutS s lo hi)) := Ev.mk fun τ σ H a Q q => h.go a fun v H1 d hd a1 => hl _ σ H1 a1 _ fun H2 a2 => hh _ σ H2 a2 _ fun H3 a3 => by
  subst hd
  obtain ⟨G, g, hv⟩ := a3.top
  exact .inr (.inr ⟨s, hv, hs, q _ H3 _ rfl (At.flat ⟨G, g⟩ fun _ => rfl)⟩)
/-! an item -/
theorem DtA.at {K : PySem.W.Frag} {G : Hp} {vs : List V} (h : DtA K G ds vs) (k : atI ds i = some d) : ∃ v, atI vs i = some v ∧ Dt K G d v := by
  unfold atI at k ⊢
  rw [h.length]
  cases e : ixN ds.length i with
  | none => rw [e] at k; cases k
  | some n => rw [e] at k; exact h.get k
theorem rd_ixT (h : atI ds i = some d) : RD B (rIx B.K) ρ μ (.tup ds) (.int i) (fun e => e = d) := fun τ σ H x y a Q q => by
  obtain ⟨G, g, ⟨p, vs, rfl, e1, k1⟩, hy⟩ := a.two
  obtain ⟨v, h1, h2⟩ := k1.at h
  exact .inr (.inl ⟨p, vs, i, v, rfl, hy, .inl (.inl (g.sub _ _ e1)), h1, q v H d rfl ⟨G, g.push h2⟩⟩)
theorem rd_ixL (h : atI ds i = some d) : RD B (rIx B.K) ρ μ (.lst ds) (.int i) (fun e => e = d) := fun τ σ H x y a Q q => by
  obtain ⟨G, g, ⟨p, vs, rfl, e1, k1⟩, hy⟩ := a.two
  obtain ⟨v, h1, h2⟩ := k1.at h
  exact .inl ⟨p, vs, i, v, rfl, hy, .inl (.inl (g.sub _ _ e1)), h1, q v H d rfl ⟨G, g.push h2⟩⟩
theorem rd_ixC {k : Nat} (hm : μ[k]? = some (p, .lst ds)) (h : atI ds i = some d) : RD B (rIx B.K) ρ μ (.raw (.ref p)) (.int i) (fun e => e = d) := fun τ σ H x y a Q q => by
  obtain ⟨G, g, hx, hy⟩ := a.two
  obtain ⟨vs, e, k⟩ := (g.cells _ (List.mem_of_getElem? hm)).2.2.2
  obtain ⟨v, h1, h2⟩ := k.at h
  exact .inl ⟨p, vs, i, v, hx, hy, .inl (.inl e), h1, q v H d rfl ⟨G, g.push h2⟩⟩
/-- an item that some draw tells -/
theorem rd_ixLP (h : 0 ≤ i ∧ i < ds.length) (hP : ∀ d ∈ ds, P d) : RD B (rIx B.K) ρ μ (.lst ds) (.int i) P := fun τ σ H x y a Q q => by
  have hi : i.toNat < ds.length := by omega
  have e : atI ds i = some (ds.getD i.toNat .non) := by
    unfold atI ixN
    rw [if_pos h.1, if_pos h.2]
    exact getD_of hi
  refine rd_ixL e τ σ H x y a Q fun v H' d' hd a' => q v H' d' ?_ a'
  rw [hd]
  exact hP _ (List.mem_of_getElem? (getD_of hi))
/-! zip of two tuples, enumerate of a list -/
theorem ei_zipT {t : TA} (h : Ea B t ρ μ (fun l => l = [.tup ds, .tup es])) : Ei B (RZ.iZipA B.K t) ρ μ (min ds.length es.length) (fun i => .tup [ds.getD i .non, es.getD i .non]) := fun τ σ H a Rr q => h τ σ H a _ fun vs H1 l hl hlen a1 => by
  subst hl
  obtain ⟨G, g, k⟩ := id (a1.args hlen)
  obtain ⟨v, w, rfl, ⟨p, xs, rfl, e1, k1⟩, ⟨p', ys, rfl, e2, k2⟩⟩ := two_args k
  refine ⟨p, p', xs, ys, rfl, .inr ⟨.inl (.inl (g.sub _ _ e1)), .inl (.inl (g.sub _ _ e2)), ?_⟩⟩
  refine q _ H1 _ (fun z hz => List.mem_append_right _ hz) a1 fun i ρ' μ' τ' σ' H' hsub a2 => ?_
  obtain ⟨G2, g2⟩ := id a2
  obtain ⟨q1, xs', c1, e3, k3⟩ := g2.temps (V.ref p, .tup ds) (hsub _ (by simp))
  obtain ⟨q2, ys', c2, e4, k4⟩ := g2.temps (V.ref p', .tup es) (hsub _ (by simp))
  cases c1; cases c2
  have s1 : SqT B.K H' p xs' := .inl (.inl (g2.sub _ _ e3))
  have s2 : SqT B.K H' p' ys' := .inl (.inl (g2.sub _ _ e4))
  refine ⟨fun hi => ⟨xs', ys', s1, s2, by rw [k3.length, k4.length]; omega⟩, fun hi => ?_⟩
  obtain ⟨x, hx, dx⟩ := k3.get (getD_of (show i < ds.length by omega))
  obtain ⟨y, hy, dy⟩ := k4.get (getD_of (show i < es.length by omega))
  refine ⟨⟨xs', ys', x, y, s1, s2, hx, hy⟩, fun z H2 hz => ?_⟩
  obtain ⟨T, x1, y1, rfl, nT, rfl, f1, f2⟩ := hz
  have ex : x = x1 := Option.some.inj (hx.symm.trans (f1 _ s1))
  have ey : y = y1 := Option.some.inj (hy.symm.trans (f2 _ s2))
  subst ex; subst ey
  exact g2.newTup nT ⟨x, _, rfl, dx, y, _, rfl, dy, rfl⟩
theorem ei_enumL {t : TA} (h : Ea B t ρ μ (fun l => l = [.lst ds])) : Ei B (iEnum B.K t) ρ μ ds.length (fun i => .tup [.int i, ds.getD i .non]) := fun τ σ H a Rr q => h τ σ H a _ fun vs H1 l hl hlen a1 => by
  subst hl
  obtain ⟨G, g, k⟩ := id (a1.args hlen)
  obtain ⟨v, rfl, p, xs, rfl, e1, k1⟩ := one_arg k
  refine ⟨p, xs, rfl, .inl (.inl (g.sub _ _ e1)), ?_⟩
  refine q _ H1 _ (fun z hz => List.mem_append_right _ hz) a1 fun i ρ' μ' τ' σ' H' hsub a2 => ?_
  obtain ⟨G2, g2⟩ := id a2
  obtain ⟨q1, xs', c1, e3, k3⟩ := g2.temps (V.ref p, .lst ds) (hsub _ (by simp))
  cases c1
  have s1 : SqL B.K H' p xs' := .inl (.inl (g2.sub _ _ e3))
  refine ⟨fun hi => ⟨xs', s1, by rw [k3.length]; omega⟩, fun hi => ?_⟩
  obtain ⟨x, hx, dx⟩ := k3.get (getD_of hi)
  refine ⟨⟨xs', x, s1, hx⟩, fun z H2 hz => ?_⟩
  obtain ⟨T, x1, rfl, nT, rfl, f1⟩ := hz
  have ex : x = x1 := Option.some.inj (hx.symm.trans (f1 _ s1))
  subst ex
  exact g2.newTup nT ⟨_, _, rfl, rfl, x, _, rfl, dx, rfl⟩
end
end Cal


namespace Cal
open PySem PySem.Spec PyProof.Rows L2
/-! ### small data -/
mutual
def Sm : D → Prop
  | .non => True | .bl _ => True | .int i => i.natAbs < 2 ^ 200 | .str s => s.length ≤ 1000000 ∧ PyData.strOk s = true | .raw _ => False
  | .lst ds => ds.length ≤ 1000000 ∧ SmA ds | .tup ds => ds.length ≤ 1000000 ∧ SmA ds | .dk kvs => kvs = [] | .dt _ => False
def SmA : List D → Prop
  | [] => True | d :: ds => Sm d ∧ SmA ds
end
theorem SmA.all : ∀ {ds : List D}, SmA ds → ∀ d ∈ ds, Sm d
  | d :: ds, ⟨h, t⟩, e, he => by
    rcases List.mem_cons.mp he with r | r
    · rw [r]; exact h
    · exact SmA.all t e r
theorem SmA.of : ∀ {ds : List D}, (∀ d ∈ ds, Sm d) → SmA ds
  | [], _ => True.intro
  | d :: ds, h => ⟨h d (List.mem_cons_self ..), SmA.of fun e he => h e (List.mem_cons_of_mem _ he)⟩
theorem Sm.ty : ∀ {d : D}, Sm d → tyD d ≠ ""
  | .non, _ => by decide
  | .bl b, _ => by show "bool" ≠ ""; decide
  | .int i, _ => by show "int" ≠ ""; decide
  | .str s, _ => by show "str" ≠ ""; decide
  | .lst s, _ => by show "list" ≠ ""; decide
  | .tup s, _ => by show "tuple" ≠ ""; decide
  | .dk s, _ => by show "dict" ≠ ""; decide
  | .dt s, h => h.elim
  | .raw s, h => h.elim
def isI : D → Bool | .int _ => true | .bl _ => true | _ => false
def isBl : D → Bool | .bl _ => true | _ => false
def isS : D → Bool | .str _ => true | _ => false
def isT : D → Bool | .tup _ => true | _ => false
theorem isT_eq {d : D} (h : isT d = true) : ∃ ds, d = .tup ds := by cases d <;> first | exact ⟨_, rfl⟩ | cases h
theorem isS_eq {d : D} (h : isS d = true) : ∃ s, d = .str s := by cases d <;> first | exact ⟨_, rfl⟩ | cases h
theorem kit_int : ∀ {d : D}, tyD d ≠ "" → kitB (tyD d) "int" = some (isI d)
  | .non, _ => by decide +kernel
  | .bl b, _ => by show kitB "bool" "int" = some true; decide +kernel
  | .int i, _ => by show kitB "int" "int" = some true; decide +kernel
  | .str s, _ => by show kitB "str" "int" = some false; decide +kernel
  | .lst s, _ => by show kitB "list" "int" = some false; decide +kernel
  | .tup s, _ => by show kitB "tuple" "int" = some false; decide +kernel
  | .dk s, _ => by show kitB "dict" "int" = some false; decide +kernel
  | .dt s, _ => by show kitB "dict" "int" = some false; decide +kernel
  | .raw s, h => absurd rfl h
theorem kit_bool : ∀ {d : D}, tyD d ≠ "" → kitB (tyD d) "bool" = some (isBl d)
  | .non, _ => by decide +kernel
  | .bl b, _ => by show kitB "bool" "bool" = some true; decide +kernel
  | .int i, _ => by show kitB "int" "bool" = some false; decide +kernel
  | .str s, _ => by show kitB "str" "bool" = some false; decide +kernel
  | .lst s, _ => by show kitB "list" "bool" = some false; decide +kernel
  | .tup s, _ => by show kitB "tuple" "bool" = some false; decide +kernel
  | .dk s, _ => by show kitB "dict" "bool" = some false; decide +kernel
  | .dt s, _ => by show kitB "dict" "bool" = some false; decide +kernel
  | .raw s, h => absurd rfl h
theorem kit_str : ∀ {d : D}, tyD d ≠ "" → kitB (tyD d) "str" = some (isS d)
  | .non, _ => by decide +kernel
  | .bl b, _ => by show kitB "bool" "str" = some false; decide +kernel
  | .int i, _ => by show kitB "int" "str" = some false; decide +kernel
  | .str s, _ => by show kitB "str" "str" = some true; decide +kernel
  | .lst s, _ => by show kitB "list" "str" = some false; decide +kernel
  | .tup s, _ => by show kitB "tuple" "str" = some false; decide +kernel
  | .dk s, _ => by show kitB "dict" "str" = some false; decide +kernel
  | .dt s, _ => by show kitB "dict" "str" = some false; decide +kernel
  | .raw s, h => absurd rfl h
theorem kit_tuple : ∀ {d : D}, tyD d ≠ "" → kitB (tyD d) "tuple" = some (isT d)
  | .non, _ => by decide +kernel
  | .bl b, _ => by show kitB "bool" "tuple" = some false; decide +kernel
  | .int i, _ => by show kitB "int" "tuple" = some false; decide +kernel
  | .str s, _ => by show kitB "str" "tuple" = some false; decide +kernel
  | .lst s, _ => by show kitB "list" "tuple" = some false; decide +kernel
  | .tup s, _ => by show kitB "tuple" "tuple" = some true; decide +kernel
  | .dk s, _ => by show kitB "dict" "tuple" = some false; decide +kernel
  | .dt s, _ => by show kitB "dict" "tuple" = some false; decide +kernel
  | .raw s, h => absurd rfl h
section
variable {B : Bs} {ρ : Ro} {μ : Mu} {d d1 d2 d3 : D} {te ta tb tc : TE} {ds es : List D} {i j : Int} {P : D → Prop} {b : Bool}
theorem ed_isi {T : String} (he : Ed B te ρ μ d) (h : kitB (tyD d) T = some b) (hn : tyD d ≠ "") : Ed B (tCB (rIsi B.K) (tCons te (tCons (tC (.ty T)) tNil))) ρ μ (.bl b) := ed_cb (ead_cons he (ead_cons ed_raw ea_nil)) (rc_isi hn h)
theorem ed_isiI (he : Ed B te ρ μ d) (hn : tyD d ≠ "") : Ed B (tCB (rIsi B.K) (tCons te (tCons (tC (.ty "int")) tNil))) ρ μ (.bl (isI d)) := ed_isi he (kit_int hn) hn
theorem ed_isiB (he : Ed B te ρ μ d) (hn : tyD d ≠ "") : Ed B (tCB (rIsi B.K) (tCons te (tCons (tC (.ty "bool")) tNil))) ρ μ (.bl (isBl d)) := ed_isi he (kit_bool hn) hn
theorem ed_isiS (he : Ed B te ρ μ d) (hn : tyD d ≠ "") : Ed B (tCB (rIsi B.K) (tCons te (tCons (tC (.ty "str")) tNil))) ρ μ (.bl (isS d)) := ed_isi he (kit_str hn) hn
theorem ed_isiT (he : Ed B te ρ μ d) (hn : tyD d ≠ "") : Ed B (tCB (rIsi B.K) (tCons te (tCons (tC (.ty "tuple")) tNil))) ρ μ (.bl (isT d)) := ed_isi he (kit_tuple hn) hn
theorem ed_lenT (h : Ed B te ρ μ (.tup ds)) : Ed B (tCB (rLenU B.K) (tCons te tNil)) ρ μ (.int ds.length) := ed_cb (ead_cons h ea_nil) rc_lenT
theorem ed_lenL (h : Ed B te ρ μ (.lst ds)) : Ed B (tCB (rLenU B.K) (tCons te tNil)) ρ μ (.int ds.length) := ed_cb (ead_cons h ea_nil) rc_lenL
theorem ed_lenS {s : Str} (h : Ed B te ρ μ (.str s)) (hs : s.length ≤ sizeLine) : Ed B (tCB (rLenU B.K) (tCons te tNil)) ρ μ (.int s.length) := ed_cb (ead_cons h ea_nil) (rc_lenS hs)
theorem ed_all {bs : List Bool} {te : TE} (h : Ed B te ρ μ (.lst (bs.map D.bl))) : Ed B (tCB (rAll B.K) (tCons te tNil)) ρ μ (.bl (bs.all id)) := ed_cb (ead_cons h ea_nil) rc_all
theorem ed_allF {te : TE} {n : Nat} {f : Nat → Bool} (h : Ed B te ρ μ (.lst ((List.range n).map fun i => D.bl (f i)))) : Ed B (tCB (rAll B.K) (tCons te tNil)) ρ μ (.bl ((List.range n).all f)) := by
  have e : (List.range n).map (fun i => D.bl (f i)) = ((List.range n).map f).map D.bl := by rw [List.map_map]; rfl
  rw [e] at h
  have := ed_all h
  rw [List.all_map] at this
  exact this
/-- a pure def's call with one, two arguments -/
def psp (K : PySem.W.Frag) (pre : List D → Prop) (post : List D → D → Prop) : Sp := fsp K (fun _ => True) [] pre post
theorem ed_p {pre : List D → Prop} {post : List D → D → Prop} {t : TA} {E : XK} (h : Ea B t ρ μ (fun l => l = ds)) (hpre : pre ds) (hpost : ∀ e, post ds e → e = d) : Ed B (tCall (psp B.K pre post) [] E t) ρ μ d :=
  ev_callP h (fun l e => by rw [e]; exact hpre) fun l e he h => hpost e (by rw [← he]; exact h)
theorem ev_p {pre : List D → Prop} {post : List D → D → Prop} {t : TA} {E : XK} (h : Ea B t ρ μ (fun l => l = ds)) (hpre : pre ds) (hpost : ∀ e, post ds e → P e) : Ev B (tCall (psp B.K pre post) [] E t) ρ μ P :=
  ev_callP h (fun l e => by rw [e]; exact hpre) fun l e he h => hpost e (by rw [← he]; exact h)
theorem eqD_int : eqD (.int i) (.int j) = decide (i = j) := by
  show PyData.eqv (.int i) (.int j) = _
  simp only [PyData.eqv]
  exact Bool.beq_eq_decide_eq i j
theorem rd_eqI : RD B (rEqD B.K) ρ μ (.int i) (.int j) (fun e => e = .bl (decide (i = j))) := by
  have := rd_eqD (B := B) (ρ := ρ) (μ := μ) (d1 := .int i) (d2 := .int j) rfl rfl (Nat.zero_le _) (Nat.zero_le _)
  rw [eqD_int] at this
  exact this
theorem rd_neI : RD B (rNeD B.K) ρ μ (.int i) (.int j) (fun e => e = .bl (!decide (i = j))) := by
  have := rd_neD (B := B) (ρ := ρ) (μ := μ) (d1 := .int i) (d2 := .int j) rfl rfl (Nat.zero_le _) (Nat.zero_le _)
  rw [eqD_int] at this
  exact this
theorem ed_lc2 {wi : TI} {k l : Nat} {vs : List Nat} {n : Nat} {f x y h : Nat → D} (hi : Ei B wi ρ μ n f) (hf : ∀ i, i < n → f i = .tup [x i, y i]) (hk : k ∈ vs) (hl : l ∈ vs) (hn : n ≤ 1000000) (he : ∀ i, i < n → ∀ cl, Ed B te (((wipeR ρ vs).set k (some (x i))).set l (some (y i))) (cl :: μ) (h i)) :
    Ed B (tLc wi (gTup B.K 2 (gCons (gName k) (gCons (gName l) gNil))) tYes te vs) ρ μ (.lst ((List.range n).map h)) :=
  ev_lc hi (fun i => ((wipeR ρ vs).set k (some (x i))).set l (some (y i))) (js := [k, l]) (fun z hz => by
    rcases List.mem_cons.mp hz with e | e
    · rw [e]; exact hk
    · rw [List.mem_singleton.mp e]; exact hl) hn (fun _ => true) (fun i d => d = h i) (fun i hi cl => by rw [hf i hi]; exact gd_tup2) (fun _ _ _ => eb_yes) (fun i hi _ cl => he i hi cl) fun ds h => by
    rw [h.det, List.filter_eq_self.mpr fun _ _ => rfl]
theorem cutD1 (ds : List D) : cutD ds (some 1) none = ds.drop 1 := by
  unfold cutD
  rw [show HT.sIx ds.length 0 (some 1) = min 1 ds.length from HT.sIx_nat ds.length 0 1, HT.sIx_none]
  cases ds with
  | nil => rfl
  | cons x r =>
    rw [show min 1 (x :: r).length = 1 by rw [List.length_cons]; omega]
    show (List.take ((x :: r).length - 1) r) = r
    rw [List.length_cons, Nat.add_sub_cancel]
    exact List.take_length
theorem getD_drop1 (ds : List D) (i : Nat) : (ds.drop 1).getD i .non = ds.getD (i + 1) .non := by
  rw [List.getD_eq_getElem?_getD, List.getD_eq_getElem?_getD, List.getElem?_drop, Nat.add_comm]
theorem or_not {a b : Bool} (h : (!a || !b) = true) (ha : a = true) : b = false := by subst ha; cases b <;> first | rfl | cases h
theorem and_of {a b : Bool} (h : (!a || !b) = false) : a = true ∧ b = true := by cases a <;> cases b <;> first | exact ⟨rfl, rfl⟩ | cases h
/-- chains of comparisons -/
theorem ed_leleI (ha : Ed B ta ρ μ (.int i)) (hb : Ed B tb ρ μ (.int j)) {k : Int} (hc : Ed B tc ρ μ (.int k)) : Ed B (tChain rLeU rLeU ta tb tc) ρ μ (.bl (decide (i ≤ j) && decide (j ≤ k))) :=
  ed_chain ha hb (fun _ => hc) (fun G H x y s h1 h2 Q q => .inl ⟨i, j, h1, h2, q⟩) fun _ G H x y s h1 h2 Q q => .inl ⟨j, k, h1, h2, q⟩
theorem ed_leltI (ha : Ed B ta ρ μ (.int i)) (hb : Ed B tb ρ μ (.int j)) {k : Int} (hc : Ed B tc ρ μ (.int k)) : Ed B (tChain rLeU rLtU ta tb tc) ρ μ (.bl (decide (i ≤ j) && decide (j < k))) :=
  ed_chain ha hb (fun _ => hc) (fun G H x y s h1 h2 Q q => .inl ⟨i, j, h1, h2, q⟩) fun _ G H x y s h1 h2 Q q => .inl ⟨j, k, h1, h2, q⟩
theorem ed_leleS {s t u : Str} (ha : Ed B ta ρ μ (.str s)) (hb : Ed B tb ρ μ (.str t)) (hc : Ed B tc ρ μ (.str u)) : Ed B (tChain rLeU rLeU ta tb tc) ρ μ (.bl (!decide (t.cps.toList < s.cps.toList) && !decide (u.cps.toList < t.cps.toList))) :=
  ed_chain ha hb (fun _ => hc) (fun G H x y _ h1 h2 Q q => .inr ⟨s, t, h1, h2, q⟩) fun _ G H x y _ h1 h2 Q q => .inr ⟨t, u, h1, h2, q⟩
end
end Cal


namespace Cal
open PySem PySem.Spec PyProof.Rows L2
def topS (i : Nat) : Stmt := PySem.Challenge.pw_causeloops_k01_any_values_as_placements.main.body.getD i (.Pass ⟨0, 0, 0, 0⟩)
theorem locT {M : List Addr} : ∀ (H H' : Hp), True → (∀ b ∈ M, H' b = H b) → True := fun _ _ _ _ => True.intro
end Cal


namespace Cal
open PySem PySem.Spec PyProof.Rows L2
abbrev s_is_integer : Stmt := topS 2
abbrev n_is_integer : List Str := ["thing"]
theorem sc_is_integer : FnScope n_is_integer ["thing"] (defScope s_is_integer) := ⟨rfl, rfl, rfl, by decide +kernel, rfl, by decide +kernel, by decide +kernel⟩
abbrev s_is_below : Stmt := topS 3
abbrev n_is_below : List Str := ["thing", "limit"]
theorem sc_is_below : FnScope n_is_below ["thing", "limit"] (defScope s_is_below) := ⟨rfl, rfl, rfl, by decide +kernel, rfl, by decide +kernel, by decide +kernel⟩
abbrev s_is_name : Stmt := topS 4
abbrev n_is_name : List Str := ["thing", "letter"]
theorem sc_is_name : FnScope n_is_name ["thing"] (defScope s_is_name) := ⟨rfl, rfl, rfl, by decide +kernel, rfl, by decide +kernel, by decide +kernel⟩
abbrev s_is_tuple_of : Stmt := topS 5
abbrev n_is_tuple_of : List Str := ["thing", "length"]
theorem sc_is_tuple_of : FnScope n_is_tuple_of ["thing", "length"] (defScope s_is_tuple_of) := ⟨rfl, rfl, rfl, by decide +kernel, rfl, by decide +kernel, by decide +kernel⟩
abbrev s_is_ascending : Stmt := topS 6
abbrev n_is_ascending : List Str := ["items", "one", "other"]
theorem sc_is_ascending : FnScope n_is_ascending ["items"] (defScope s_is_ascending) := ⟨rfl, rfl, rfl, by decide +kernel, rfl, by decide +kernel, by decide +kernel⟩
abbrev s_are_names_ascending : Stmt := topS 7
abbrev n_are_names_ascending : List Str := ["thing", "item"]
theorem sc_are_names_ascending : FnScope n_are_names_ascending ["thing"] (defScope s_are_names_ascending) := ⟨rfl, rfl, rfl, by decide +kernel, rfl, by decide +kernel, by decide +kernel⟩
abbrev s_are_below : Stmt := topS 8
abbrev n_are_below : List Str := ["thing", "limit", "item"]
theorem sc_are_below : FnScope n_are_below ["thing", "limit"] (defScope s_are_below) := ⟨rfl, rfl, rfl, by decide +kernel, rfl, by decide +kernel, by decide +kernel⟩
abbrev s_are_below_ascending : Stmt := topS 9
abbrev n_are_below_ascending : List Str := ["thing", "limit"]
theorem sc_are_below_ascending : FnScope n_are_below_ascending ["thing", "limit"] (defScope s_are_below_ascending) := ⟨rfl, rfl, rfl, by decide +kernel, rfl, by decide +kernel, by decide +kernel⟩
abbrev s_is_placement : Stmt := topS 12
abbrev n_is_placement : List Str := ["thing", "sites", "clients", "kept"]
theorem sc_is_placement : FnScope n_is_placement ["thing"] (defScope s_is_placement) := ⟨rfl, rfl, rfl, by decide +kernel, rfl, by decide +kernel, by decide +kernel⟩
abbrev s_are_clients : Stmt := topS 13
abbrev n_are_clients : List Str := ["clients", "count", "visited"]
theorem sc_are_clients : FnScope n_are_clients ["clients", "count"] (defScope s_are_clients) := ⟨rfl, rfl, rfl, by decide +kernel, rfl, by decide +kernel, by decide +kernel⟩
/-! ### what the program's functions say -/
def isInt : D → Bool | .int _ => true | _ => false
theorem isInt_eq {d : D} (h : isInt d = true) : ∃ i, d = .int i := by cases d <;> first | exact ⟨_, rfl⟩ | cases h
theorem isInt_of (d : D) : (isI d && !isBl d) = isInt d := by cases d <;> rfl
def isBelow (n : Int) : D → Bool | .int i => decide (0 ≤ i) && decide (i < n) | _ => false
def isNameS (s : Str) : Bool := (decide (1 ≤ (s.length : Int)) && decide ((s.length : Int) ≤ 10)) && (List.range s.cps.size).all fun i => !decide ([s.cps.getD i 0] < [97]) && !decide ([122] < [s.cps.getD i 0])
def isName : D → Bool | .str s => isNameS s | _ => false
def isTup (n : Int) : D → Bool | .tup ds => decide ((ds.length : Int) = n) | _ => false
def ltD : D → D → Bool | .int i, .int j => decide (i < j) | .str s, .str t => decide (s.cps.toList < t.cps.toList) | _, _ => false
def ascD (ds : List D) : Bool := (List.range (ds.length - 1)).all fun i => ltD (ds.getD i .non) (ds.getD (i + 1) .non)
def namesAsc : D → Bool | .tup ds => ((List.range ds.length).all fun i => isName (ds.getD i .non)) && ascD ds | _ => false
def areBelow (n : Int) : D → Bool | .tup ds => (List.range ds.length).all fun i => isBelow n (ds.getD i .non) | _ => false
def belowAsc (n : Int) : D → Bool | .tup ds => areBelow n (.tup ds) && ascD ds | _ => false
def areClients (n : Int) (ds : List D) : Bool := (List.range ds.length).all fun i => belowAsc n (ds.getD i .non) && (match ds.getD i .non with | .tup vs => decide (2 ≤ (vs.length : Int)) | _ => false)
def isPl : D → Bool
  | .tup [.tup ss, .tup cs] => ((List.range ss.length).all fun i => namesAsc (ss.getD i .non)) && areClients ss.length cs
  | _ => false
section
variable {P : Program} {w : World} {K : PySem.W.Frag} {mg : Str → Option Value} {base : Heap} {f : Addr} {fd : FuncData}
abbrev BN1 : List Str := ["all", "bool", "int", "isinstance", "len", "str", "tuple", "zip"]
abbrev sp_is_integer (K : PySem.W.Frag) : Sp := psp K (fun ds => ∃ d, ds = [d] ∧ Sm d) (fun ds e => ∃ d, ds = [d] ∧ e = .bl (isInt d))
abbrev sp_is_below (K : PySem.W.Frag) : Sp := psp K (fun ds => ∃ d n, ds = [d, .int n] ∧ Sm d) (fun ds e => ∃ d n, ds = [d, .int n] ∧ e = .bl (isBelow n d))
abbrev sp_is_name (K : PySem.W.Frag) : Sp := psp K (fun ds => ∃ d, ds = [d] ∧ Sm d) (fun ds e => ∃ d, ds = [d] ∧ e = .bl (isName d))
abbrev sp_is_tuple_of (K : PySem.W.Frag) : Sp := psp K (fun ds => ∃ d n, ds = [d, .int n] ∧ Sm d) (fun ds e => ∃ d n, ds = [d, .int n] ∧ e = .bl (isTup n d))
variable (bi : ∀ x, x ∈ BN1 → mg x = none)
include bi in
theorem ok_is_integer (F : Fun K "is_integer" "is_integer" s_is_integer f fd) : FnOk P w K mg base CX0 1 f fd ["thing"] (sp_is_integer K) := by
  refine F.ok sc_is_integer (fun vs H Q E h => ?_) (fun cdv A outer s H vs Q E hr h => ?_)
  · obtain ⟨G, ds, h1, ⟨d, rfl, _⟩, _⟩ := h
    exact h1.length
  · have hu := hu_of hr
    obtain ⟨G, ds, ⟨d, rfl, hd⟩, hlen, a, hq⟩ := fsp_start locT n_is_integer h
    refine ⟨_, (pss_one (ps_ret (pe_and (pe_callB (id := "isinstance") (r := rIsi K) call_isi (by rfl) (bi "isinstance" (by decide +kernel)) (by decide +kernel) (pa_cons (pv 0) (pa_cons (pe_bltn (v := .ty "int") (u := .type "int") (by rfl) (bi "int" (by decide +kernel)) (by decide +kernel) rfl) pa_nil))) (pe_one (pe_not (pe_callB (id := "isinstance") (r := rIsi K) call_isi (by rfl) (bi "isinstance" (by decide +kernel)) (by decide +kernel) (pa_cons (pv 0) (pa_cons (pe_bltn (v := .ty "bool") (u := .type "bool") (by rfl) (bi "bool" (by decide +kernel)) (by decide +kernel) rfl) pa_nil)))))))), ?_⟩
    exact x_ret a (Ed.is (ed_andV (ed_isiI (ed_var rfl) hd.ty) fun _ => ed_notV (ed_isiB (ed_var rfl) hd.ty)) (by rw [isInt_of])) fun v H' d' hd' a' => hq ⟨d, rfl, hd'⟩ a'
include bi in
theorem ok_is_below (F : Fun K "is_below" "is_below" s_is_below f fd) (c_is_integer : C8.Cal P w K mg base 1 "is_integer" (sp_is_integer K) []) : FnOk P w K mg base CX0 2 f fd ["thing", "limit"] (sp_is_below K) := by
  refine F.ok sc_is_below (fun vs H Q E h => ?_) (fun cdv A outer s H vs Q E hr h => ?_)
  · obtain ⟨G, ds, h1, ⟨d, n, rfl, _⟩, _⟩ := h
    exact h1.length
  · have hu := hu_of hr
    obtain ⟨G, ds, ⟨d, n, rfl, hd⟩, hlen, a, hq⟩ := fsp_start locT n_is_below h
    refine ⟨_, (pss_one (ps_ret (pe_and (C8.pe_c c_is_integer hr (by first | decide | omega) (by rfl) (pa_cons (pv 0) pa_nil)) (pe_one (pe_chain u_le u_lt pe_int (pv 0) (pv 1)))))), ?_⟩
    refine x_ret a (Ed.is (d := .bl (isInt d && isBelow n d)) (ed_andV (ed_p (ead_cons (ed_var rfl) ea_nil) ⟨d, rfl, hd⟩ (by rintro e ⟨d', e1, rfl⟩; cases e1; rfl)) fun hb => ?_) ?_) fun v H' d' hd' a' => hq ⟨d, n, rfl, hd'⟩ a'
    · obtain ⟨i, rfl⟩ := isInt_eq hb
      exact ed_leltI ed_int (ed_var rfl) (ed_var rfl)
    · cases d <;> rfl
abbrev sp_is_ascending (K : PySem.W.Frag) : Sp := psp K (fun ds => ∃ es, ds = [.tup es] ∧ es.length ≤ 1000000 ∧ ((∀ e ∈ es, ∃ i, e = .int i) ∨ ∀ e ∈ es, ∃ s, e = .str s)) (fun ds e => ∃ es, ds = [.tup es] ∧ e = .bl (ascD es))
abbrev sp_are_names_ascending (K : PySem.W.Frag) : Sp := psp K (fun ds => ∃ d, ds = [d] ∧ Sm d) (fun ds e => ∃ d, ds = [d] ∧ e = .bl (namesAsc d))
abbrev sp_are_below (K : PySem.W.Frag) : Sp := psp K (fun ds => ∃ d n, ds = [d, .int n] ∧ Sm d) (fun ds e => ∃ d n, ds = [d, .int n] ∧ e = .bl (areBelow n d))
abbrev sp_are_below_ascending (K : PySem.W.Frag) : Sp := psp K (fun ds => ∃ d n, ds = [d, .int n] ∧ Sm d) (fun ds e => ∃ d n, ds = [d, .int n] ∧ e = .bl (belowAsc n d))
abbrev sp_are_clients (K : PySem.W.Frag) : Sp := psp K (fun ds => ∃ es n, ds = [.tup es, .int n] ∧ es.length ≤ 1000000 ∧ SmA es) (fun ds e => ∃ es n, ds = [.tup es, .int n] ∧ e = .bl (areClients n es))
abbrev sp_is_placement (K : PySem.W.Frag) : Sp := psp K (fun ds => ∃ d, ds = [d] ∧ Sm d) (fun ds e => ∃ d, ds = [d] ∧ e = .bl (isPl d))
theorem sz1000 {n : Nat} (h : n ≤ 1000000) : n ≤ sizeLine := Nat.le_trans h (by decide)
theorem str1 (c : Nat) : (⟨#[c]⟩ : Str).cps.toList = [c] := rfl
variable (g_LONGEST_NAME : ∃ u, mg "LONGEST_NAME" = some u ∧ RelV (.int 10) u) (g_FEWEST_VISITED : ∃ u, mg "FEWEST_VISITED" = some u ∧ RelV (.int 2) u)
include bi g_LONGEST_NAME in
theorem ok_is_name (F : Fun K "is_name" "is_name" s_is_name f fd) : FnOk P w K mg base CX0 1 f fd ["thing"] (sp_is_name K) := by
  refine F.ok sc_is_name (fun vs H Q E h => ?_) (fun cdv A outer s H vs Q E hr h => ?_)
  · obtain ⟨G, ds, h1, ⟨d, rfl, _⟩, _⟩ := h
    exact h1.length
  · have hu := hu_of hr
    obtain ⟨G, ds, ⟨d, rfl, hd⟩, hlen, a, hq⟩ := fsp_start locT n_is_name h
    refine ⟨_, (pss_cons (ps_if (PW.pt (pw_or (pt_not (pt_val (pe_callB (id := "isinstance") (r := rIsi K) call_isi (by rfl) (bi "isinstance" (by decide +kernel)) (by decide +kernel) (pa_cons (pv 0) (pa_cons (pe_bltn (v := .ty "str") (u := .type "str") (by rfl) (bi "str" (by decide +kernel)) (by decide +kernel) rfl) pa_nil))))) (pw_or1 (pt_not (pt_chain u_le u_le pe_int (pe_callB (id := "len") (r := rLenU K) u_len (by rfl) (bi "len" (by decide +kernel)) (by decide +kernel) (pa_cons (pv 0) pa_nil)) (C8.pe_gc (by rfl) g_LONGEST_NAME)))))) (pss_one (ps_ret pe_bl)) pss_nil)
      (pss_one (ps_ret (pe_callB (id := "all") (r := rAll K) (cr_all rfl) (by rfl) (bi "all" (by decide +kernel)) (by decide +kernel) (pa_cons (pe_lc (own := [("letter", 1)]) (g := gName 1) (tt := tYes) rfl sc_is_name.nd (pi_str (pv 0)) (blkOk_by (N := n_is_name) (sc := defScope s_is_name) (by decide +kernel)) (fun _ _ _ _ _ => (pg_name (i := 1) sc_is_name.nd rfl (by first | exact (.inl rfl) | exact (.inr rfl)))) (fun _ _ _ _ _ => pts_nil) (fun _ _ _ _ _ => (pe_chain u_le u_le pe_str (pv 1) pe_str))) pa_nil))))), ?_⟩
    by_cases hs : isS d = true
    · obtain ⟨s, rfl⟩ := isS_eq hs
      have hz := sz1000 hd.1
      refine x_seq (x_ifb a (eb_or (b := !(decide (1 ≤ (s.length : Int)) && decide ((s.length : Int) ≤ 10))) (eb_not (eb_B (ed_isiS (ed_var rfl) hd.ty))) fun _ => eb_not (eb_test (ed_leleI ed_int (ed_lenS (ed_var rfl) hz) ed_int))) (fun hb H' a' => ?_) fun hb H' a' => x_next ?_)
      · refine x_ret a' ed_bl fun v H2 d' hd' a2 => hq ⟨_, rfl, ?_⟩ a2
        rw [hd']
        have hb' := or_not hb rfl
        show D.bl false = .bl (isNameS s)
        unfold isNameS
        rw [hb']; rfl
      · refine x_ret a' (ed_allF (ed_lc0 (ei_str (ed_var rfl)) (by decide) (Nat.le_trans (show s.cps.size ≤ 1000000 from hd.1) (by decide)) fun i hi cl => ed_leleS ed_str (ed_var rfl) ed_str)) fun v H2 d' hd' a2 => hq ⟨_, rfl, ?_⟩ a2
        rw [hd']
        have hb' := (and_of hb).2
        show _ = D.bl (isNameS s)
        unfold isNameS
        rw [hb']; rfl
    · refine x_seq (x_ifb a (eb_or (b := true) (eb_not (eb_B (ed_isiS (ed_var rfl) hd.ty))) fun hb => absurd (by simpa using hb) hs) (fun hb H' a' => ?_) fun hb H' a' => ?_)
      · refine x_ret a' ed_bl fun v H2 d' hd' a2 => hq ⟨_, rfl, ?_⟩ a2
        rw [hd']
        cases d <;> first | rfl | exact absurd rfl hs
      · simp at hb
include bi in
theorem ok_is_tuple_of (F : Fun K "is_tuple_of" "is_tuple_of" s_is_tuple_of f fd) : FnOk P w K mg base CX0 1 f fd ["thing", "length"] (sp_is_tuple_of K) := by
  refine F.ok sc_is_tuple_of (fun vs H Q E h => ?_) (fun cdv A outer s H vs Q E hr h => ?_)
  · obtain ⟨G, ds, h1, ⟨d, n, rfl, _⟩, _⟩ := h
    exact h1.length
  · have hu := hu_of hr
    obtain ⟨G, ds, ⟨d, n, rfl, hd⟩, hlen, a, hq⟩ := fsp_start locT n_is_tuple_of h
    refine ⟨_, (pss_one (ps_ret (pe_and (pe_callB (id := "isinstance") (r := rIsi K) call_isi (by rfl) (bi "isinstance" (by decide +kernel)) (by decide +kernel) (pa_cons (pv 0) (pa_cons (pe_bltn (v := .ty "tuple") (u := .type "tuple") (by rfl) (bi "tuple" (by decide +kernel)) (by decide +kernel) rfl) pa_nil))) (pe_one (pe_cmpR (r := rEqD K) (u_eq hr.units) (pe_callB (id := "len") (r := rLenU K) u_len (by rfl) (bi "len" (by decide +kernel)) (by decide +kernel) (pa_cons (pv 0) pa_nil)) (pv 1) (nomark _)))))), ?_⟩
    refine x_ret a (Ed.is (d := .bl (isT d && isTup n d)) (ed_andV (ed_isiT (ed_var rfl) hd.ty) fun hb => ?_) ?_) fun v H' d' hd' a' => hq ⟨d, n, rfl, hd'⟩ a'
    · obtain ⟨es, rfl⟩ := isT_eq hb
      exact Ed.is (ed_op (ed_lenT (ed_var rfl)) (ed_var rfl) (rd_eqI)) rfl
    · cases d <;> rfl
include bi in
theorem ok_is_ascending (F : Fun K "is_ascending" "is_ascending" s_is_ascending f fd) : FnOk P w K mg base CX0 1 f fd ["items"] (sp_is_ascending K) := by
  refine F.ok sc_is_ascending (fun vs H Q E h => ?_) (fun cdv A outer s H vs Q E hr h => ?_)
  · obtain ⟨G, ds, h1, ⟨d, rfl, _⟩, _⟩ := h
    exact h1.length
  · have hu := hu_of hr
    obtain ⟨G, ds, ⟨es, rfl, hl, hk⟩, hlen, a, hq⟩ := fsp_start locT n_is_ascending h
    refine ⟨_, (pss_one (ps_ret (pe_callB (id := "all") (r := rAll K) (cr_all rfl) (by rfl) (bi "all" (by decide +kernel)) (by decide +kernel) (pa_cons (pe_lc (own := [("one", 1), ("other", 2)]) (g := gTup K 2 (gCons (gName 1) (gCons (gName 2) gNil))) (tt := tYes) rfl sc_is_ascending.nd (RZ.pi_zipA (by rfl) (bi "zip" (by decide +kernel)) (pa_cons (pv 0) (pa_cons (pe_slice (r := rSlU K) u_sl (pv 0) (po_some pe_int) po_none) pa_nil))) (blkOk_by (N := n_is_ascending) (sc := defScope s_is_ascending) (by decide +kernel)) (fun _ _ _ _ _ => (pg_tup rfl (pgs_cons (pg_name (i := 1) sc_is_ascending.nd rfl (by first | exact (.inl rfl) | exact (.inr rfl))) (pgs_cons (pg_name (i := 2) sc_is_ascending.nd rfl (by first | exact (.inl rfl) | exact (.inr rfl))) pgs_nil)))) (fun _ _ _ _ _ => pts_nil) (fun _ _ _ _ _ => (pe_cmpR u_lt (pv 1) (pv 2) (nomark _)))) pa_nil)))), ?_⟩
    refine x_ret a (ed_allF (ed_lc2 (n := es.length - 1) (f := fun i => .tup [es.getD i .non, (es.drop 1).getD i .non]) (x := fun i => es.getD i .non) (y := fun i => es.getD (i + 1) .non) ?_ (fun i hi => ?_) (by decide) (by decide) (by omega) fun i hi cl => ?_)) fun v H' d' hd' a' => hq ⟨es, rfl, hd'⟩ a'
    · rw [show es.length - 1 = min es.length (es.drop 1).length by rw [List.length_drop]; omega]
      exact ei_zipT (ead_cons (ed_var rfl) (ead_cons (Ed.is (ed_slT (ed_var rfl) (eo_some ed_int) eo_none) (by rw [cutD1])) ea_nil))
    · show D.tup [_, _] = _
      rw [getD_drop1]
    · have m1 : es.getD i .non ∈ es := List.mem_of_getElem? (getD_of (by omega))
      have m2 : es.getD (i + 1) .non ∈ es := List.mem_of_getElem? (getD_of (by omega))
      rcases hk with hk | hk
      · obtain ⟨x, hx⟩ := hk _ m1
        obtain ⟨y, hy⟩ := hk _ m2
        rw [hx, hy]
        exact ed_op (ed_var rfl) (ed_var rfl) rd_ltI
      · obtain ⟨x, hx⟩ := hk _ m1
        obtain ⟨y, hy⟩ := hk _ m2
        rw [hx, hy]
        exact ed_op (ed_var rfl) (ed_var rfl) rd_ltS
theorem isName_eq {d : D} (h : isName d = true) : ∃ s, d = .str s := by cases d <;> first | exact ⟨_, rfl⟩ | cases h
theorem all_range {n : Nat} {f : Nat → Bool} (h : (List.range n).all f = true) : ∀ i, i < n → f i = true := fun i hi => List.all_eq_true.mp h i (List.mem_range.mpr hi)
theorem getD_all {es : List D} {p : D → Bool} (h : ((List.range es.length).all fun i => p (es.getD i .non)) = true) : ∀ e ∈ es, p e = true := fun e he => by
  obtain ⟨i, hi⟩ := List.mem_iff_getElem?.mp he
  have hl := (List.getElem?_eq_some_iff.mp hi).1
  have := all_range h i hl
  rw [getD_of hl] at hi
  cases hi
  exact this
include bi in
theorem ok_are_names_ascending (F : Fun K "are_names_ascending" "are_names_ascending" s_are_names_ascending f fd) (c_is_name : C8.Cal P w K mg base 1 "is_name" (sp_is_name K) []) (c_is_ascending : C8.Cal P w K mg base 1 "is_ascending" (sp_is_ascending K) []) :
    FnOk P w K mg base CX0 2 f fd ["thing"] (sp_are_names_ascending K) := by
  refine F.ok sc_are_names_ascending (fun vs H Q E h => ?_) (fun cdv A outer s H vs Q E hr h => ?_)
  · obtain ⟨G, ds, h1, ⟨d, rfl, _⟩, _⟩ := h
    exact h1.length
  · have hu := hu_of hr
    obtain ⟨G, ds, ⟨d, rfl, hd⟩, hlen, a, hq⟩ := fsp_start locT n_are_names_ascending h
    refine ⟨_, (pss_one (ps_ret (pe_and (pe_callB (id := "isinstance") (r := rIsi K) call_isi (by rfl) (bi "isinstance" (by decide +kernel)) (by decide +kernel) (pa_cons (pv 0) (pa_cons (pe_bltn (v := .ty "tuple") (u := .type "tuple") (by rfl) (bi "tuple" (by decide +kernel)) (by decide +kernel) rfl) pa_nil))) (pe_and (pe_callB (id := "all") (r := rAll K) (cr_all rfl) (by rfl) (bi "all" (by decide +kernel)) (by decide +kernel) (pa_cons (pe_lc (own := [("item", 1)]) (g := gName 1) (tt := tYes) rfl sc_are_names_ascending.nd (pi_tup (pv 0)) (blkOk_by (N := n_are_names_ascending) (sc := defScope s_are_names_ascending) (by decide +kernel)) (fun _ _ _ _ _ => (pg_name (i := 1) sc_are_names_ascending.nd rfl (by first | exact (.inl rfl) | exact (.inr rfl)))) (fun _ _ _ _ _ => pts_nil) (fun _ _ _ _ _ => (C8.pe_c c_is_name hr (by first | decide | omega) (by rfl) (pa_cons (pv 1) pa_nil)))) pa_nil)) (pe_one (C8.pe_c c_is_ascending hr (by first | decide | omega) (by rfl) (pa_cons (pv 0) pa_nil))))))), ?_⟩
    by_cases ht : isT d = true
    · obtain ⟨es, rfl⟩ := isT_eq ht
      refine x_ret a (ed_andV (b := namesAsc (.tup es)) (ed_isiT (ed_var rfl) hd.ty) fun _ => ed_andV (ed_allF (f := fun i => isName (es.getD i .non)) (ed_lc0 (ei_tup (ed_var rfl)) (by decide) (Nat.le_trans hd.1 (by decide)) fun i hi cl => ed_p (ead_cons (ed_var rfl) ea_nil) ⟨_, rfl, hd.2.all _ (List.mem_of_getElem? (getD_of hi))⟩ (by rintro e ⟨d', e1, rfl⟩; cases e1; rfl))) fun hn => ?_) fun v H' d' hd' a' => hq ⟨_, rfl, hd'⟩ a'
      refine ed_p (ead_cons (ed_var rfl) ea_nil) ⟨es, rfl, hd.1, .inr fun e he => isName_eq (getD_all hn e he)⟩ (by rintro e ⟨d', e1, rfl⟩; cases e1; rfl)
    · refine x_ret a (Ed.is (ed_andV (b := true) (ed_isiT (ed_var rfl) hd.ty) fun hb => absurd hb ht) ?_) fun v H' d' hd' a' => hq ⟨_, rfl, hd'⟩ a'
      cases d <;> first | rfl | exact absurd rfl ht
include bi in
theorem ok_are_below (F : Fun K "are_below" "are_below" s_are_below f fd) (c_is_below : C8.Cal P w K mg base 2 "is_below" (sp_is_below K) []) :
    FnOk P w K mg base CX0 3 f fd ["thing", "limit"] (sp_are_below K) := by
  refine F.ok sc_are_below (fun vs H Q E h => ?_) (fun cdv A outer s H vs Q E hr h => ?_)
  · obtain ⟨G, ds, h1, ⟨d, n, rfl, _⟩, _⟩ := h
    exact h1.length
  · have hu := hu_of hr
    obtain ⟨G, ds, ⟨d, n, rfl, hd⟩, hlen, a, hq⟩ := fsp_start locT n_are_below h
    refine ⟨_, (pss_one (ps_ret (pe_and (pe_callB (id := "isinstance") (r := rIsi K) call_isi (by rfl) (bi "isinstance" (by decide +kernel)) (by decide +kernel) (pa_cons (pv 0) (pa_cons (pe_bltn (v := .ty "tuple") (u := .type "tuple") (by rfl) (bi "tuple" (by decide +kernel)) (by decide +kernel) rfl) pa_nil))) (pe_one (pe_callB (id := "all") (r := rAll K) (cr_all rfl) (by rfl) (bi "all" (by decide +kernel)) (by decide +kernel) (pa_cons (pe_lc (own := [("item", 2)]) (g := gName 2) (tt := tYes) rfl sc_are_below.nd (pi_tup (pv 0)) (blkOk_by (N := n_are_below) (sc := defScope s_are_below) (by decide +kernel)) (fun _ _ _ _ _ => (pg_name (i := 2) sc_are_below.nd rfl (by first | exact (.inl rfl) | exact (.inr rfl)))) (fun _ _ _ _ _ => pts_nil) (fun _ _ _ _ _ => (C8.pe_c c_is_below hr (by first | decide | omega) (by rfl) (pa_cons (pv 2) (pa_cons (pv 1) pa_nil))))) pa_nil)))))), ?_⟩
    by_cases ht : isT d = true
    · obtain ⟨es, rfl⟩ := isT_eq ht
      exact x_ret a (ed_andV (b := areBelow n (.tup es)) (ed_isiT (ed_var rfl) hd.ty) fun _ => (ed_allF (f := fun i => isBelow n (es.getD i .non)) (ed_lc0 (ei_tup (ed_var rfl)) (by decide) (Nat.le_trans hd.1 (by decide)) fun i hi cl => ed_p (ead_cons (ed_var rfl) (ead_cons (ed_var rfl) ea_nil)) ⟨_, _, rfl, hd.2.all _ (List.mem_of_getElem? (getD_of hi))⟩ (by rintro e ⟨d', n', e1, rfl⟩; cases e1; rfl)))) fun v H' d' hd' a' => hq ⟨_, _, rfl, hd'⟩ a'
    · refine x_ret a (Ed.is (ed_andV (b := true) (ed_isiT (ed_var rfl) hd.ty) fun hb => absurd hb ht) ?_) fun v H' d' hd' a' => hq ⟨_, _, rfl, hd'⟩ a'
      cases d <;> first | rfl | exact absurd rfl ht
theorem isBelow_eq {n : Int} {d : D} (h : isBelow n d = true) : ∃ i, d = .int i := by cases d <;> first | exact ⟨_, rfl⟩ | cases h
theorem ok_are_below_ascending (F : Fun K "are_below_ascending" "are_below_ascending" s_are_below_ascending f fd) (c_are_below : C8.Cal P w K mg base 3 "are_below" (sp_are_below K) []) (c_is_ascending : C8.Cal P w K mg base 1 "is_ascending" (sp_is_ascending K) []) :
    FnOk P w K mg base CX0 4 f fd ["thing", "limit"] (sp_are_below_ascending K) := by
  refine F.ok sc_are_below_ascending (fun vs H Q E h => ?_) (fun cdv A outer s H vs Q E hr h => ?_)
  · obtain ⟨G, ds, h1, ⟨d, n, rfl, _⟩, _⟩ := h
    exact h1.length
  · have hu := hu_of hr
    obtain ⟨G, ds, ⟨d, n, rfl, hd⟩, hlen, a, hq⟩ := fsp_start locT n_are_below_ascending h
    refine ⟨_, (pss_one (ps_ret (pe_and (C8.pe_c c_are_below hr (by first | decide | omega) (by rfl) (pa_cons (pv 0) (pa_cons (pv 1) pa_nil))) (pe_one (C8.pe_c c_is_ascending hr (by first | decide | omega) (by rfl) (pa_cons (pv 0) pa_nil)))))), ?_⟩
    by_cases ht : isT d = true
    · obtain ⟨es, rfl⟩ := isT_eq ht
      refine x_ret a (ed_andV (b := ascD es) (ed_p (ead_cons (ed_var rfl) (ead_cons (ed_var rfl) ea_nil)) ⟨_, _, rfl, hd⟩ (by rintro e ⟨d', n', e1, rfl⟩; cases e1; rfl)) fun hb => ?_) fun v H' d' hd' a' => hq ⟨_, _, rfl, hd'⟩ a'
      exact ed_p (ead_cons (ed_var rfl) ea_nil) ⟨es, rfl, hd.1, .inl fun e he => isBelow_eq (getD_all hb e he)⟩ (by rintro e ⟨d', e1, rfl⟩; cases e1; rfl)
    · refine x_ret a (Ed.is (ed_andV (a := areBelow n d) (b := true) (ed_p (ead_cons (ed_var rfl) (ead_cons (ed_var rfl) ea_nil)) ⟨_, _, rfl, hd⟩ (by rintro e ⟨d', n', e1, rfl⟩; cases e1; rfl)) fun hb => absurd hb ?_) ?_) fun v H' d' hd' a' => hq ⟨_, _, rfl, hd'⟩ a'
      · cases d <;> first | exact absurd rfl ht | exact Bool.false_ne_true
      · cases d <;> first | rfl | exact absurd rfl ht
include bi g_FEWEST_VISITED in
theorem ok_are_clients (F : Fun K "are_clients" "are_clients" s_are_clients f fd) (c_are_below_ascending : C8.Cal P w K mg base 4 "are_below_ascending" (sp_are_below_ascending K) []) :
    FnOk P w K mg base CX0 5 f fd ["clients", "count"] (sp_are_clients K) := by
  refine F.ok sc_are_clients (fun vs H Q E h => ?_) (fun cdv A outer s H vs Q E hr h => ?_)
  · obtain ⟨G, ds, h1, ⟨d, n, rfl, _⟩, _⟩ := h
    exact h1.length
  · have hu := hu_of hr
    obtain ⟨G, ds, ⟨es, n, rfl, hl, hd⟩, hlen, a, hq⟩ := fsp_start locT n_are_clients h
    refine ⟨_, (pss_one (ps_ret (pe_callB (id := "all") (r := rAll K) (cr_all rfl) (by rfl) (bi "all" (by decide +kernel)) (by decide +kernel) (pa_cons (pe_lc (own := [("visited", 2)]) (g := gName 2) (tt := tYes) rfl sc_are_clients.nd (pi_tup (pv 0)) (blkOk_by (N := n_are_clients) (sc := defScope s_are_clients) (by decide +kernel)) (fun _ _ _ _ _ => (pg_name (i := 2) sc_are_clients.nd rfl (by first | exact (.inl rfl) | exact (.inr rfl)))) (fun _ _ _ _ _ => pts_nil) (fun _ _ _ _ _ => (pe_and (C8.pe_c c_are_below_ascending hr (by first | decide | omega) (by rfl) (pa_cons (pv 2) (pa_cons (pv 1) pa_nil))) (pe_one (pe_cmpR u_ge (pe_callB (id := "len") (r := rLenU K) u_len (by rfl) (bi "len" (by decide +kernel)) (by decide +kernel) (pa_cons (pv 2) pa_nil)) (C8.pe_gc (by rfl) g_FEWEST_VISITED) (nomark _)))))) pa_nil)))), ?_⟩
    refine x_ret a (ed_allF (f := fun i => belowAsc n (es.getD i .non) && (match es.getD i .non with | .tup vs => decide (2 ≤ (vs.length : Int)) | _ => false)) (ed_lc0 (ei_tup (ed_var rfl)) (by decide) (Nat.le_trans hl (by decide)) fun i hi cl => ?_)) fun v H' d' hd' a' => hq ⟨_, _, rfl, hd'⟩ a'
    have hs := hd.all _ (List.mem_of_getElem? (getD_of hi))
    refine ed_andV (ed_p (ead_cons (ed_var rfl) (ead_cons (ed_var rfl) ea_nil)) ⟨_, _, rfl, hs⟩ (by rintro e ⟨d', n', e1, rfl⟩; cases e1; rfl)) fun hb => ?_
    have ht : isT (es.getD i .non) = true := by
      revert hb
      cases es.getD i .non <;> intro hb <;> first | rfl | cases hb
    obtain ⟨vs, hvs⟩ := isT_eq ht
    rw [hvs]
    exact ed_op (ed_lenT (ed_var rfl)) ed_int rd_geI
theorem isTup2_eq {d : D} (h : isTup 2 d = true) : ∃ x y, d = .tup [x, y] := by
  cases d with
  | tup ds =>
    have : (ds.length : Int) = 2 := of_decide_eq_true h
    match ds, this with
    | [x, y], _ => exact ⟨x, y, rfl⟩
    | [], h => cases h
    | [x], h => simp at h
    | x :: y :: z :: r, h => simp at h; omega
  | _ => cases h
theorem isPl_no {x y : D} (h : (!isT x || !isT y) = true) : isPl (.tup [x, y]) = false := by
  cases x <;> cases y <;> first | rfl | cases h
theorem isPl_no2 {d : D} (h : isTup 2 d = false) : isPl d = false := by
  cases hp : isPl d with
  | false => rfl
  | true =>
    unfold isPl at hp
    split at hp
    · cases h
    · cases hp
include bi in
theorem ok_is_placement (F : Fun K "is_placement" "is_placement" s_is_placement f fd) (c_is_tuple_of : C8.Cal P w K mg base 1 "is_tuple_of" (sp_is_tuple_of K) []) (c_are_names_ascending : C8.Cal P w K mg base 2 "are_names_ascending" (sp_are_names_ascending K) []) (c_are_clients : C8.Cal P w K mg base 5 "are_clients" (sp_are_clients K) []) :
    FnOk P w K mg base CX0 6 f fd ["thing"] (sp_is_placement K) := by
  refine F.ok sc_is_placement (fun vs H Q E h => ?_) (fun cdv A outer s H vs Q E hr h => ?_)
  · obtain ⟨G, ds, h1, ⟨d, rfl, _⟩, _⟩ := h
    exact h1.length
  · have hu := hu_of hr
    obtain ⟨G, ds, ⟨d, rfl, hd⟩, hlen, a, hq⟩ := fsp_start locT n_is_placement h
    refine ⟨_, (pss_cons (ps_if (pt_not (pt_val (C8.pe_c c_is_tuple_of hr (by first | decide | omega) (by rfl) (pa_cons (pv 0) (pa_cons pe_int pa_nil))))) (pss_one (ps_ret pe_bl)) pss_nil)
      (pss_cons (ps_asg (pv 0) (pg_tup rfl (pgs_cons (pg_name (i := 1) sc_is_placement.nd rfl (by first | exact (.inl rfl) | exact (.inr rfl))) (pgs_cons (pg_name (i := 2) sc_is_placement.nd rfl (by first | exact (.inl rfl) | exact (.inr rfl))) pgs_nil))))
      (pss_cons (ps_if (PW.pt (pw_or (pt_not (pt_val (pe_callB (id := "isinstance") (r := rIsi K) call_isi (by rfl) (bi "isinstance" (by decide +kernel)) (by decide +kernel) (pa_cons (pv 1) (pa_cons (pe_bltn (v := .ty "tuple") (u := .type "tuple") (by rfl) (bi "tuple" (by decide +kernel)) (by decide +kernel) rfl) pa_nil))))) (pw_or1 (pt_not (pt_val (pe_callB (id := "isinstance") (r := rIsi K) call_isi (by rfl) (bi "isinstance" (by decide +kernel)) (by decide +kernel) (pa_cons (pv 2) (pa_cons (pe_bltn (v := .ty "tuple") (u := .type "tuple") (by rfl) (bi "tuple" (by decide +kernel)) (by decide +kernel) rfl) pa_nil)))))))) (pss_one (ps_ret pe_bl)) pss_nil)
      (pss_one (ps_ret (pe_and (pe_callB (id := "all") (r := rAll K) (cr_all rfl) (by rfl) (bi "all" (by decide +kernel)) (by decide +kernel) (pa_cons (pe_lc (own := [("kept", 3)]) (g := gName 3) (tt := tYes) rfl sc_is_placement.nd (pi_tup (pv 1)) (blkOk_by (N := n_is_placement) (sc := defScope s_is_placement) (by decide +kernel)) (fun _ _ _ _ _ => (pg_name (i := 3) sc_is_placement.nd rfl (by first | exact (.inl rfl) | exact (.inr rfl)))) (fun _ _ _ _ _ => pts_nil) (fun _ _ _ _ _ => (C8.pe_c c_are_names_ascending hr (by first | decide | omega) (by rfl) (pa_cons (pv 3) pa_nil)))) pa_nil)) (pe_one (C8.pe_c c_are_clients hr (by first | decide | omega) (by rfl) (pa_cons (pv 2) (pa_cons (pe_callB (id := "len") (r := rLenU K) u_len (by rfl) (bi "len" (by decide +kernel)) (by decide +kernel) (pa_cons (pv 1) pa_nil)) pa_nil)))))))))), ?_⟩
    refine x_seq (x_ifb a (eb_not (eb_B (ed_p (ead_cons (ed_var rfl) (ead_cons ed_int ea_nil)) ⟨_, _, rfl, hd⟩ (by rintro e ⟨d', n', e1, rfl⟩; cases e1; rfl)))) (fun hb H' a' => ?_) fun hb H' a' => x_next ?_)
    · refine x_ret a' ed_bl fun v H2 d' hd' a2 => hq ⟨_, rfl, ?_⟩ a2
      rw [hd', isPl_no2 (by simpa using hb)]
    · obtain ⟨x, y, rfl⟩ := isTup2_eq (by simpa using hb)
      have hx : Sm x := hd.2.1
      have hy : Sm y := hd.2.2.1
      refine x_seq (x_asgG a' (ed_var rfl) gd_tup2 fun σ2 H2 a2 => ?_)
      refine x_seq (x_ifb a2 (eb_or (eb_not (eb_B (ed_isiT (ed_var rfl) hx.ty))) fun _ => eb_not (eb_B (ed_isiT (ed_var rfl) hy.ty))) (fun hb H' a' => ?_) fun hb H' a' => x_next ?_)
      · refine x_ret a' ed_bl fun v H2 d' hd' a2 => hq ⟨_, rfl, ?_⟩ a2
        rw [hd', isPl_no hb]
      · obtain ⟨h1, h2⟩ := and_of hb
        obtain ⟨ss, rfl⟩ := isT_eq h1
        obtain ⟨cs, rfl⟩ := isT_eq h2
        exact x_ret a' (ed_andV (b := areClients ss.length cs) (ed_allF (f := fun i => namesAsc (ss.getD i .non)) (ed_lc0 (ei_tup (ed_var rfl)) (by decide) (Nat.le_trans hx.1 (by decide)) fun i hi cl => ed_p (ead_cons (ed_var rfl) ea_nil) ⟨_, rfl, hx.2.all _ (List.mem_of_getElem? (getD_of hi))⟩ (by rintro e ⟨d', e1, rfl⟩; cases e1; rfl))) fun _ => ed_p (ead_cons (ed_var rfl) (ead_cons (ed_lenT (ed_var rfl)) ea_nil)) ⟨_, _, rfl, hy.1, hy.2⟩ (by rintro e ⟨d', n', e1, rfl⟩; cases e1; rfl)) fun v H2 d' hd' a2 => hq ⟨_, rfl, hd'⟩ a2
end
end Cal


namespace Cal
open PySem PySem.Spec PyProof.Rows L2
section
variable {X : Cx}
def rMulS : R2 := fun x y H Q => ∃ z n, x = .str z ∧ y = .int n ∧ MulOk z n ∧ Q (.str (Txt.mul z n)) H
theorem op_mulS : OpR X (binaryOp .Mult) rMulS := by
  intro pins s σ H x y v u Q I rx ry h
  obtain ⟨z, n, rfl, rfl, hz, q⟩ := h
  obtain ⟨t, rfl⟩ := rx
  obtain ⟨t', rfl⟩ := ry
  exact SB.mul hz fun t' tk => ⟨.str (Txt.mul z n), H, I.tok _, ⟨_, rfl⟩, q⟩
def rMulU2 : R2 := fun x y H Q => rMulU x y H Q ∨ rMulS x y H Q
theorem u_mul2 : OpR X (binaryOp .Mult) rMulU2 := OpR.or u_mul op_mulS
/-- list of a text's signs -/
def sgV (z : Str) : List V := (List.range z.cps.size).map fun i => .str ⟨#[z.cps.getD i 0]⟩
theorem sgV_length (z : Str) : (sgV z).length = z.cps.size := by unfold sgV; rw [List.length_map, List.length_range]
def rLstStr : List V → Hp → VK → Prop := fun xs H Q => ∃ z : Str, xs = [.str z] ∧ z.cps.size ≤ sizeLine ∧ ∀ l, H l = none → Q (.ref l) (upd H l (.lst (sgV z)))
theorem vals_signs {x : Str} {acc : Array Value} (h : ItemsOf (SignAt x) acc x.cps.size) : Vals (sgV x) acc.toList := by
  have e : acc.toList.length = x.cps.size := by rw [Array.length_toList]; exact h.1
  unfold sgV
  rw [← e]
  refine vals_of_get acc.toList _ fun j u hj => ?_
  obtain ⟨c, t, hc, rfl⟩ := h.2 j u (by rw [← hj, Array.getElem?_toList])
  refine ⟨t, ?_⟩
  rw [Array.getD_eq_getD_getElem?, hc]; rfl
theorem call_list_signs (hc : X.calm = true) : CallR X (.type "list") rLstStr := by
  intro pins s σ H xs us Q I r h
  obtain ⟨z, rfl, hz, q⟩ := h
  obtain ⟨u, rfl, rx⟩ := vals1 r
  obtain ⟨t, rfl⟩ := rx
  refine call_list_str (I.ok.hd hc) z t (fun h' tk acc c' kp e hi => ?_) hz
  exact ⟨.ref s.heap.objs.size, _, I.laid kp (Nat.le_refl _) (show ObjOk X.prog X.w _ h' _ (.lst (sgV z)) from ⟨by rw [sgV_length]; exact hz, acc.toList, c', vals_signs hi, by rw [Array.toArray_toList]; exact e⟩), rfl, q _ (I.hok.fresh (Nat.le_refl _))⟩
def rLstOf (K : PySem.W.Frag) : List V → Hp → VK → Prop := fun xs H Q => (∃ p ys, xs = [.ref p] ∧ (SqL K H p ys ∨ SqT K H p ys) ∧ ∀ l, H l = none → Q (.ref l) (upd H l (.lst ys))) ∨ rLstStr xs H Q
theorem u_list (hc : X.calm = true) : CallR X (.type "list") (rLstOf X.K) := CallR.or call_list_of (call_list_signs hc)
def rTupOf (K : PySem.W.Frag) : List V → Hp → VK → Prop := fun xs H Q => ∃ p ys, xs = [.ref p] ∧ ((SqL K H p ys ∧ ∀ l, H l = none → Q (.ref l) (upd H l (.tup ys))) ∨ (SqT K H p ys ∧ Q (.ref p) H))
theorem u_tuple : CallR X (.type "tuple") (rTupOf X.K) := call_tuple_of
end
section
variable {B : Bs} {ρ ρ' : Ro} {μ μ' : Mu} {τ : List (V × D)} {σ σ2 : L2.St} {H : Hp} {ta tb tc te tx : TE} {tt tu : TT} {P P1 P2 P3 : D → Prop} {d d1 d2 d3 e : D} {r r' : R2} {R R1 : D → Mu → Prop} {R2' : D → Mu → D → Mu → Prop} {i j : Int} {b : Bool} {v : V} {E : XK} {p l : Addr} {ds es : List D} {D0 : Ends} {ts t1 t2 : TS}
theorem rd_mulI2 (h : CMul i j) : RD B rMulU2 ρ μ (.int i) (.int j) (fun e => e = .int (i * j)) := RD.inl (rd_mulI h)
theorem rd_mulS2 {s : Str} (h : MulOk s i) : RD B rMulU2 ρ μ (.str s) (.int i) (fun e => e = .str (Txt.mul s i)) := RD.inr (rd_flat (fun _ => rfl) fun G H x y _ a b Q q => ⟨s, i, a, b, h, q⟩)
theorem rd_fdiv (h : CDivW i j) : RD B (rI CDivW fun i j => .int (i / j)) ρ μ (.int i) (.int j) (fun e => e = .int (i / j)) := rd_I (fun _ => rfl) h
theorem rc_tupL : RC B (rTupOf B.K) ρ μ [.lst ds] (fun e => e = .tup ds) := fun τ σ H xs hl a Q q => by
  obtain ⟨G, g, h⟩ := a.args hl
  obtain ⟨v, rfl, p, vs, rfl, e, k⟩ := one_arg h
  exact ⟨p, vs, rfl, .inl ⟨.inl (.inl (g.sub _ _ e)), fun l hl => q _ _ _ rfl (g.newTup hl k)⟩⟩
theorem rc_tupC {k : Nat} (hm : μ[k]? = some (p, .lst ds)) : RC B (rTupOf B.K) ρ μ [.raw (.ref p)] (fun e => e = .tup ds) := fun τ σ H xs hl a Q q => by
  obtain ⟨G, g, h⟩ := a.args hl
  obtain ⟨v, rfl, hv⟩ := one_arg h
  obtain ⟨vs, e, k⟩ := (g.cells _ (List.mem_of_getElem? hm)).2.2.2
  exact ⟨p, vs, by rw [show v = V.ref p from hv], .inl ⟨.inl (.inl e), fun l hl => q _ _ _ rfl (g.newTup hl k)⟩⟩
theorem rc_lstT : RC B (rLstOf B.K) ρ μ [.tup ds] (fun e => e = .lst ds) := fun τ σ H xs hl a Q q => by
  obtain ⟨G, g, h⟩ := a.args hl
  obtain ⟨v, rfl, p, vs, rfl, e, k⟩ := one_arg h
  exact .inl ⟨p, vs, rfl, .inr (.inl (.inl (g.sub _ _ e))), fun l hl => q _ _ _ rfl (g.newLst hl k)⟩
theorem ed_tupL (h : Ed B te ρ μ (.lst ds)) : Ed B (tCB (rTupOf B.K) (tCons te tNil)) ρ μ (.tup ds) := ed_cb (ead_cons h ea_nil) rc_tupL
theorem ed_lstT (h : Ed B te ρ μ (.tup ds)) : Ed B (tCB (rLstOf B.K) (tCons te tNil)) ρ μ (.lst ds) := ed_cb (ead_cons h ea_nil) rc_lstT
/-- sorted ints: some ascending arrangement -/
theorem rc_sortI {is : List Int} (hz : is.length < 64) (hP : ∀ js : List Int, js.Perm is → js.Pairwise (· ≤ ·) → P (.lst (js.map D.int))) : RC B (rSortU2 B.K) ρ μ [.lst (is.map D.int)] P := fun τ σ H xs hl a Q q => by
  obtain ⟨G, g, h⟩ := a.args hl
  obtain ⟨v, rfl, p, vs, rfl, e, k⟩ := one_arg h
  exact .inl ⟨p, is, rfl, .inl (.inl (by rw [← k.ints]; exact g.sub _ _ e)), hz, fun js p' h1 h2 hp' => q _ _ _ (hP js h1 h2) (g.newLst hp' (DtA.of_ints js))⟩
theorem rc_sortC {is : List Int} {k : Nat} (hm : μ[k]? = some (p, .lst (is.map D.int))) (hz : is.length < 64) (hP : ∀ js : List Int, js.Perm is → js.Pairwise (· ≤ ·) → P (.lst (js.map D.int))) : RC B (rSortU2 B.K) ρ μ [.raw (.ref p)] P := fun τ σ H xs hl a Q q => by
  obtain ⟨G, g, h⟩ := a.args hl
  obtain ⟨v, rfl, hv⟩ := one_arg h
  obtain ⟨vs, e, k⟩ := (g.cells _ (List.mem_of_getElem? hm)).2.2.2
  exact .inl ⟨p, is, by rw [show v = V.ref p from hv], .inl (.inl (by rw [← k.ints]; exact e)), hz, fun js p' h1 h2 hp' => q _ _ _ (hP js h1 h2) (g.newLst hp' (DtA.of_ints js))⟩
theorem rc_sortS {is : List Str} (hz : is.length < 64) (hP : ∀ js : List Str, js.Perm is → sortedS js = true → P (.lst (js.map D.str))) : RC B (rSortU2 B.K) ρ μ [.lst (is.map D.str)] P := fun τ σ H xs hl a Q q => by
  obtain ⟨G, g, h⟩ := a.args hl
  obtain ⟨v, rfl, p, vs, rfl, e, k⟩ := one_arg h
  exact .inr ⟨p, is, rfl, .inl (.inl (by rw [← k.strs]; exact g.sub _ _ e)), hz, fun js p' h1 h2 hp' => q _ _ _ (hP js h1 h2) (g.newLst hp' (DtA.of_strs js))⟩
/-! ### cells -/
/-- a new list that will change -/
def Xl (B : Bs) (te : TE) (ρ : Ro) (μ : Mu) (ds : List D) : Prop := Xv B te ρ μ fun d μ' => ∃ p, d = .raw (.ref p) ∧ μ' = (p, .lst ds) :: μ
theorem xl_lst {t : TA} (h : Ea B t ρ μ (fun l => l = ds)) (hl : ds.length ≤ sizeLine) : Xl B (tLst t) ρ μ ds := fun τ σ H a Q q => h τ σ H a _ fun vs H1 es hes hlen a1 => by
  subst hes
  obtain ⟨G, g, k⟩ := a1.args hlen
  refine ⟨by rw [hlen]; exact hl, fun p hp => q _ _ _ _ ⟨p, rfl, rfl⟩ ?_⟩
  obtain ⟨G0, g0⟩ := a1
  have a2 := (At.newCell (c := .lst es) (o := .lst vs) ⟨G0, g0⟩ hp fun G' k' => ⟨vs, upd_same, DtA.of_zip hlen fun q hq => k' q (List.mem_append_left _ hq)⟩).1
  exact At.flat (a2.sub fun q hq => List.mem_append_right _ hq) fun _ => rfl
theorem xl_nil : Xl B (tLst tNil) ρ μ [] := xl_lst ea_nil (Nat.zero_le _)
theorem xl_signs {s : Str} (h : Ed B te ρ μ (.str s)) (hz : s.cps.size ≤ sizeLine) : Xl B (tCB (rLstOf B.K) (tCons te tNil)) ρ μ ((List.range s.cps.size).map fun i => .str ⟨#[s.cps.getD i 0]⟩) := fun τ σ H a Q q => h.go a fun v H1 d hd a1 => by
  subst hd
  obtain ⟨G, g, hv⟩ := a1.top
  refine .inr ⟨s, by rw [show v = V.str s from hv], hz, fun p hp => q _ _ _ _ ⟨p, rfl, rfl⟩ ?_⟩
  have a2 := (At.newCell (c := .lst ((List.range s.cps.size).map fun i => .str ⟨#[s.cps.getD i 0]⟩)) (o := .lst (sgV s)) ⟨G, g⟩ hp fun G' k' => ⟨_, upd_same, ?_⟩).1
  · exact At.flat a2 fun _ => rfl
  · have e := DtA.of_strs (K := B.K) (G := G') ((List.range s.cps.size).map fun i => (⟨#[s.cps.getD i 0]⟩ : Str))
    rw [List.map_map, List.map_map] at e
    exact e
theorem xl_range (h : Ed B te ρ μ (.int i)) (hi : 0 ≤ i ∧ i ≤ 1000) : Xl B (tLstRg (tRg1 te)) ρ μ ((List.range i.toNat).map fun k : Nat => D.int (k : Int)) := fun τ σ H a Q q => h.go a fun v H1 d hd a1 => by
  subst hd
  obtain ⟨G, g, hv⟩ := a1.top
  refine ⟨i, hv, RgOk.of_le (by omega) (by omega) (by omega) (by omega), fun p hp => q _ _ _ _ ⟨p, rfl, rfl⟩ ?_⟩
  have a2 := (At.newCell (c := .lst ((List.range i.toNat).map fun k : Nat => D.int (k : Int))) (o := .lst (rgV 0 i)) ⟨G, g⟩ hp fun G' k' => ⟨_, upd_same, ?_⟩).1
  · exact At.flat a2 fun _ => rfl
  · have e := DtA.of_ints (K := B.K) (G := G') ((List.range i.toNat).map fun k : Nat => (k : Int))
    rw [List.map_map] at e
    have e2 : rgV 0 i = (List.range i.toNat).map fun k : Nat => V.int (k : Int) := by
      unfold rgV
      rw [Int.sub_zero]
      exact List.map_congr_left fun k _ => by rw [Int.zero_add]
    rw [e2]
    rw [List.map_map] at e
    exact e
/-- two names at once, each with its own change of the cells -/
theorem x_par2 {k l : Nat} (a : At B ρ μ τ σ H) (h1 : Xv B ta ρ μ R) (h2 : ∀ d1 μ1, R d1 μ1 → Xv B tb ρ μ1 (R2' d1 μ1)) (q : ∀ d1 μ1 d2 μ2 σ' H', R d1 μ1 → R2' d1 μ1 d2 μ2 → At B ((ρ.set k (some d1)).set l (some d2)) μ2 τ σ' H' → D0.nx σ' H') : tPar k l (tCons ta (tCons tb tNil)) D0 σ H :=
  h1 τ σ H a _ fun v H1 d1 μ1 hr a1 => h2 d1 μ1 hr _ σ H1 a1 _ fun w H2 d2 μ2 hr2 a2 => ⟨v, w, rfl, q d1 μ1 d2 μ2 _ H2 hr hr2 (At.set l (At.sub (τ' := (w, d2) :: τ) (At.set k (At.sub (τ' := (v, d1) :: (w, d2) :: τ) a2 fun p hp => by
    rcases List.mem_cons.mp hp with e | e
    · rw [e]; exact List.mem_cons_of_mem _ (List.mem_cons_self ..)
    · rcases List.mem_cons.mp e with e | e
      · rw [e]; exact List.mem_cons_self ..
      · exact List.mem_cons_of_mem _ (List.mem_cons_of_mem _ e))) fun p hp => hp))⟩
/-- append to a cell -/
theorem x_append {k : Nat} (a : At B ρ μ τ σ H) (ho : ∀ τ σ H, At B ρ μ τ σ H → ∀ Q : VK, (∀ H', At B ρ μ τ σ H' → Q (.ref l) H') → ta σ H Q) (hm : μ[k]? = some (l, .lst ds)) (he : Xv B te ρ μ R) (hR : ∀ d μ', R d μ' → μ'[k]? = some (l, .lst ds)) (hz : ds.length < 100000)
    (q : ∀ d μ' H', R d μ' → At B ρ (μ'.set k (l, .lst (ds ++ [d]))) τ σ H' → D0.nx σ H') : tDrop (tBM B.K "list" rAppend ta (tCons te tNil)) D0 σ H :=
  ho τ σ H a _ fun H1 a1 => by
    obtain ⟨G, g⟩ := id a1
    obtain ⟨vs, e, _⟩ := (g.cells _ (List.mem_of_getElem? hm)).2.2.2
    refine ⟨.inl ⟨rfl, _, .inl (.inl e)⟩, he τ σ H1 a1 _ fun v H2 d μ' hr a2 => ?_⟩
    obtain ⟨G2, g2⟩ := id a2
    obtain ⟨us, e2, k2⟩ := (g2.cells _ (List.mem_of_getElem? (hR d μ' hr))).2.2.2
    refine ⟨l, us, v, rfl, rfl, e2, by rw [k2.length]; exact Nat.lt_trans hz (by decide), q d μ' _ hr (At.pop (At.write (c' := .lst (ds ++ [d])) a2 (hR d μ' hr) fun G' k' hc => ?_))⟩
    obtain ⟨us', e3, k3⟩ := hc
    rw [e2] at e3
    cases e3
    exact ⟨_, upd_same, k3.append ⟨v, [], rfl, k' _ (List.mem_cons_self ..), rfl⟩⟩
/-- the name of a cell -/
theorem o_var {n : Nat} (h : ρ[n]? = some (some (.raw (.ref l)))) : ∀ τ σ H, At B ρ μ τ σ H → ∀ Q : VK, (∀ H', At B ρ μ τ σ H' → Q (.ref l) H') → tVar n σ H Q := fun τ σ H a Q q => by
  obtain ⟨v, h1, h2⟩ := a.var h
  obtain ⟨G, g, hv⟩ := h2.top
  exact ⟨v, h1, by rw [show v = V.ref l from hv]; exact q H ⟨G, g⟩⟩
/-- pop at a place -/
theorem xv_popAt {k : Nat} (ho : ∀ τ σ H, At B ρ μ τ σ H → ∀ Q : VK, (∀ H', At B ρ μ τ σ H' → Q (.ref l) H') → ta σ H Q) (hm : μ[k]? = some (l, .lst ds)) (he : Ev B te ρ μ fun d => ∃ i : Int, d = .int i ∧ 0 ≤ i ∧ i < ds.length) (hz : ds.length ≤ 100000) :
    Xv B (tBM B.K "list" rPopAt ta (tCons te tNil)) ρ μ fun d μ' => ∃ n, n < ds.length ∧ ds[n]? = some d ∧ μ' = μ.set k (l, .lst (ds.eraseIdx n)) := fun τ σ H a Q q => ho τ σ H a _ fun H1 a1 => by
  obtain ⟨G, g⟩ := id a1
  obtain ⟨vs, e, _⟩ := (g.cells _ (List.mem_of_getElem? hm)).2.2.2
  refine ⟨.inl ⟨rfl, _, .inl (.inl e)⟩, he.go a1 fun v H2 d hd a2 => ?_⟩
  obtain ⟨i, rfl, h0, h1⟩ := hd
  obtain ⟨G2, g2, hv⟩ := id a2.top
  obtain ⟨us, e2, k2⟩ := (g2.cells _ (List.mem_of_getElem? hm)).2.2.2
  have hn : i.toNat < ds.length := by omega
  obtain ⟨y, hy, dy⟩ := k2.get (getD_of hn)
  refine ⟨l, us, i, i.toNat, y, rfl, by rw [show v = V.int i from hv], e2, by omega, by omega, ?_, hy, q y _ (ds.getD i.toNat .non) _ ⟨i.toNat, hn, getD_of hn, rfl⟩ ?_⟩
  · unfold seqIndex?
    rw [k2.length]
    have e3 : (if i < 0 then i + (ds.length : Int) else i) = i := if_neg (by omega)
    simp only [e3]
    have h3 : (decide (0 ≤ i) && decide (i < (ds.length : Int))) = true := by rw [decide_eq_true h0, decide_eq_true h1]; rfl
    rw [if_pos h3]
  · refine At.write (c' := .lst (ds.eraseIdx i.toNat)) ⟨G2, g2.push dy⟩ hm fun G' k' hc => ?_
    obtain ⟨us', e3, k3⟩ := hc
    rw [e2] at e3
    cases e3
    refine ⟨_, upd_same, ?_⟩
    rw [List.eraseIdx_eq_take_drop_succ, List.eraseIdx_eq_take_drop_succ]
    exact (k3.take _).append (k3.drop _)
end
end Cal


namespace Cal
open PySem PySem.Spec PyProof.Rows L2
/-! ### the deck: an object of three things, and its list -/
abbrev kL : Key := .inr "left"
abbrev kM : Key := .inr "mixed"
abbrev kD : Key := .inr "draws"
theorem kLM : decide (kL = kM) = false := by decide +kernel
theorem kLD : decide (kL = kD) = false := by decide +kernel
theorem kMD : decide (kM = kD) = false := by decide +kernel
theorem kML : decide (kM = kL) = false := by decide +kernel
theorem kDL : decide (kD = kL) = false := by decide +kernel
theorem kDM : decide (kD = kM) = false := by decide +kernel
def dkv (l : Addr) (m n : Int) : List (Key × V) := [(kL, .ref l), (kM, .int m), (kD, .int n)]
theorem dkv_left (l : Addr) (m n : Int) : valV (dkv l m n) kL = some (.ref l) := by
  unfold valV dkv
  rw [List.find?_cons_of_pos (by exact decide_eq_true rfl)]; rfl
theorem dkv_mixed (l : Addr) (m n : Int) : valV (dkv l m n) kM = some (.int m) := by
  unfold valV dkv
  rw [List.find?_cons_of_neg (by rw [kLM]; exact Bool.false_ne_true), List.find?_cons_of_pos (by exact decide_eq_true rfl)]; rfl
theorem dkv_draws (l : Addr) (m n : Int) : valV (dkv l m n) kD = some (.int n) := by
  unfold valV dkv
  rw [List.find?_cons_of_neg (by rw [kLD]; exact Bool.false_ne_true), List.find?_cons_of_neg (by rw [kMD]; exact Bool.false_ne_true), List.find?_cons_of_pos (by exact decide_eq_true rfl)]; rfl
theorem dkv_put (l : Addr) (m n n' : Int) : putK (dkv l m n) kD (.int n') = dkv l m n' := by
  unfold putK dkv
  rw [if_pos (by simp only [List.any_cons, kLD, kMD, List.any_nil, Bool.false_or, Bool.or_false]; exact decide_eq_true trivial)]
  simp only [List.map_cons, List.map_nil]
  rw [if_neg (of_decide_eq_false kLD), if_neg (of_decide_eq_false kMD)]
  first | rfl | rw [if_pos trivial] | rw [if_pos rfl]
theorem dkv_merge (l : Addr) (m n : Int) : mergeK [] [(kL, .ref l), (kM, .int m), (kD, .int n)] = dkv l m n := by
  unfold mergeK
  simp only [List.foldl_cons, List.foldl_nil]
  have e1 : putK ([] : List (Key × V)) kL (.ref l) = [(kL, .ref l)] := by unfold putK; rw [if_neg (by simp)]; rfl
  have e2 : putK [(kL, V.ref l)] kM (.int m) = [(kL, .ref l), (kM, .int m)] := by
    unfold putK; rw [if_neg (by simp only [List.any_cons, kLM, List.any_nil, Bool.or_false]; exact Bool.false_ne_true)]; rfl
  have e3 : putK [(kL, V.ref l), (kM, .int m)] kD (.int n) = [(kL, .ref l), (kM, .int m), (kD, .int n)] := by
    unfold putK; rw [if_neg (by simp only [List.any_cons, kLD, kMD, List.any_nil, Bool.or_false]; exact Bool.false_ne_true)]; rfl
  rw [e1, e2, e3]; rfl
def DkI (dk l : Addr) (k : Nat) (H : Hp) : Prop := ∃ (ns : List Int) (m n : Int), H dk = some (.dK (dkv l m n)) ∧ H l = some (.lst (ns.map V.int)) ∧ ns.length ≤ k
theorem dkLoc {dk l : Addr} {k : Nat} : ∀ H H', DkI dk l k H → (∀ b ∈ [dk, l], H' b = H b) → DkI dk l k H' := fun H H' ⟨ns, m, n, h1, h2, h3⟩ e => ⟨ns, m, n, by rw [e dk (by simp)]; exact h1, by rw [e l (by simp)]; exact h2, h3⟩
theorem DkI.ent {dk l : Addr} {k : Nat} {H : Hp} (h : DkI dk l k H) : ∀ b ∈ [dk, l], Ent H b := fun b hb => by
  obtain ⟨ns, m, n, h1, h2, _⟩ := h
  unfold Ent
  rcases List.mem_cons.mp hb with z | z
  · rw [z, h1]; simp
  · rw [List.mem_singleton.mp z, h2]; simp
def Bd (K : PySem.W.Frag) (dk l : Addr) (k : Nat) (G0 H0 : Hp) : Bs := ⟨K, DkI dk l k, [dk, l], dkLoc, G0, H0⟩
section
variable {K : PySem.W.Frag} {dk l : Addr} {k : Nat} {G0 H0 : Hp} {ρ ρ' : Ro} {μ μ' : Mu} {τ : List (V × D)} {σ σ2 : L2.St} {H : Hp} {te ta : TE} {P : D → Prop} {D0 : Ends} {t1 t2 : TS} {j i : Nat}
theorem Bd.to {k' : Nat} (h : k ≤ k') (a : At (Bd K dk l k G0 H0) ρ μ τ σ H) : At (Bd K dk l k' G0 H0) ρ μ τ σ H := by
  obtain ⟨G, g⟩ := a
  obtain ⟨ns, m, n, h1, h2, h3⟩ := (g.inv : DkI dk l k H)
  exact ⟨G, g.sub, ⟨ns, m, n, h1, h2, Nat.le_trans h3 h⟩, g.out, g.tup, g.base, g.ext, g.len, g.slots, g.cells, g.nd, g.temps⟩
/-- what all change is changed -/
theorem Bd.write {k' : Nat} {o : HO} {p : Addr} {G : Hp} (g : AtG (Bd K dk l k G0 H0) ρ μ τ σ H G) (hp : p ∈ [dk, l]) (hI : DkI dk l k' (upd H p o)) : AtG (Bd K dk l k' G0 H0) ρ μ τ σ (upd H p o) G := by
  have n1 : G p = none := (g.out p hp).1
  refine ⟨fun b u e => ?_, hI, fun b hb => ⟨(g.out b hb).1, ?_⟩, fun b vs e => ?_, fun b u e hb => ?_, g.ext, g.len, g.slots, fun q hq => ?_, g.nd, g.temps⟩
  · rw [upd_ne (fun z => by subst z; rw [n1] at e; cases e)]; exact g.sub b u e
  · exact DkI.ent hI b hb
  · by_cases hb : b = p
    · subst hb; exact absurd e ((DkI.ent hI b hp).2 vs)
    · rw [upd_ne hb] at e; exact g.tup b vs e
  · rw [upd_ne (show b ≠ p from fun z => hb (show b ∈ [dk, l] by rw [z]; exact hp))]; exact g.base b u e hb
  · obtain ⟨a, b, c, d⟩ := g.cells q hq
    exact ⟨a, b, c, d.mono (Same.refl G) fun o' z => by rw [upd_ne (show q.1 ≠ p from fun e => c (show q.1 ∈ [dk, l] by rw [e]; exact hp))]; exact z⟩
theorem deck_at (a : At (Bd K dk l k G0 H0) ρ μ τ σ H) (h : ρ[j]? = some (some (.raw (.ref dk)))) : σ[j]? = some (some (.ref dk)) := by
  obtain ⟨v, h1, h2⟩ := a.var h
  obtain ⟨G, g, hv⟩ := h2.top
  rw [h1, show v = V.ref dk from hv]
theorem ev_dgetI (h : ρ[j]? = some (some (.raw (.ref dk)))) {x : Str} (hx : ∀ m n, ∃ z, valV (dkv l m n) (.inr x) = some (.int z)) : Ev (Bd K dk l k G0 H0) (tDGet (tVar j) (tC (.str x))) ρ μ (fun d => ∃ z, d = .int z) := Ev.mk fun τ σ H a Q q => by
  obtain ⟨G, g⟩ := id a
  obtain ⟨ns, m, n, h1, h2, h3⟩ := (g.inv : DkI dk l k H)
  obtain ⟨z, hz⟩ := hx m n
  refine ⟨_, deck_at a h, dk, .int z, rfl, ?_, q _ H _ ⟨z, rfl⟩ (At.flat a fun _ => rfl)⟩
  rw [← hz]
  exact DGet.k (k := Sum.inr x) h1
theorem ev_draws (h : ρ[j]? = some (some (.raw (.ref dk)))) : Ev (Bd K dk l k G0 H0) (tDGet (tVar j) (tC (.str "draws"))) ρ μ (fun d => ∃ z, d = .int z) := ev_dgetI h fun m n => ⟨n, dkv_draws l m n⟩
theorem ev_mixed (h : ρ[j]? = some (some (.raw (.ref dk)))) : Ev (Bd K dk l k G0 H0) (tDGet (tVar j) (tC (.str "mixed"))) ρ μ (fun d => ∃ z, d = .int z) := ev_dgetI h fun m n => ⟨m, dkv_mixed l m n⟩
theorem left_at (a : At (Bd K dk l k G0 H0) ρ μ τ σ H) (h : ρ[j]? = some (some (.raw (.ref dk)))) {Q : VK} (q : Q (.ref l) H) : tDGet (tVar j) (tC (.str "left")) σ H Q := by
  obtain ⟨G, g⟩ := id a
  obtain ⟨ns, m, n, h1, h2, h3⟩ := (g.inv : DkI dk l k H)
  refine ⟨_, deck_at a h, dk, .ref l, rfl, ?_, q⟩
  rw [← dkv_left l m n]
  exact DGet.k (k := kL) h1
theorem x_putDraws (a : At (Bd K dk l k G0 H0) ρ μ τ σ H) (h : ρ[j]? = some (some (.raw (.ref dk)))) (he : Ev (Bd K dk l k G0 H0) te ρ μ (fun d => ∃ z, d = .int z)) (q : ∀ H', At (Bd K dk l k G0 H0) ρ μ τ σ H' → D0.nx σ H') : sDPut (tVar j) (tC (.str "draws")) te D0 σ H := he.go a fun v H1 d hd a1 => by
  obtain ⟨z, rfl⟩ := hd
  obtain ⟨G, g, hv⟩ := a1.top
  obtain ⟨ns, m, n, h1, h2, h3⟩ := (g.inv : DkI dk l k H1)
  refine ⟨_, deck_at ⟨G, g⟩ h, dk, _, rfl, DPut.k (k := kD) h1 (by show 3 < sizeLine; decide), q _ ⟨G, Bd.write g (by simp) ⟨ns, m, z, ?_, ?_, h3⟩⟩⟩
  · rw [upd_same, show v = V.int z from hv, dkv_put]
  · have hne : l ≠ dk := fun e => by rw [e, h1] at h2; cases h2
    rw [upd_ne hne]; exact h2
theorem pyA_ints : ∀ ns : List Int, pyA (ns.map D.int) = ns.map PyData.int
  | [] => rfl
  | n :: ns => by rw [List.map_cons, List.map_cons, ← pyA_ints ns]; rfl
theorem plainA_ints : ∀ ns : List Int, plainA (ns.map D.int) = true
  | [] => rfl
  | n :: ns => by simp [plainA, plain, plainA_ints ns]
theorem depA_ints : ∀ ns : List Int, depA (ns.map D.int) = 0
  | [] => rfl
  | n :: ns => by simp [depA, dep, depA_ints ns]
theorem x_ifLeft (a : At (Bd K dk l k G0 H0) ρ μ τ σ H) (h : ρ[j]? = some (some (.raw (.ref dk)))) (q1 : ∀ H', At (Bd K dk l k G0 H0) ρ μ τ σ H' → (∃ ns : List Int, H' l = some (.lst (ns.map V.int)) ∧ ns ≠ []) → t1 D0 σ H')
    (q2 : ∀ H', At (Bd K dk l k G0 H0) ρ μ τ σ H' → t2 D0 σ H') : tIfS (tTest (tOp (rNeD K) (tDGet (tVar j) (tC (.str "left"))) (tLst tNil))) t1 t2 D0 σ H := by
  refine left_at a h ⟨Nat.zero_le _, fun p hp => ?_⟩
  have a1 := (At.new (o := .lst []) (dn := .lst []) a hp fun G _ e => ⟨p, [], rfl, e, rfl⟩)
  obtain ⟨G1, g1⟩ := a1.pop
  obtain ⟨ns, m, n, h1, h2, h3⟩ := (g1.inv : DkI dk l k _)
  refine ⟨.list (ns.map PyData.int), .list [], ?_, .lst (.inl (.inl upd_same)) .nil, ?_, by decide, _, rfl, ?_⟩
  · have := DtA.dp (Same.refl _) (ns.map D.int) (plainA_ints ns) (DtA.of_ints (K := K) (G := upd H p (.lst [])) ns)
    rw [pyA_ints] at this
    exact .lst (.inl (.inl h2)) this
  · have e := shaped_py (d := .lst (ns.map D.int)) (by simpa [plain] using plainA_ints ns) (by show depA (ns.map D.int) + 1 ≤ 64; rw [depA_ints]; decide)
    have e2 : py (.lst (ns.map D.int)) = .list (ns.map PyData.int) := by show PyData.list (pyA (ns.map D.int)) = _; rw [pyA_ints]
    rw [e2] at e
    exact e
  · cases ns with
    | nil => exact q2 _ a1.pop
    | cons x r => exact q1 _ a1.pop ⟨x :: r, h2, by simp⟩
theorem map_int_inj : ∀ {xs ys : List Int}, xs.map V.int = ys.map V.int → xs = ys
  | [], [], _ => rfl
  | [], y :: ys, h => by simp at h
  | x :: xs, [], h => by simp at h
  | x :: xs, y :: ys, h => by
    rw [List.map_cons, List.map_cons] at h
    injection h with h1 h2
    rw [V.int.inj h1, map_int_inj h2]
theorem x_popLeft (a : At (Bd K dk l (k + 1) G0 H0) ρ μ τ σ H) (h : ρ[j]? = some (some (.raw (.ref dk)))) (hne : ∃ ns : List Int, H l = some (.lst (ns.map V.int)) ∧ ns ≠ [])
    (q : ∀ c σ' H', At (Bd K dk l k G0 H0) (ρ.set i (some (.int c))) μ τ σ' H' → D0.nx σ' H') : tAsg (tBM0 K "list" rPop (tDGet (tVar j) (tC (.str "left")))) (gName i) D0 σ H := by
  refine left_at a h ?_
  obtain ⟨G, g⟩ := a
  obtain ⟨ns', m, n, h1, h2', h3⟩ := (g.inv : DkI dk l (k + 1) H)
  obtain ⟨ns, h2, hn⟩ := hne
  have en : ns' = ns := by
    rw [h2'] at h2
    have := HO.lst.inj (Option.some.inj h2)
    exact map_int_inj this
  subst en
  have hlen : 0 < ns'.length := List.length_pos_iff.mpr hn
  have hl2 : ns'.length - 1 < ns'.length := by omega
  refine ⟨.inl ⟨rfl, _, .inl (.inl h2)⟩, l, ns'.map V.int, .int (ns'[ns'.length - 1]), rfl, rfl, h2, ?_, ?_⟩
  · rw [List.length_map, List.getElem?_map, List.getElem?_eq_getElem hl2]; rfl
  · have hne2 : dk ≠ l := fun e => by rw [e, h2] at h1; cases h1
    refine q (ns'[ns'.length - 1]) _ _ (At.set i ⟨G, AtG.push (Bd.write g (by simp) ⟨ns'.dropLast, m, n, ?_, ?_, ?_⟩) rfl⟩)
    · rw [upd_ne hne2]; exact h1
    · rw [upd_same, List.map_dropLast]
    · rw [List.length_dropLast]; omega
theorem x_appLeft (a : At (Bd K dk l k G0 H0) ρ μ τ σ H) (h : ρ[j]? = some (some (.raw (.ref dk)))) (he : Ev (Bd K dk l k G0 H0) te ρ μ (fun d => ∃ z, d = .int z)) (hk : k < 100000)
    (q : ∀ H', At (Bd K dk l (k + 1) G0 H0) ρ μ τ σ H' → D0.nx σ H') : tDrop (tBM K "list" rAppend (tDGet (tVar j) (tC (.str "left"))) (tCons te tNil)) D0 σ H := by
  refine left_at a h ?_
  obtain ⟨G, g⟩ := id a
  obtain ⟨ns, m, n, h1, h2, h3⟩ := (g.inv : DkI dk l k H)
  refine ⟨.inl ⟨rfl, _, .inl (.inl h2)⟩, he.go a fun v H1 d hd a1 => ?_⟩
  obtain ⟨z, rfl⟩ := hd
  obtain ⟨G1, g1, hv⟩ := a1.top
  obtain ⟨ns1, m1, n1, e1, e2, e3⟩ := (g1.inv : DkI dk l k H1)
  have hne2 : dk ≠ l := fun e => by rw [e, e2] at e1; cases e1
  refine ⟨l, ns1.map V.int, v, rfl, rfl, e2, by rw [List.length_map]; exact Nat.lt_of_le_of_lt e3 (Nat.lt_trans hk (by decide)), q _ ⟨G1, Bd.write g1 (by simp) ⟨ns1 ++ [z], m1, n1, ?_, ?_, ?_⟩⟩⟩
  · rw [upd_ne hne2]; exact e1
  · rw [upd_same, List.map_append, show v = V.int z from hv]; rfl
  · rw [List.length_append]; show ns1.length + 1 ≤ k + 1; omega
/-- what a def with the deck promises -/
def dsp (K : PySem.W.Frag) (pre : List D → Prop) (post : List D → D → Prop) : Sp := fun vs H Q E => ∃ dk l, fsp K (DkI dk l 64) [dk, l] (fun ds => ∃ es, ds = .raw (.ref dk) :: es ∧ pre es) (fun ds e => ∃ es, ds = .raw (.ref dk) :: es ∧ post es e) vs H Q E
theorem ev_d {pre : List D → Prop} {post : List D → D → Prop} {t : TA} {E : XK} {Ps : List D → Prop} (h : Ea (Bd K dk l 64 G0 H0) t ρ μ (fun ds => ∃ es, ds = .raw (.ref dk) :: es ∧ Ps es)) (hpre : ∀ es, Ps es → pre es) (hpost : ∀ es e, Ps es → post es e → P e) : Ev (Bd K dk l 64 G0 H0) (tCall (dsp K pre post) [] E t) ρ μ P :=
  ev_callS (B := Bd K dk l 64 G0 H0) (I' := DkI dk l 64) (M' := [dk, l]) h (fun vs H Q z => ⟨dk, l, z⟩) (fun ds ⟨es, e1, e2⟩ => ⟨es, e1, hpre es e2⟩) (fun ds d ⟨es, e1, e2⟩ ⟨es', e3, e4⟩ => by
    rw [e1] at e3
    cases e3
    exact hpost es d e2 e4) (fun _ h => h) (fun _ h => h) fun _ _ _ i _ _ => i
theorem ea_deck {tr : TA} {Ps : List D → Prop} {B : Bs} (h : ρ[j]? = some (some (.raw (.ref dk)))) (hr : Ea B tr ρ μ Ps) : Ea B (tCons (tVar j) tr) ρ μ (fun ds => ∃ es, ds = .raw (.ref dk) :: es ∧ Ps es) := ea_cons (ed_var h) fun d hd => by
  subst hd
  exact fun τ σ H a Q q => hr τ σ H a Q fun vs H' es z => q vs H' es ⟨es, rfl, z⟩
theorem ed_d {pre : List D → Prop} {post : List D → D → Prop} {t : TA} {E : XK} {es : List D} (h : ρ[j]? = some (some (.raw (.ref dk)))) (ht : Ea (Bd K dk l 64 G0 H0) t ρ μ (fun l => l = es)) (hpre : pre es) (hpost : ∀ e, post es e → P e) : Ev (Bd K dk l 64 G0 H0) (tCall (dsp K pre post) [] E (tCons (tVar j) t)) ρ μ P :=
  ev_d (ea_deck h ht) (fun l e => by rw [e]; exact hpre) fun l e he z => hpost e (by rw [← he]; exact z)
theorem dsp_start {pre : List D → Prop} {post : List D → D → Prop} {vs : List V} {H : Hp} {Q : VK} {E : XK} (N : List Str) (h : dsp K pre post vs H Q E) :
    ∃ (dk l : Addr) (G : Hp) (es : List D), pre es ∧ vs.length = es.length + 1 ∧ At (Bd K dk l 64 G H) (some (.raw (.ref dk)) :: es.map some ++ List.replicate (N.length - (es.length + 1)) none) [] [] (start N vs) H ∧
      ∀ {ρ μ τ σ v H' d}, post es d → At (Bd K dk l 64 G H) ρ μ ((v, d) :: τ) σ H' → Q v H' := by
  obtain ⟨dk, l, h⟩ := h
  obtain ⟨G, ds, ⟨es, rfl, hp⟩, hl, a, q⟩ := fsp_start dkLoc N h
  exact ⟨dk, l, G, es, hp, hl, a, fun hd a => q ⟨es, rfl, hd⟩ a⟩
end
end Cal


namespace Cal
open PySem PySem.Spec PyProof.Rows L2
/-! ### a statement with a block behind it -/
section
variable {B : Bs} {ρ ρ' : Ro} {μ μ' : Mu} {τ : List (V × D)} {σ σ2 : L2.St} {H : Hp} {ta tb tc te tx : TE} {tt tu : TT} {P : D → Prop} {d : D} {R : D → Mu → Prop} {R2' : D → Mu → D → Mu → Prop} {b : Bool} {p l : Addr} {ds es : List D} {D0 : Ends} {ts t1 t2 tz : TS} {g : TG} {k : Nat}
theorem y_asg (a : At B ρ μ τ σ H) (he : Xv B te ρ μ R) (q : ∀ d μ' σ' H', R d μ' → At B (ρ.set k (some d)) μ' τ σ' H' → tz D0 σ' H') : tSeq (tAsg te (gName k)) tz D0 σ H := x_asg (D0 := { D0 with nx := tz D0 }) a he q
theorem y_set (a : At B ρ μ τ σ H) (he : Ed B te ρ μ d) (q : ∀ σ' H', At B (ρ.set k (some d)) μ τ σ' H' → tz D0 σ' H') : tSeq (tAsg te (gName k)) tz D0 σ H := x_set (D0 := { D0 with nx := tz D0 }) a he q
theorem y_setV (a : At B ρ μ τ σ H) (he : Ev B te ρ μ P) (q : ∀ d σ' H', P d → At B (ρ.set k (some d)) μ τ σ' H' → tz D0 σ' H') : tSeq (tAsg te (gName k)) tz D0 σ H := x_setV (D0 := { D0 with nx := tz D0 }) a he q
theorem y_if {Pb : Bool → Prop} (a : At B ρ μ τ σ H) (h : Et B tt ρ μ Pb) (q1 : Pb true → ∀ H', At B ρ μ τ σ H' → t1 { D0 with nx := tz D0 } σ H') (q2 : Pb false → ∀ H', At B ρ μ τ σ H' → tz D0 σ H') : tSeq (tIfS tt t1 tNext) tz D0 σ H := x_if (D0 := { D0 with nx := tz D0 }) a h q1 q2
theorem y_ifb (a : At B ρ μ τ σ H) (h : Eb B tt ρ μ b) (q1 : b = true → ∀ H', At B ρ μ τ σ H' → t1 { D0 with nx := tz D0 } σ H') (q2 : b = false → ∀ H', At B ρ μ τ σ H' → tz D0 σ H') : tSeq (tIfS tt t1 tNext) tz D0 σ H := x_ifb (D0 := { D0 with nx := tz D0 }) a h q1 q2
theorem y_drop (a : At B ρ μ τ σ H) (he : Xv B te ρ μ R) (q : ∀ d μ' H', R d μ' → At B ρ μ' τ σ H' → tz D0 σ H') : tSeq (tDrop te) tz D0 σ H := x_drop (D0 := { D0 with nx := tz D0 }) a he q
theorem y_par {k l : Nat} {t : TA} {Ps : D → D → Prop} (a : At B ρ μ τ σ H) (he : Ea B t ρ μ fun ds => ∃ d1 d2, ds = [d1, d2] ∧ Ps d1 d2) (q : ∀ d1 d2 σ' H', Ps d1 d2 → At B ((ρ.set k (some d1)).set l (some d2)) μ τ σ' H' → tz D0 σ' H') : tSeq (tPar k l t) tz D0 σ H := x_par (D0 := { D0 with nx := tz D0 }) a he q
theorem y_par2 {k l : Nat} (a : At B ρ μ τ σ H) (h1 : Xv B ta ρ μ R) (h2 : ∀ d1 μ1, R d1 μ1 → Xv B tb ρ μ1 (R2' d1 μ1)) (q : ∀ d1 μ1 d2 μ2 σ' H', R d1 μ1 → R2' d1 μ1 d2 μ2 → At B ((ρ.set k (some d1)).set l (some d2)) μ2 τ σ' H' → tz D0 σ' H') : tSeq (tPar k l (tCons ta (tCons tb tNil))) tz D0 σ H := x_par2 (D0 := { D0 with nx := tz D0 }) a h1 h2 q
theorem y_asgG {ρ' : Ro} {js : List Nat} (a : At B ρ μ τ σ H) (he : Ed B te ρ μ d) (hg : Gd B g ρ μ d ρ' js) (q : ∀ σ' H', At B ρ' μ τ σ' H' → tz D0 σ' H') : tSeq (tAsg te g) tz D0 σ H := x_asgG (D0 := { D0 with nx := tz D0 }) a he hg q
theorem y_append (a : At B ρ μ τ σ H) (ho : ∀ τ σ H, At B ρ μ τ σ H → ∀ Q : VK, (∀ H', At B ρ μ τ σ H' → Q (.ref l) H') → ta σ H Q) (hm : μ[k]? = some (l, .lst ds)) (he : Xv B te ρ μ R) (hR : ∀ d μ', R d μ' → μ'[k]? = some (l, .lst ds)) (hz : ds.length < 100000)
    (q : ∀ d μ' H', R d μ' → At B ρ (μ'.set k (l, .lst (ds ++ [d]))) τ σ H' → tz D0 σ H') : tSeq (tDrop (tBM B.K "list" rAppend ta (tCons te tNil))) tz D0 σ H := x_append (D0 := { D0 with nx := tz D0 }) a ho hm he hR hz q
theorem y_for {wi : TI} {n : Nat} {f : Nat → D} {tb : TS} (a : At B ρ μ τ σ H) (hi : Ei B wi ρ μ n f) (Inv : Nat → Ro → Mu → Prop) (h0 : Inv 0 ρ μ)
    (hs : ∀ i ρ' μ' τ1 σ' H' v (Dn : Ends), i < n → Inv i ρ' μ' → (∀ p ∈ τ, p ∈ τ1) → At B ρ' μ' ((v, f i) :: τ1) σ' H' → (∀ ρ2 μ2 σ2 H2, Inv (i + 1) ρ2 μ2 → At B ρ2 μ2 τ1 σ2 H2 → Dn.nx σ2 H2) → (∀ ρ2 μ2 σ2 H2, Inv (i + 1) ρ2 μ2 → At B ρ2 μ2 τ1 σ2 H2 → Dn.ct σ2 H2) → Dn.bk = tz D0 → Dn.rt = D0.rt → g v σ' H' (tb Dn))
    (hd : ∀ ρ' μ' σ' H', Inv n ρ' μ' → At B ρ' μ' τ σ' H' → tz D0 σ' H') : tSeq (tFor wi g tb) tz D0 σ H := x_for (js := []) (D0 := { D0 with nx := tz D0 }) a hi Inv h0 hs hd
theorem RC.imp {r : List V → Hp → VK → Prop} {P P' : D → Prop} (h : RC B r ρ μ ds P) (k : ∀ d, P d → P' d) : RC B r ρ μ ds P' := fun τ σ H xs hl a Q q => h τ σ H xs hl a Q fun v H' d hd a' => q v H' d (k d hd) a'
theorem RD.imp {r : R2} {d1 d2 : D} {P P' : D → Prop} (h : RD B r ρ μ d1 d2 P) (k : ∀ d, P d → P' d) : RD B r ρ μ d1 d2 P' := fun τ σ H x y a Q q => h τ σ H x y a Q fun v H' d hd a' => q v H' d (k d hd) a'
theorem Ea.imp {t : TA} {P P' : List D → Prop} (h : Ea B t ρ μ P) (k : ∀ d, P d → P' d) : Ea B t ρ μ P' := fun τ σ H a Q q => h τ σ H a Q fun vs H' ds hd => q vs H' ds (k ds hd)
theorem ea1P (h : Ev B ta ρ μ P) : Ea B (tCons ta tNil) ρ μ (fun ds => ∃ d, ds = [d] ∧ P d) := ea_cons h fun d hd => ea_nil.imp fun ds e => ⟨d, by rw [e], hd⟩
theorem ea2P {d1 : D} (h1 : Ed B ta ρ μ d1) (h : Ev B tb ρ μ P) : Ea B (tCons ta (tCons tb tNil)) ρ μ (fun ds => ∃ d, ds = [d1, d] ∧ P d) := ea_cons h1 fun e he => (ea1P h).imp fun ds ⟨d, e1, e2⟩ => ⟨d, by rw [e1, he], e2⟩
theorem x_retCell {k : Nat} {p : Addr} (a : At B ρ ((p, .lst ds) :: μ) τ σ H) (h : ρ[k]? = some (some (.raw (.ref p)))) (q : At B ρ μ ((.ref p, .lst ds) :: τ) σ H → D0.rt (.ref p) H) : tRet (tVar k) D0 σ H := by
  obtain ⟨v, h1, h2⟩ := a.var h
  obtain ⟨G, g, hv⟩ := h2.top
  exact ⟨v, h1, by rw [show v = V.ref p from hv]; exact q a.freeze⟩
/-- for with a name as its target -/
theorem x_forN {wi : TI} {n : Nat} {f : Nat → D} {tb : TS} (a : At B ρ μ τ σ H) (hi : Ei B wi ρ μ n f) (Inv : Nat → Ro → Mu → Prop) (h0 : Inv 0 ρ μ)
    (hs : ∀ i ρ' μ' τ1 σ' H' (Dn : Ends), i < n → Inv i ρ' μ' → At B (ρ'.set k (some (f i))) μ' τ1 σ' H' → (∀ ρ2 μ2 σ2 H2, Inv (i + 1) ρ2 μ2 → At B ρ2 μ2 τ1 σ2 H2 → Dn.nx σ2 H2) → (∀ ρ2 μ2 σ2 H2, Inv (i + 1) ρ2 μ2 → At B ρ2 μ2 τ1 σ2 H2 → Dn.ct σ2 H2) → Dn.bk = D0.nx → Dn.rt = D0.rt → tb Dn σ' H')
    (hd : ∀ ρ' μ' σ' H', Inv n ρ' μ' → At B ρ' μ' τ σ' H' → D0.nx σ' H') : tFor wi (gName k) tb D0 σ H := x_for (js := []) a hi Inv h0 (fun i ρ' μ' τ1 σ' H' v Dn hi hI hsub a1 h1 h2 h3 h4 => hs i ρ' μ' τ1 _ H' Dn hi hI (a1.set k) h1 h2 h3 h4) hd
theorem y_forN {wi : TI} {n : Nat} {f : Nat → D} {tb : TS} (a : At B ρ μ τ σ H) (hi : Ei B wi ρ μ n f) (Inv : Nat → Ro → Mu → Prop) (h0 : Inv 0 ρ μ)
    (hs : ∀ i ρ' μ' τ1 σ' H' (Dn : Ends), i < n → Inv i ρ' μ' → At B (ρ'.set k (some (f i))) μ' τ1 σ' H' → (∀ ρ2 μ2 σ2 H2, Inv (i + 1) ρ2 μ2 → At B ρ2 μ2 τ1 σ2 H2 → Dn.nx σ2 H2) → (∀ ρ2 μ2 σ2 H2, Inv (i + 1) ρ2 μ2 → At B ρ2 μ2 τ1 σ2 H2 → Dn.ct σ2 H2) → Dn.bk = tz D0 → Dn.rt = D0.rt → tb Dn σ' H')
    (hd : ∀ ρ' μ' σ' H', Inv n ρ' μ' → At B ρ' μ' τ σ' H' → tz D0 σ' H') : tSeq (tFor wi (gName k) tb) tz D0 σ H := x_forN (D0 := { D0 with nx := tz D0 }) a hi Inv h0 hs hd
/-- for over range(e), e any -/
theorem y_forRP {te : TE} {tb : TS} {Pi : Int → Prop} (a : At B ρ μ τ σ H) (he : Ev B te ρ μ fun d => ∃ i : Int, d = .int i ∧ Pi i) (hb : ∀ i, Pi i → -(2 ^ 62) ≤ i ∧ i < 2 ^ 62) (Inv : Int → Nat → Ro → Mu → Prop) (h0 : ∀ m, Pi m → Inv m 0 ρ μ)
    (hs : ∀ (m : Int) i ρ' μ' τ1 σ' H' (Dn : Ends), Pi m → i < m.toNat → Inv m i ρ' μ' → At B (ρ'.set k (some (.int i))) μ' τ1 σ' H' → (∀ ρ2 μ2 σ2 H2, Inv m (i + 1) ρ2 μ2 → At B ρ2 μ2 τ1 σ2 H2 → Dn.nx σ2 H2) → (∀ ρ2 μ2 σ2 H2, Inv m (i + 1) ρ2 μ2 → At B ρ2 μ2 τ1 σ2 H2 → Dn.ct σ2 H2) → Dn.bk = tz D0 → Dn.rt = D0.rt → tb Dn σ' H')
    (hd : ∀ (m : Int) ρ' μ' σ' H', Pi m → Inv m m.toNat ρ' μ' → At B ρ' μ' τ σ' H' → tz D0 σ' H') : tSeq (tFor (iRng1 (tCons te tNil)) (gName k) tb) tz D0 σ H := by
  refine he.go a fun v H1 d hd' a1 => ?_
  obtain ⟨m, rfl, hm⟩ := hd'
  obtain ⟨G, g, hv⟩ := a1.top
  have hv' : v = V.int m := hv
  subst hv'
  exact y_forN (wi := iRng1 (tCons (tC (.int m)) tNil)) (tz := tz) (D0 := D0) ⟨G, g⟩ (ei_rng1 (ead_cons ed_int ea_nil) (hb m hm)) (Inv m) (h0 m hm) (fun i ρ' μ' τ1 σ' H' Dn hi hI a1 h1 h2 h3 h4 => hs m i ρ' μ' τ1 σ' H' Dn hm hi hI a1 h1 h2 h3 h4) fun ρ' μ' σ' H' hI a2 => hd m ρ' μ' σ' H' hm hI a2
theorem y_cut {M : L2.St → Hp → Prop} (h : t1 { D0 with nx := M } σ H) (q : ∀ σ' H', M σ' H' → tz D0 σ' H') : C8.tCut t1 tz D0 σ H := ⟨M, h, q⟩
theorem y_putDraws {K : PySem.W.Frag} {dk l : Addr} {k j : Nat} {G0 H0 : Hp} (a : At (Bd K dk l k G0 H0) ρ μ τ σ H) (h : ρ[j]? = some (some (.raw (.ref dk)))) (he : Ev (Bd K dk l k G0 H0) te ρ μ (fun d => ∃ z, d = .int z)) (q : ∀ H', At (Bd K dk l k G0 H0) ρ μ τ σ H' → tz D0 σ H') : tSeq (sDPut (tVar j) (tC (.str "draws")) te) tz D0 σ H := x_putDraws (D0 := { D0 with nx := tz D0 }) a h he q
theorem y_popLeft {K : PySem.W.Frag} {dk l : Addr} {k i j : Nat} {G0 H0 : Hp} (a : At (Bd K dk l (k + 1) G0 H0) ρ μ τ σ H) (h : ρ[j]? = some (some (.raw (.ref dk)))) (hne : ∃ ns : List Int, H l = some (.lst (ns.map V.int)) ∧ ns ≠ [])
    (q : ∀ c σ' H', At (Bd K dk l k G0 H0) (ρ.set i (some (.int c))) μ τ σ' H' → tz D0 σ' H') : tSeq (tAsg (tBM0 K "list" rPop (tDGet (tVar j) (tC (.str "left")))) (gName i)) tz D0 σ H := x_popLeft (D0 := { D0 with nx := tz D0 }) a h hne q
theorem y_appLeft {K : PySem.W.Frag} {dk l : Addr} {k j : Nat} {G0 H0 : Hp} (a : At (Bd K dk l k G0 H0) ρ μ τ σ H) (h : ρ[j]? = some (some (.raw (.ref dk)))) (he : Ev (Bd K dk l k G0 H0) te ρ μ (fun d => ∃ z, d = .int z)) (hk : k < 100000)
    (q : ∀ H', At (Bd K dk l (k + 1) G0 H0) ρ μ τ σ H' → tz D0 σ H') : tSeq (tDrop (tBM K "list" rAppend (tDGet (tVar j) (tC (.str "left"))) (tCons te tNil))) tz D0 σ H := x_appLeft (D0 := { D0 with nx := tz D0 }) a h he hk q
end
end Cal


namespace Cal
open PySem PySem.Spec PyProof.Rows L2
/-! ### a list of lists that change -/
section
variable {B : Bs} {ρ ρ' : Ro} {μ μ' : Mu} {τ : List (V × D)} {σ σ2 : L2.St} {H : Hp} {ta tb tc te tx : TE} {tt tu : TT} {P : D → Prop} {d : D} {R : D → Mu → Prop} {b : Bool} {p l : Addr} {ds es : List D} {D0 : Ends} {ts t1 t2 tz : TS} {g : TG} {k : Nat} {v : V}
theorem At.perm (a : At B ρ μ τ σ H) (h : μ'.Perm μ) : At B ρ μ' τ σ H := by
  obtain ⟨G, g⟩ := a
  exact ⟨G, { g with cells := fun q hq => g.cells q (h.mem_iff.mp hq), nd := (h.map _).nodup_iff.mpr g.nd }⟩
def rr (l : Addr) : D := .raw (.ref l)
def rowsMu (ls : List Addr) (rows : List (List D)) : Mu := List.zipWith (fun l r => (l, Cl.lst r)) ls rows
/-- for over the items of a tuple that some call hands back -/
def EiAt (B : Bs) (wi : TI) (ρ : Ro) (μ : Mu) (n : Nat) (f : Nat → D) (τ : List (V × D)) (σ : L2.St) (H : Hp) : Prop := ∀ Rr : It → Hp → Prop,
  (∀ J H1 τ1, (∀ p ∈ τ, p ∈ τ1) → At B ρ μ τ1 σ H1 → (∀ i ρ' μ' τ' σ' H', (∀ p ∈ τ1, p ∈ τ') → At B ρ' μ' τ' σ' H' → (n ≤ i → J.stop i H') ∧ (i < n → J.go i H' ∧ ∀ x H2, J.yld i H' x H2 → At B ρ' μ' ((x, f i) :: τ') σ' H2)) → Rr J H1) → wi σ H Rr
theorem x_forAt {wi : TI} {n : Nat} {f : Nat → D} {tb : TS} (hi : EiAt B wi ρ μ n f τ σ H) (Inv : Nat → Ro → Mu → Prop) (h0 : Inv 0 ρ μ)
    (hs : ∀ i ρ' μ' τ1 σ' H' (Dn : Ends), i < n → Inv i ρ' μ' → (∀ p ∈ τ, p ∈ τ1) → At B (ρ'.set k (some (f i))) μ' τ1 σ' H' → (∀ ρ2 μ2 σ2 H2, Inv (i + 1) ρ2 μ2 → At B ρ2 μ2 τ1 σ2 H2 → Dn.nx σ2 H2) → (∀ ρ2 μ2 σ2 H2, Inv (i + 1) ρ2 μ2 → At B ρ2 μ2 τ1 σ2 H2 → Dn.ct σ2 H2) → Dn.bk = D0.nx → Dn.rt = D0.rt → tb Dn σ' H')
    (hd : ∀ ρ' μ' σ' H', Inv n ρ' μ' → At B ρ' μ' τ σ' H' → D0.nx σ' H') : tFor wi (gName k) tb D0 σ H := hi _ fun J H1 τ1 hsub a1 hJ => by
  refine ⟨fun i m σ H => m = n - i ∧ i ≤ n ∧ ∃ ρ' μ', Inv i ρ' μ' ∧ At B ρ' μ' τ1 σ H, ⟨n, by omega, by omega, ρ, μ, h0, a1⟩, fun i m σ2 H2 hW => ?_⟩
  obtain ⟨rfl, hin, ρ', μ', hI, a2⟩ := hW
  obtain ⟨s1, s2⟩ := hJ i ρ' μ' τ1 σ2 H2 (fun _ z => z) a2
  by_cases hlt : i < n
  · obtain ⟨s3, s4⟩ := s2 hlt
    refine .inr ⟨s3, fun σ3 H3 => ∃ ρ' μ', Inv (i + 1) ρ' μ' ∧ At B ρ' μ' τ1 σ3 H3, fun σ3 H3 ⟨ρ3, μ3, i3, a3⟩ => ⟨n - (i + 1), by omega, rfl, hlt, ρ3, μ3, i3, a3⟩, fun x H3 hy => ?_⟩
    exact hs i ρ' μ' τ1 _ H3 { D0 with nx := fun σ3 H3 => ∃ ρ' μ', Inv (i + 1) ρ' μ' ∧ At B ρ' μ' τ1 σ3 H3, ct := fun σ3 H3 => ∃ ρ' μ', Inv (i + 1) ρ' μ' ∧ At B ρ' μ' τ1 σ3 H3, bk := D0.nx } hlt hI hsub ((s4 x H3 hy).set k) (fun ρ2 μ2 σ2 H2 i2 a2 => ⟨ρ2, μ2, i2, a2⟩) (fun ρ2 μ2 σ2 H2 i2 a2 => ⟨ρ2, μ2, i2, a2⟩) rfl rfl
  · have e : i = n := by omega
    subst e
    exact .inl ⟨s1 (Nat.le_refl _), hd ρ' μ' σ2 H2 hI (a2.sub hsub)⟩
theorem eiAt_tup (a1 : At B ρ μ ((v, .tup ds) :: τ) σ H) : EiAt B (iTup B.K (fun σ H Q => Q v H)) ρ μ ds.length (fun i => ds.getD i .non) τ σ H := fun Rr q => by
  obtain ⟨G, g, p, vs, rfl, e, k⟩ := id a1.top
  refine ⟨p, rfl, ⟨vs, .inl (.inl (g.sub _ _ e))⟩, q _ H _ (fun z hz => List.mem_cons_of_mem _ hz) a1 fun i ρ' μ' τ' σ' H' hsub a2 => ?_⟩
  obtain ⟨G2, g2⟩ := a2
  obtain ⟨p', vs', e', e2, k2⟩ := g2.temps _ (hsub _ (List.mem_cons_self ..))
  cases e'
  have e3 : SqT B.K H' p vs' := .inl (.inl (g2.sub _ _ e2))
  refine ⟨fun hi => ⟨vs', e3, by rw [k2.length]; exact hi⟩, fun hi => ?_⟩
  obtain ⟨x, hx, dx⟩ := k2.get (getD_of hi)
  refine ⟨⟨vs', x, e3, hx⟩, fun y H2 hy => ?_⟩
  obtain ⟨rfl, hy⟩ := hy
  have ey : x = y := Option.some.inj (hx.symm.trans (hy vs' e3))
  subst ey
  exact ⟨G2, g2.push dx⟩
theorem x_forTP {tb : TS} {Pd : List D → Prop} (a : At B ρ μ τ σ H) (he : Ev B te ρ μ fun d => ∃ ds, d = .tup ds ∧ Pd ds) (Inv : List D → Nat → Ro → Mu → Prop) (h0 : ∀ ds, Pd ds → Inv ds 0 ρ μ)
    (hs : ∀ (ds : List D) i ρ' μ' τ1 σ' H' (Dn : Ends), Pd ds → i < ds.length → Inv ds i ρ' μ' → (∀ p ∈ τ, p ∈ τ1) → At B (ρ'.set k (some (ds.getD i .non))) μ' τ1 σ' H' → (∀ ρ2 μ2 σ2 H2, Inv ds (i + 1) ρ2 μ2 → At B ρ2 μ2 τ1 σ2 H2 → Dn.nx σ2 H2) → (∀ ρ2 μ2 σ2 H2, Inv ds (i + 1) ρ2 μ2 → At B ρ2 μ2 τ1 σ2 H2 → Dn.ct σ2 H2) → Dn.bk = D0.nx → Dn.rt = D0.rt → tb Dn σ' H')
    (hd : ∀ (ds : List D) ρ' μ' σ' H', Pd ds → Inv ds ds.length ρ' μ' → At B ρ' μ' τ σ' H' → D0.nx σ' H') : tFor (iTup B.K te) (gName k) tb D0 σ H := by
  refine he.go a fun v H1 d hd' a1 => ?_
  obtain ⟨ds, rfl, hds⟩ := hd'
  exact x_forAt (D0 := D0) (eiAt_tup a1) (Inv ds) (h0 ds hds) (fun i ρ' μ' τ1 σ' H' Dn hi hI hsub a1 h1 h2 h3 h4 => hs ds i ρ' μ' τ1 σ' H' Dn hds hi hI hsub a1 h1 h2 h3 h4) fun ρ' μ' σ' H' hI a2 => hd ds ρ' μ' σ' H' hds hI a2
theorem tYes_if {A C : Hp → Prop} (h : A H) : tYes σ H fun b H3 => if b = true then A H3 else C H3 := by
  show (if true = true then A H else C H)
  rw [if_pos rfl]
  exact h
/-- [[] for .. in range(n)]: so many new lists -/
theorem xl_rows {t : TA} {vs : List Nat} {n : Int} (h : Ea B t ρ μ (fun es => es = [.int n])) (hn : 0 ≤ n ∧ n ≤ 1000) (hk : k ∈ vs) :
    Xv B (tLc (iRng1 t) (gName k) tYes (tLst tNil) vs) ρ μ fun d μ' => ∃ p ls, ls.length = n.toNat ∧ d = rr p ∧ μ' = (p, .lst (ls.map rr)) :: (rowsMu ls (ls.map fun _ => []) ++ μ) := fun τ σ H a Q q => (ei_rng1 h ⟨by omega, by omega⟩) (sv ρ σ ++ τ) σ H a.save _ fun J H1 τ1 hsub a1 hJ Dl hD => by
  have hf := a.fits
  refine ⟨fun i m H => m = n.toNat - i ∧ i ≤ n.toNat ∧ ∃ ls : List Addr, ls.length = i ∧ At B ρ ((Dl, .lst (ls.map rr)) :: (rowsMu ls (ls.map fun _ => []) ++ μ)) τ1 σ H, ⟨n.toNat, by omega, Nat.zero_le _, [], rfl, (At.newCell (c := .lst []) (o := .lst []) a1 hD fun G _ => ⟨[], upd_same, rfl⟩).1⟩, fun i m H2 hW => ?_⟩
  obtain ⟨rfl, hin, ls, hls, a2⟩ := hW
  obtain ⟨s1, s2⟩ := hJ i ρ _ τ1 σ H2 (fun _ z => z) a2
  by_cases hlt : i < n.toNat
  · obtain ⟨s3, s4⟩ := s2 hlt
    refine .inr ⟨s3, fun H => ∃ ls : List Addr, ls.length = i + 1 ∧ At B ρ ((Dl, .lst (ls.map rr)) :: (rowsMu ls (ls.map fun _ => []) ++ μ)) τ1 σ H, fun H' ⟨ls, h1, h2⟩ => ⟨n.toNat - (i + 1), by omega, rfl, hlt, ls, h1, h2⟩, fun x H3 hy => ?_⟩
    refine gd_name k τ1 (wipe σ vs) H3 x (At.wiped (s4 x H3 hy) vs) _ fun σ' a3 hl3 hk3 => ⟨wipe_ext (js := [k]) (fun z hz => by rw [List.mem_singleton.mp hz]; exact hk) hl3 hk3, ?_⟩
    refine tYes_if ?_
    refine ⟨Nat.zero_le _, fun p hp => ?_⟩
    obtain ⟨a4, hnew⟩ := At.newCell (c := .lst []) (o := .lst []) a3 hp fun G _ => ⟨[], upd_same, rfl⟩
    obtain ⟨G, g5, us, e5, k5⟩ := a4.cell (j := 1) rfl
    refine ⟨us, e5, by rw [k5.length, List.length_map, hls]; exact Nat.lt_of_lt_of_le hlt (Nat.le_trans (by omega : n.toNat ≤ 1000) (by decide)), ls ++ [p], by rw [List.length_append, hls]; rfl, ?_⟩
    have a6 := At.write (j := 1) (c' := .lst (ls.map rr ++ [rr p])) (o := .lst (us ++ [.ref p])) a4 rfl fun G k1 ⟨vs6, e6, k6⟩ => by
      rw [e5] at e6
      cases e6
      exact ⟨_, upd_same, k6.append ⟨.ref p, [], rfl, rfl, rfl⟩⟩
    refine At.restore hf (At.perm a6 ?_) fun q hq => hsub q (List.mem_append_left _ hq)
    have e7 : rowsMu (ls ++ [p]) ((ls ++ [p]).map fun _ => []) = rowsMu ls (ls.map fun _ => []) ++ [(p, .lst [])] := by
      unfold rowsMu
      rw [List.map_append, List.zipWith_append (by rw [List.length_map])]
      rfl
    rw [e7, List.map_append]
    show List.Perm ((Dl, Cl.lst (ls.map rr ++ [rr p])) :: (rowsMu ls (ls.map fun _ => []) ++ [(p, Cl.lst [])] ++ μ)) ((p, Cl.lst []) :: (Dl, Cl.lst (ls.map rr ++ [rr p])) :: (rowsMu ls (ls.map fun _ => []) ++ μ))
    refine (List.Perm.cons _ ?_).trans (List.Perm.swap _ _ _)
    rw [List.append_assoc]
    exact List.perm_middle
  · have e : i = n.toNat := by omega
    subst e
    refine .inl ⟨s1 (Nat.le_refl _), ?_⟩
    exact q _ H2 _ _ ⟨Dl, ls, hls, rfl, rfl⟩ (At.flat (a2.sub fun z hz => hsub z (List.mem_append_right _ hz)) fun _ => rfl)
/-- a name that is a cell, by what an expression says -/
theorem ho_of {te : TE} (h : Ed B te ρ μ (rr l)) : ∀ τ σ H, At B ρ μ τ σ H → ∀ Q : VK, (∀ H', At B ρ μ τ σ H' → Q (.ref l) H') → te σ H Q := fun τ σ H a Q q => h.go a fun v H' d hd a1 => by
  subst hd
  obtain ⟨G, g, hv⟩ := a1.top
  rw [show v = V.ref l from hv]
  exact q H' ⟨G, g⟩
theorem rowsMu_get {ls : List Addr} {rows : List (List D)} {i : Nat} {r : List D} (h1 : ls[i]? = some l) (h2 : rows[i]? = some r) : (rowsMu ls rows)[i]? = some (l, .lst r) := by
  unfold rowsMu
  rw [List.getElem?_zipWith, h1, h2]
theorem rowsMu_set {ls : List Addr} {rows : List (List D)} {i : Nat} {r : List D} (h1 : ls[i]? = some l) : (rowsMu ls rows).set i (l, .lst r) = rowsMu ls (rows.set i r) := by
  unfold rowsMu
  refine List.ext_getElem? fun j => ?_
  by_cases hj : i = j
  · subst hj
    rw [List.getElem?_zipWith, h1]
    by_cases hl : i < rows.length
    · rw [List.getElem?_set_self hl, List.getElem?_set_self]
      rw [List.length_zipWith]
      have := (List.getElem?_eq_some_iff.mp h1).1
      omega
    · rw [List.getElem?_eq_none (by rw [List.length_set, List.length_zipWith]; omega), List.getElem?_eq_none (l := rows.set i r) (by rw [List.length_set]; omega)]
  · rw [List.getElem?_set_ne hj, List.getElem?_zipWith, List.getElem?_zipWith, List.getElem?_set_ne hj]
/-- all rows and the list of them change no more -/
theorem freeze_rows : ∀ (ls : List Addr) (rows : List (List D)) {μ : Mu} {τ : List (V × D)}, ls.length = rows.length → At B ρ (rowsMu ls rows ++ μ) τ σ H → At B ρ μ ((List.zipWith (fun l r => (V.ref l, D.lst r)) ls rows).reverse ++ τ) σ H
  | [], [], μ, τ, _, a => a
  | [], r :: rows, μ, τ, h, _ => by simp at h
  | l :: ls, [], μ, τ, h, _ => by simp at h
  | l :: ls, r :: rows, μ, τ, h, a => by
    have a1 : At B ρ ((l, .lst r) :: (rowsMu ls rows ++ μ)) τ σ H := a
    have a2 := freeze_rows ls rows (by simpa using h) a1.freeze
    rw [List.zipWith_cons_cons, List.reverse_cons, List.append_assoc]
    exact a2
theorem freezeAll {ls : List Addr} {rows : List (List D)} (h : ls.length = rows.length) (a : At B ρ ((p, .lst (ls.map rr)) :: (rowsMu ls rows ++ μ)) τ σ H) : At B ρ μ ((.ref p, .lst (rows.map .lst)) :: τ) σ H := by
  have a1 := freeze_rows ls rows h (μ := (p, .lst (ls.map rr)) :: μ) (At.perm a List.perm_middle)
  have a2 := a1.freeze
  obtain ⟨G, g, p', vs, e1, e2, k2⟩ := id a2.top
  cases e1
  refine ⟨G, AtG.push { g with temps := fun q hq => g.temps q (List.mem_append_right _ hq) } ⟨p, vs, rfl, e2, ?_⟩⟩
  have hd : ∀ (ls : List Addr) (rows : List (List D)) (vs : List V), ls.length = rows.length → (∀ q ∈ List.zipWith (fun l r => (V.ref l, D.lst r)) ls rows, Dt B.K G q.2 q.1) → DtA B.K G (ls.map rr) vs → DtA B.K G (rows.map .lst) vs := by
    intro ls
    induction ls with
    | nil => intro rows vs h _ k; cases rows with
      | nil => exact k
      | cons r rows => simp at h
    | cons l ls ih => intro rows vs h k1 k; cases rows with
      | nil => simp at h
      | cons r rows =>
        obtain ⟨v, rest, rfl, hv, hr⟩ := k
        have hv' : v = V.ref l := hv
        subst hv'
        exact ⟨_, rest, rfl, k1 (V.ref l, D.lst r) (List.mem_cons_self ..), ih rows rest (by simpa using h) (fun q hq => k1 q (List.mem_cons_of_mem _ hq)) hr⟩
  exact hd ls rows vs h (fun q hq => g.temps q (List.mem_append_left _ (List.mem_reverse.mpr hq))) k2
/-- a slot told anew: what it holds is data now -/
theorem At.reslot {d : D} (a : At B ρ μ ((v, d) :: τ) σ H) (h : ρ[k]? = some (some (.raw v))) : At B (ρ.set k (some d)) μ τ σ H := by
  have a2 := a.set k
  obtain ⟨u, h1, h2⟩ := a.pop.var h
  obtain ⟨G, g, hv⟩ := h2.top
  have hv' : u = v := hv
  subst hv'
  have e : σ.set k (some u) = σ := by
    refine List.ext_getElem? fun i => ?_
    by_cases hi : k = i
    · subst hi
      rw [h1, List.getElem?_set_self (List.getElem?_eq_some_iff.mp h1).1]
    · rw [List.getElem?_set_ne hi]
  rw [e] at a2
  exact a2
end
end Cal


namespace Cal
open PySem PySem.Spec PyProof.Rows L2 HT
section
variable {M : Model} {prog : Program} {w : World} {A : Around} {E : Value → Shared → Prop} {s : Shared}
theorem sliceApplied_rev {sl : Addr} {vs : Value} {n : Nat} {Q : Int × Int × Nat → Shared → Prop} (hs : s.heap.IsSliceOf sl .none .none vs) (ps : IsPart vs (some (-1))) (h : Q ((n : Int) - 1, -1, n) s) : wpAny (model prog w) A (Builtin.Slice.sliceApplied (.ref sl) (pure (n : Int))) Q E s := by
  obtain ⟨os, hos, hcs, hds⟩ := id hs
  unfold Builtin.Slice.sliceApplied Builtin.Slice.sliceFields
  refine wpAny_bind (wpAny_bind (wpAny_field hos hds (x := .none) rfl (wpAny_bind (wpAny_field hos hds (x := .none) rfl (wpAny_bind (wpAny_field hos hds (x := vs) rfl (wpAny_pure ?_)))))))
  refine wpAny_bind (slicePart_ ps ?_)
  show wpAny _ _ (if ((-1 : Int) == 0) = true then _ else _) _ _ s
  rw [if_neg (by decide)]
  refine wpAny_bind (slicePart_ .none (wpAny_bind (slicePart_ .none (wpAny_bind (wpAny_pure ?_)))))
  show wpAny _ _ (pure ((n : Int) - 1, (-1 : Int), Builtin.Slice.slicePlaces ((n : Int) - 1) (-1) (-1))) _ _ s
  have e : Builtin.Slice.slicePlaces ((n : Int) - 1) (-1) (-1) = n := by
    unfold Builtin.Slice.slicePlaces
    have h1 : ¬ ((-1 : Int) > 0) := by decide
    simp only [h1, if_false]
    split
    · rw [show (-(-1) : Int) = 1 by decide, Int.ediv_one]; omega
    · omega
  rw [e]
  exact wpAny_pure h
theorem pick_rev (xs : Array Value) : ((List.range xs.size).filterMap fun (m : Nat) => xs[((xs.size : Int) - 1 + (m : Int) * -1).toNat]?).toArray = xs.toList.reverse.toArray := by
  congr 1
  have e1 : (List.range xs.size).filterMap (fun (m : Nat) => xs[((xs.size : Int) - 1 + (m : Int) * -1).toNat]?) = ((List.range xs.size).map fun (m : Nat) => ((xs.size : Int) - 1 + (m : Int) * -1).toNat).filterMap (xs[·]?) := by
    rw [List.filterMap_map]; rfl
  have e2 : (List.range xs.size).map (fun (m : Nat) => ((xs.size : Int) - 1 + (m : Int) * -1).toNat) = (List.range xs.size).map fun k => xs.size - 1 - k :=
    List.map_congr_left fun m hm => by
      have := List.mem_range.mp hm
      omega
  rw [e1, e2, PySem.W.krv_range, List.filterMap_reverse, PySem.W.krv_all]
theorem getItem_tuple_rev {t sl : Addr} {items : Array Value} {vs : Value} {Q : Value → Shared → Prop} (ht : IsTup s.heap t items) (hs : s.heap.IsSliceOf sl .none .none vs) (ps : IsPart vs (some (-1)))
    (h : Q (.ref s.heap.objs.size) { s with heap := s.heap.push { cls := .type "tuple", data := .seq items.toList.reverse.toArray } })
    (hsz : items.size ≤ sizeLine) : wpAny (model prog w) A (getItem (.ref t) (.ref sl)) Q E s := by
  have htake : sizeOk (.seq items.toList.reverse.toArray) := by
    show items.toList.reverse.toArray.size ≤ sizeLine
    rw [List.size_toArray, List.length_reverse, Array.length_toList]
    exact hsz
  obtain ⟨os, hos, hcs, hds⟩ := id hs
  have hTs : s.TypeIs (.ref sl) "slice" := ⟨os, hos, hcs⟩
  unfold getItem
  try with_reducible refine wpAny_holding ?_
  first | refine wpAny_bind (wpAny_pure ?_) | skip
  refine wpAny_bind (wpAny_sequenceKey ht.typeIs (by decide) ?_)
  refine wpAny_bind (wpAny_callSpecial?_slot (name := Str.ofString "__getitem__") ht.typeIs PyProof.Rows.slot_tuple_getitem
    (wpAny_call_entry PyProof.Rows.slot_tuple_getitem ht.typeIs entry_tuple_getitem ?_ (args_tuple_getitem _ _)))
  show wpAny _ _ (Builtin.Tuple.tupleItemsOf (.ref t) >>= _) _ _ s
  refine wpAny_bind (tupleItemsOf_ ht ?_)
  refine wpAny_bind (wpAny_typeOf hTs ?_)
  rw [if_pos (by decide)]
  refine wpAny_bind (sliceApplied_rev hs ps ?_)
  have hno : ¬ ((((items.size : Int) - 1) == 0 && (-1 : Int) == 1 && items.size == items.size) = true) := by
    intro q
    rw [Bool.and_eq_true, Bool.and_eq_true] at q
    exact absurd q.1.2 (by decide)
  show wpAny _ _ (if (((items.size : Int) - 1) == 0 && (-1 : Int) == 1 && items.size == items.size) = true then _ else _) _ _ s
  rw [if_neg hno, pick_rev]
  first
    | exact wpAny_bind (m := Builtin.Tuple.tupleExact _) (wpAny_newObj_type (wpAny_pure ⟨_, rfl, wpAny_pure h⟩) htake)
    | exact wpAny_bind (m := Builtin.Tuple.tupleExact _) (wpAny_newObj_type (wpAny_bind (wpAny_pure (wpAny_pure ⟨_, rfl, wpAny_pure h⟩))) htake)
    | exact wpAny_bind (wpAny_bind (m := Builtin.Tuple.tupleExact _) (wpAny_newObj_type (wpAny_pure (wpAny_pure ⟨_, rfl, wpAny_pure h⟩)) htake))
    | exact wpAny_bind (wpAny_bind (m := Builtin.Tuple.tupleExact _) (wpAny_newObj_type (wpAny_pure ⟨_, rfl, wpAny_pure h⟩) htake))
end
section
variable {X : Cx}
/-- t[::-1], t a tuple -/
def tRevT (K : PySem.W.Frag) (te : TE) : TE := fun σ H Q => te σ H fun x H1 => ∃ a xs, x = .ref a ∧ SqT K H1 a xs ∧ ∀ p, H1 p = none → Q (.ref p) (upd H1 p (.tup xs.reverse))
theorem pe_revT {e : Expr} {te : TE} {k : Nat} {p1 p2 p3 pos : Pos} (he : PE X e te) : PE X (.Subscript e (.Slice none none (some (.UnaryOp .USub (.Constant (.int 1) k p1) p2)) p3) pos) (tRevT X.K te) := by
  refine ⟨fun pins s σ H Q I h => ?_⟩
  refine Subscript_ (thn (he.run pins s σ H _ I h) fun v s1 ⟨x, H1, I1, r1, q1⟩ => ?_)
  obtain ⟨a, xs, ex, hx, q⟩ := q1
  subst ex
  cases r1
  have hst : PO X (some (.UnaryOp .USub (.Constant (.int 1) k p1) p2)) (tPart (tUn (rU fun i => .int (-i)) (tC (.int 1)))) := po_some (pe_un un_neg pe_int)
  refine wpAny_Slice (thn (po_none.run pins s1 σ H1 (fun o H2 => o = none ∧ H2 = H1) I1 ⟨rfl, rfl⟩) fun vl s2 ⟨l, H2, I2, pl, el, e2⟩ => ?_)
  subst el e2
  refine thn (po_none.run pins s2 σ H2 (fun o H3 => o = none ∧ H3 = H2) I2 ⟨rfl, rfl⟩) fun vu s3 ⟨u, H3, I3, pu, eu, e3⟩ => ?_
  subst eu e3
  refine thn (hst.run pins s3 σ H3 (fun o H4 => o = some (-1) ∧ H4 = H3) I3 ⟨1, rfl, -1, rfl, rfl, rfl⟩) fun vs s4 ⟨o, H4, I4, ps, eo, e4⟩ => ?_
  subst eo e4
  cases pl
  cases pu
  have I5 : Inv X pins σ H4 { s4 with heap := s4.heap.push { cls := .type "slice", data := .fields #[.none, .none, vs] } } := I4.kept (t' := s4.toks) fun b ob q => Heap.get?_push_of_some _ q
  obtain ⟨its, r, ht, hz⟩ := I5.tuple hx
  have hlen := r.length
  show wpAny (model X.prog X.w) X.A (subscriptTail e (.Slice none none (some (.UnaryOp .USub (.Constant (.int 1) k p1) p2)) p3) (.ref a) (.ref s4.heap.objs.size)) (EP X pins σ Q) X.xe { s4 with heap := s4.heap.push { cls := .type "slice", data := .fields #[.none, .none, vs] } }
  refine tail_any (ops := [.ref a, .ref s4.heap.objs.size]) ht.typeIs (PyProof.Rows.slot_tuple_getitem.lookup) ?_ (by with_unfolding_all rfl)
  refine getItem_tuple_rev ht (Heap.IsSliceOf.new _ .none .none vs) ps ?_ (by rw [List.size_toArray]; omega)
  refine ⟨.ref _, _, I5.laid (t' := s4.toks) (o := .tup xs.reverse) (fun b ob q => Heap.get?_push_of_some _ q) (Nat.le_refl _) ?_, rfl, q _ (I5.hok.fresh (Nat.le_refl _))⟩
  exact ⟨by rw [List.length_reverse]; omega, _, r.reverse, ⟨_, Heap.get?_push_size _ rfl, rfl, 0, rfl⟩⟩
end
end Cal


namespace Cal
open PySem PySem.Spec PyProof.Rows L2
/-! ### data that can be shown, and how long its text is -/
mutual
def okD : D → Bool
  | .non => true | .bl _ => true | .int i => decide (i.natAbs < 2 ^ 200) | .str s => PyData.strOk s | .raw _ => false
  | .lst ds => okA ds | .tup ds => okA ds | .dk kvs => kvs.isEmpty | .dt _ => false
def okA : List D → Bool
  | [] => true | d :: ds => okD d && okA ds
end
mutual
def wd : D → Nat
  | .non => 5 | .bl _ => 5 | .int _ => 210 | .str s => 10 * s.length + 2 | .raw _ => 0
  | .lst ds => wdA ds + 3 | .tup ds => wdA ds + 3 | .dk _ => 2 | .dt _ => 0
def wdA : List D → Nat
  | [] => 0 | d :: ds => wd d + 2 + wdA ds
end
mutual
def noD : D → Bool
  | .lst ds => noDA ds | .tup ds => noDA ds | .dk _ => false | .dt _ => false | _ => true
def noDA : List D → Bool
  | [] => true | d :: ds => noD d && noDA ds
end
mutual
def noL : D → Bool
  | .lst _ => false | .tup ds => noLA ds | _ => true
def noLA : List D → Bool
  | [] => true | d :: ds => noL d && noLA ds
end
theorem okA_app : ∀ (a b : List D), okA (a ++ b) = (okA a && okA b)
  | [], b => by simp [okA]
  | x :: a, b => by simp [okA, okA_app a b, Bool.and_assoc]
theorem noDA_app : ∀ (a b : List D), noDA (a ++ b) = (noDA a && noDA b)
  | [], b => by simp [noDA]
  | x :: a, b => by simp [noDA, noDA_app a b, Bool.and_assoc]
theorem noLA_app : ∀ (a b : List D), noLA (a ++ b) = (noLA a && noLA b)
  | [], b => by simp [noLA]
  | x :: a, b => by simp [noLA, noLA_app a b, Bool.and_assoc]
theorem wdA_app : ∀ (a b : List D), wdA (a ++ b) = wdA a + wdA b
  | [], b => by simp [wdA]
  | x :: a, b => by
    show wd x + 2 + wdA (a ++ b) = wd x + 2 + wdA a + wdA b
    rw [wdA_app a b]; omega
theorem depA_app : ∀ (a b : List D), depA (a ++ b) = max (depA a) (depA b)
  | [], b => by simp [depA]
  | x :: a, b => by
    show max (dep x) (depA (a ++ b)) = max (max (dep x) (depA a)) (depA b)
    rw [depA_app a b]; omega
theorem okA_all {ds : List D} (h : ∀ d ∈ ds, okD d = true) : okA ds = true := by
  induction ds with
  | nil => rfl
  | cons d r ih => simp [okA, h d (List.mem_cons_self ..), ih fun e he => h e (List.mem_cons_of_mem _ he)]
theorem noDA_all {ds : List D} (h : ∀ d ∈ ds, noD d = true) : noDA ds = true := by
  induction ds with
  | nil => rfl
  | cons d r ih => simp [noDA, h d (List.mem_cons_self ..), ih fun e he => h e (List.mem_cons_of_mem _ he)]
theorem noLA_all {ds : List D} (h : ∀ d ∈ ds, noL d = true) : noLA ds = true := by
  induction ds with
  | nil => rfl
  | cons d r ih => simp [noLA, h d (List.mem_cons_self ..), ih fun e he => h e (List.mem_cons_of_mem _ he)]
theorem okA_mem : ∀ {ds : List D}, okA ds = true → ∀ d ∈ ds, okD d = true
  | e :: r, h, d, hd => by
    have h' : okD e = true ∧ okA r = true := by simpa [okA] using h
    rcases List.mem_cons.mp hd with z | z
    · rw [z]; exact h'.1
    · exact okA_mem h'.2 d z
theorem wdA_mem : ∀ {ds : List D} {d : D}, d ∈ ds → wd d + 2 ≤ wdA ds
  | e :: r, d, hd => by
    unfold wdA
    rcases List.mem_cons.mp hd with z | z
    · rw [z]; omega
    · have := wdA_mem z; omega
theorem depA_mem : ∀ {ds : List D} {d : D}, d ∈ ds → dep d ≤ depA ds
  | e :: r, d, hd => by
    unfold depA
    rcases List.mem_cons.mp hd with z | z
    · rw [z]; omega
    · have := depA_mem z; omega
theorem wdA_len : ∀ ds : List D, 2 * ds.length ≤ wdA ds
  | [] => Nat.le_refl _
  | e :: r => by
    have := wdA_len r
    unfold wdA
    rw [List.length_cons]; omega
theorem wdA_le {ds : List D} {n : Nat} (h : ∀ d ∈ ds, wd d ≤ n) : wdA ds ≤ ds.length * (n + 2) := by
  induction ds with
  | nil => exact Nat.zero_le _
  | cons d r ih =>
    have h1 := h d (List.mem_cons_self ..)
    have h2 := ih fun e he => h e (List.mem_cons_of_mem _ he)
    unfold wdA
    rw [List.length_cons, Nat.succ_mul]; omega
theorem depA_le {ds : List D} {n : Nat} (h : ∀ d ∈ ds, dep d ≤ n) : depA ds ≤ n := by
  induction ds with
  | nil => exact Nat.zero_le _
  | cons d r ih =>
    have h1 := h d (List.mem_cons_self ..)
    have h2 := ih fun e he => h e (List.mem_cons_of_mem _ he)
    unfold depA
    omega
theorem sm_of : ∀ {d : D}, okD d = true → wd d ≤ 1000000 → Sm d
  | .non, _, _ => True.intro
  | .bl _, _, _ => True.intro
  | .int i, h, _ => by
    unfold okD at h
    show i.natAbs < 2 ^ 200
    exact of_decide_eq_true h
  | .str s, h, w => ⟨by have w' : 10 * s.length + 2 ≤ 1000000 := w; omega, by simpa only [okD] using h⟩
  | .raw _, h, _ => by simp [okD] at h
  | .dt _, h, _ => by simp [okD] at h
  | .dk kvs, h, _ => by
    have h' : kvs.isEmpty = true := by simpa only [okD] using h
    exact List.isEmpty_iff.mp h'
  | .lst ds, h, w => by
    have w' : wdA ds + 3 ≤ 1000000 := w
    have := wdA_len ds
    exact ⟨by omega, SmA.of fun d hd => sm_of (okA_mem (by simpa only [okD] using h) d hd) (by have := wdA_mem hd; omega)⟩
  | .tup ds, h, w => by
    have w' : wdA ds + 3 ≤ 1000000 := w
    have := wdA_len ds
    exact ⟨by omega, SmA.of fun d hd => sm_of (okA_mem (by simpa only [okD] using h) d hd) (by have := wdA_mem hd; omega)⟩
/-! ### its text -/
theorem lg_of {i : Int} (h : i.natAbs < 2 ^ 200) : i.natAbs.log2 < 201 := by
  by_cases h0 : i.natAbs = 0
  · rw [h0]; decide
  · exact Nat.lt_of_lt_of_le ((Nat.log2_lt h0).mpr h) (by decide)
mutual
theorem showable_py : ∀ d : D, okD d = true → (py d).showable = true
  | .non, _ => by simp [py, PyData.showable]
  | .bl b, _ => by simp [py, PyData.showable]
  | .int i, h => by
    have h' : i.natAbs < 2 ^ 200 := of_decide_eq_true (by simpa only [okD] using h)
    simp only [py, PyData.showable]
    exact decide_eq_true (Nat.lt_of_lt_of_le (lg_of h') (by decide))
  | .str s, h => by simp [py, PyData.showable]
  | .raw u, p => by simp [okD] at p
  | .lst ds, p => by simpa only [py, PyData.showable] using showable_pyA ds (by simpa only [okD] using p)
  | .tup ds, p => by simpa only [py, PyData.showable] using showable_pyA ds (by simpa only [okD] using p)
  | .dk ds, p => by simp [py, PyData.showable, PyData.showableKv]
  | .dt ds, p => by simp [okD] at p
theorem showable_pyA : ∀ ds : List D, okA ds = true → PyData.showableAll (pyA ds) = true
  | [], _ => by simp [pyA, PyData.showableAll]
  | d :: ds, p => by
    have p' : okD d = true ∧ okA ds = true := by simpa [okA] using p
    simp [pyA, PyData.showableAll, showable_py d p'.1, showable_pyA ds p'.2]
end
mutual
theorem hasDict_py : ∀ d : D, noD d = true → (py d).hasDict = false
  | .non, _ => by simp [py, PyData.hasDict]
  | .bl b, _ => by simp [py, PyData.hasDict]
  | .int i, h => by simp [py, PyData.hasDict]
  | .str s, h => by simp [py, PyData.hasDict]
  | .raw u, p => by simp [py, PyData.hasDict]
  | .lst ds, p => by simpa only [py, PyData.hasDict] using hasDict_pyA ds (by simpa only [noD] using p)
  | .tup ds, p => by simpa only [py, PyData.hasDict] using hasDict_pyA ds (by simpa only [noD] using p)
  | .dk ds, p => by simp [noD] at p
  | .dt ds, p => by simp [noD] at p
theorem hasDict_pyA : ∀ ds : List D, noDA ds = true → PyData.hasDictAll (pyA ds) = false
  | [], _ => by simp [pyA, PyData.hasDictAll]
  | d :: ds, p => by
    have p' : noD d = true ∧ noDA ds = true := by simpa [noDA] using p
    simp [pyA, PyData.hasDictAll, hasDict_py d p'.1, hasDict_pyA ds p'.2]
end
theorem listText_len (ts : List Str) : (listText ts).length ≤ piled ts + 3 := by
  cases ts with
  | nil => decide
  | cons t r =>
    have h := textFrom_length_pos r 1 (("[" : Str) ++ (if (0 : Nat) > 0 then ", " else "" : String) ++ t) (Nat.succ_pos 0)
    have e : ((("[" : Str) ++ (if (0 : Nat) > 0 then ", " else "" : String) ++ t)).length = 1 + t.length := by
      rw [strLen_append, strLen_append]; rfl
    show (textFrom 1 (("[" : Str) ++ (if (0 : Nat) > 0 then ", " else "" : String) ++ t) r ++ "]").length ≤ _
    rw [strLen_append, h, e, piled_cons]
    show 1 + t.length + piled r + 1 ≤ _
    omega
theorem tupleText_len (ts : List Str) : (tupleText ts).length ≤ piled ts + 3 := by
  unfold tupleText
  rw [strLen_append, strLen_append]
  have e1 : ((("(" : String) : Str)).length = 1 := rfl
  have e3 : (((if ts.length == 1 then ",)" else ")" : String) : Str)).length ≤ 2 := by split <;> decide
  rw [e1]
  by_cases h : ts = []
  · subst h
    have : (Str.join ", " ([] : List Str)).length = 0 := rfl
    rw [this]; omega
  · have := join_length_add ts h
    omega
mutual
theorem shown_len : ∀ d : D, okD d = true → (py d).shown.length ≤ wd d
  | .non, _ => by simp only [py, PyData.shown]; decide
  | .bl b, _ => by cases b <;> (simp only [py, PyData.shown]; decide)
  | .int i, h => by
    have h' : i.natAbs < 2 ^ 200 := of_decide_eq_true (by simpa only [okD] using h)
    simp only [py, PyData.shown, wd]
    have := int_text_length_le (a := i) (k := 201) (by decide) (lg_of h')
    have e : (Str.ofString (toString i)).length = (toString i).length := PySem.ofString_length _
    show (Str.ofString (toString i)).length ≤ 210
    rw [e]; omega
  | .str s, h => by
    simp only [py, PyData.shown, wd]
    refine StrLaws.reprText_len s fun c hc => ?_
    have h' : PyData.strOk s = true := by simpa only [okD] using h
    unfold PyData.strOk at h'
    have := Array.all_eq_true_iff_forall_mem.mp h' c (Array.mem_toList_iff.mp hc)
    have := of_decide_eq_true this
    omega
  | .raw u, p => by simp [okD] at p
  | .lst ds, p => by
    simp only [py, PyData.shown, wd]
    have := listText_len (PyData.shownAll (pyA ds))
    have := shown_lenA ds (by simpa only [okD] using p)
    omega
  | .tup ds, p => by
    simp only [py, PyData.shown, wd]
    have := tupleText_len (PyData.shownAll (pyA ds))
    have := shown_lenA ds (by simpa only [okD] using p)
    omega
  | .dk ds, p => by simp only [py, PyData.shown, PyData.shownKv, wd]; decide
  | .dt ds, p => by simp [okD] at p
theorem shown_lenA : ∀ ds : List D, okA ds = true → piled (PyData.shownAll (pyA ds)) ≤ wdA ds
  | [], _ => by simp [pyA, PyData.shownAll, piled_nil]
  | d :: ds, p => by
    have p' : okD d = true ∧ okA ds = true := by simpa [okA] using p
    have h1 := shown_len d p'.1
    have h2 := shown_lenA ds p'.2
    simp only [pyA, PyData.shownAll, wdA, piled_cons]
    omega
end
/-! ### read off the heap -/
section
variable {X : Cx} {pins : List (Addr × Obj)} {σ : L2.St} {H G : Hp} {s : Shared}
mutual
theorem Dt.rds (I : Inv X pins σ H s) (e : Same G H) : ∀ (d : D) {v : V} {u : Value}, okD d = true → Dt X.K G d v → RelV v u → ∃ as, Reads s.heap u (py d) as ∧ (noL d = true → sysModules ∉ as)
  | .non, _, _, _, h, r => by
    rw [show _ = V.non from h] at r
    cases r
    exact ⟨[], by simpa only [py] using Reads.none, fun _ => by simp⟩
  | .bl b, _, _, _, h, r => by
    rw [show _ = V.bl b from h] at r
    cases r
    exact ⟨[], by simpa only [py] using Reads.bool b, fun _ => by simp⟩
  | .int i, _, _, _, h, r => by
    rw [show _ = V.int i from h] at r
    obtain ⟨t, rfl⟩ := r
    exact ⟨[], by simpa only [py] using Reads.int i t, fun _ => by simp⟩
  | .str x, _, _, _, h, r => by
    rw [show _ = V.str x from h] at r
    obtain ⟨t, rfl⟩ := r
    exact ⟨[], by simpa only [py] using Reads.str x t, fun _ => by simp⟩
  | .raw u, _, _, p, _, _ => by simp [okD] at p
  | .dt u, _, _, p, _, _ => by simp [okD] at p
  | .lst ds, _, _, p, ⟨a, vs, h1, h2, h3⟩, r => by
    rw [h1] at r
    cases r
    obtain ⟨its, rv, ⟨o, n, ho, hc, _, hd⟩, _⟩ := I.list (xs := vs) (.inl (.inl (e _ _ h2)))
    obtain ⟨as, hr, _⟩ := DtA.rds I e ds (by simpa only [okD] using p) h3 rv
    exact ⟨_, by simpa only [py] using Reads.list ho hc hd hr, fun z => by simp [noL] at z⟩
  | .tup ds, _, _, p, ⟨a, vs, h1, h2, h3⟩, r => by
    rw [h1] at r
    cases r
    obtain ⟨its, rv, ⟨o, ho, hc, n, hd⟩, _⟩ := I.tuple (xs := vs) (.inl (.inl (e _ _ h2)))
    obtain ⟨as, hr, hz⟩ := DtA.rds I e ds (by simpa only [okD] using p) h3 rv
    exact ⟨_, by simpa only [py] using Reads.tuple ho hc hd hr, fun z => hz (by simpa only [noL] using z)⟩
  | .dk kvs, _, _, p, ⟨a, vs, h1, h2, h3⟩, r => by
    have pk : kvs = [] := List.isEmpty_iff.mp (by simpa only [okD] using p)
    subst pk
    rw [h1] at r
    cases r
    have hv : vs = [] := h3
    subst hv
    obtain ⟨_, hm, ws, kw, ⟨o, es, ep, g1, g2, g3, _, g4, _⟩⟩ := dk_of I.hok (e _ _ h2)
    have kw' : ws = [] := by cases kw; rfl
    subst kw'
    have ge : es.toList = [] := by
      have := g4.length
      exact List.eq_nil_of_length_eq_zero this
    refine ⟨[a], ?_, fun _ z => ?_⟩
    · simp only [py]
      have := Reads.dict (h := s.heap) (kvs := []) (as := []) (bs := []) g1 g2.1 g3 (by rw [ge]; exact .nil) (by rw [ge]; exact .nil)
      exact this
    · rw [← List.mem_singleton.mp z] at hm
      simp at hm
theorem DtA.rds (I : Inv X pins σ H s) (e : Same G H) : ∀ (ds : List D) {vs : List V} {us : List Value}, okA ds = true → DtA X.K G ds vs → Vals vs us → ∃ as, ReadsAll s.heap us (pyA ds) as ∧ (noLA ds = true → sysModules ∉ as)
  | [], _, _, _, h, r => by
    rw [show _ = [] from h] at r
    cases r
    exact ⟨_, by simpa only [pyA] using ReadsAll.nil, fun _ => by simp⟩
  | d :: ds, _, _, p, ⟨v, w, h1, h2, h3⟩, r => by
    have p' : okD d = true ∧ okA ds = true := by simpa [okA] using p
    rw [h1] at r
    cases r with
    | cons r1 r2 =>
      obtain ⟨as, q1, z1⟩ := Dt.rds I e d p'.1 h2 r1
      obtain ⟨bs, q2, z2⟩ := DtA.rds I e ds p'.2 h3 r2
      refine ⟨_, by simpa only [pyA] using ReadsAll.cons q1 q2, fun z => ?_⟩
      have z' : noL d = true ∧ noLA ds = true := by simpa [noLA] using z
      rw [List.mem_append, not_or]
      exact ⟨z1 z'.1, z2 z'.2⟩
end
end
end Cal


namespace Cal
open PySem PySem.Spec PyProof.Rows L2
/-! ### repr where no repr is under way -/
def rRp (K : PySem.W.Frag) : List V → Hp → VK → Prop := fun xs H Q => ∃ (v : V) (d : D) (G : Hp), xs = [v] ∧ Same G H ∧ Dt K G d v ∧ okD d = true ∧ (noD d = true ∨ noL d = true) ∧ wd d ≤ 1000000 ∧ dep d ≤ 20 ∧ Q (.str (py d).shown) H
theorem shown_fits {d : D} (h : okD d = true) (w : wd d ≤ 1000000) : (py d).shown.length ≤ sizeLine := Nat.le_trans (shown_len d h) (Nat.le_trans w (by decide))
theorem u_repr {X : Cx} (hg : X.A.guards = some []) (hu : X.A.units + 64 < cLine) : CallR X (.builtin "repr") (rRp X.K) := by
  intro pins s σ H xs us Q I r h
  obtain ⟨v, d, G, rfl, e, hd, ho, hn, hw, hp, q⟩ := h
  obtain ⟨u, rfl, rx⟩ := vals1 r
  have fl : ∀ tk u', EP X pins σ Q (.str (py d).shown u') { s with toks := tk } := fun tk u' => ⟨.str (py d).shown, H, I.kept (t' := tk) fun b o z => z, ⟨u', rfl⟩, q⟩
  obtain ⟨as, hr, hs⟩ := Dt.rds I e d ho hd rx
  have hsz := shown_fits ho hw
  have big : ∀ a, Reads s.heap (.ref a) (py d) as → wpAny (model X.prog X.w) X.A (call (.builtin "repr") [.ref a]) (EP X pins σ Q) X.xe s := fun a hr =>
    repr_of_reads' hr (showable_py d ho) (fun z => by
      rcases hn with y | y
      · rw [hasDict_py d y] at z; cases z
      · exact hs y) hg (by rw [depth_py]; omega) (fun b o z => z) (fun h' u' tk kp => ⟨.str (py d).shown, H, I.kept (t' := tk) kp, ⟨u', rfl⟩, q⟩) hsz
  cases d with
  | non =>
    rw [show v = V.non from hd] at rx
    cases rx
    exact P.repr_of_none (by have := fl (s.toks + 1) s.toks; simpa only [py, PyData.shown] using this)
  | bl b =>
    rw [show v = V.bl b from hd] at rx
    cases rx
    exact P.repr_of_bool (by have := fl (s.toks + 1) s.toks; simpa only [py, PyData.shown] using this)
  | int i =>
    rw [show v = V.int i from hd] at rx
    obtain ⟨t, rfl⟩ := rx
    exact P.repr_of_int (by have := showable_py (.int i) ho; simpa only [py, PyData.showable, decide_eq_true_eq] using this) (by have := fl (s.toks + 1) s.toks; simpa only [py, PyData.shown] using this)
  | str x =>
    rw [show v = V.str x from hd] at rx
    obtain ⟨t, rfl⟩ := rx
    exact P.repr_of_str (by have := fl (s.toks + 1) s.toks; simpa only [py, PyData.shown] using this) (by simpa only [py, PyData.shown] using hsz)
  | raw u => simp [okD] at ho
  | dt u => simp [okD] at ho
  | lst ds =>
    obtain ⟨a, vs, h1, h2, h3⟩ := hd
    rw [h1] at rx
    cases rx
    exact big a hr
  | tup ds =>
    obtain ⟨a, vs, h1, h2, h3⟩ := hd
    rw [h1] at rx
    cases rx
    exact big a hr
  | dk ds =>
    obtain ⟨a, vs, h1, h2, h3⟩ := hd
    rw [h1] at rx
    cases rx
    exact big a hr
section
variable {B : Bs} {ρ : Ro} {μ : Mu} {d : D} {te : TE}
theorem rc_rp (ho : okD d = true) (hn : noD d = true ∨ noL d = true) (hw : wd d ≤ 1000000) (hp : dep d ≤ 20) : RC B (rRp B.K) ρ μ [d] (fun e => e = .str (py d).shown) := fun τ σ H xs hl a Q q => by
  obtain ⟨G, g, h⟩ := a.args hl
  obtain ⟨v, rfl, hv⟩ := one_arg h
  exact ⟨v, d, G, rfl, g.sub, hv, ho, hn, hw, hp, q _ _ _ rfl (At.flat ⟨G, g⟩ fun _ => rfl)⟩
end
/-! ### a def's run at one place -/
section
variable {CX : CXT} {P : Program} {w : World} {K : PySem.W.Frag} {mg : Str → Option Value} {base : Heap}
theorem run_of {k : Nat} {f : Addr} {name qual : Str} {params : Arguments} {body : List Stmt} {scope : Scope} {dV kV doc pm cdv ct oc : Value} {an od : Option Addr} {osl : Array (Option Value)} {N ps : List Str} {A : Around} {outer : List Env} {s : Shared} {H : Hp} {args : Args} {us : List Value} {vs : List V} {Q : VK} {E : XK}
    (lk : K.lookup f = some ⟨oc, od, .func (PySem.W.fnOf name qual params body scope dV kV doc pm an cdv ct), osl⟩) (hcd : PySem.W.codeIn K cdv qual = true) (S : FnScope N ps scope)
    (hl : vs.length = ps.length) (hr : Room (k + 1) A) (e0 : Env0 P w K mg base A outer s H) (hb : BindsTo s (PySem.W.fnOf name qual params body scope dV kV doc pm an cdv ct) args (ps.zip us)) (r : Vals vs us)
    (hq : ∃ t, PSs (cxOf CX P w K mg base N qual scope f cdv A outer s H E) body t ∧ t { nx := fun _ H' => Q .non H', rt := Q } (start N vs) H) :
    codeAny (model P w) A (.call (.ref f) args) (CR CX outer P w H s Q E) s := by
  have KX : K.In s.heap := e0.mod.kin.keeps fun b o z => (e0.bs b o z).1
  have nl : s.heap.NoLimit := e0.mod.nolimit.keeps fun b o z => (e0.bs b o z).1
  refine codeAny_call_function hr.depth (KX _ _ lk) rfl S.co S.gen rfl (PySem.W.codeRec_of KX hcd) (hb _ _ _ _ ?_)
  refine wpAny_newFunctionEnv_cells S.kind (fun z hz => ?_) fun fn h1 s1 hx => ?_
  · obtain ⟨n, x⟩ := z
    rcases S.par n (List.of_mem_zip hz).1 with y | y
    · exact .inl y
    · exact .inr ⟨y, PySem.W.cellsFrom_some _ _ _ (.inl y)⟩
  · subst h1
    refine ⟨nl.keeps hx.toInCall.keep, codeAny_func ?_⟩
    obtain ⟨t, ht, go⟩ := hq
    have J0 : Inv (cxOf CX P w K mg base N qual scope f cdv A outer s H E) [] (start N vs) H s1 := inv_start S hr.hd e0 hl r hx
    refine wpAny_mono (ht.run [] s1 (start N vs) H _ J0 go) (fun fl s' hs => ?_) fun _ _ hs => hs
    have last : ∀ {σ' : L2.St} {H' : Hp} {v : V} {u : Value}, Inv (cxOf CX P w K mg base N qual scope f cdv A outer s H E) [] σ' H' s' → RelV v u → Q v H' → CE outer P w H s Q u s' := fun J rv z => ⟨_, _, J.os, J.bare, J.base, J.hok, rv, z⟩
    cases fl with
    | ret u => exact hs.elim fun v hs => hs.elim fun σ' hs => hs.elim fun H' hs => last hs.1 hs.2.1 hs.2.2
    | next => exact hs.elim fun σ' hs => hs.elim fun H' hs => last (v := V.non) (u := Value.none) hs.1 rfl hs.2
    | brk => exact hs.elim fun _ hs => hs.elim fun _ hs => False.elim hs.2
    | cont => exact hs.elim fun _ hs => hs.elim fun _ hs => False.elim hs.2
/-- the law's own call, at the claim's caller -/
theorem law_at {mb : Str → Option Value} {fa a : Addr} {s₁ : Shared} {vs : List Value} {ns : List Int} (KX : K.In s₁.heap) (n1 : s₁.heap.Ns mainGlobals mg) (n2 : s₁.heap.Ns builtinsNs mb) (n3 : ∀ x : Str, x ≠ "__name__" → mb x = bootBuiltins x) (nl : s₁.heap.NoLimit) (hg : s₁.gens = #[])
    (ha : s₁.heap.get? a = some { cls := .type "list", data := .seq vs.toArray }) (hi : IntsAre vs ns) (hl : ns.length ≤ sizeLine)
    (F : ∀ (base : Heap) (H : Hp), Env0 P w K mg base callerA [] s₁ H → SqL K H a (ns.map V.int) → codeAny (model P w) callerA (.call (.ref fa) ⟨[.ref a], []⟩) (CR CX0 [] P w H s₁ (fun v _ => v = .bl true) fun _ _ _ => False) s₁) :
    codeAny (model P w) callerA (.call (.ref fa) ⟨[.ref a], []⟩) (fun r s' => r = .ok (.ret (.bool true)) ∧ OldK s₁.heap s'.heap ∧ s'.os = s₁.os ∧ AllBare s'.gens) s₁ := by
  have vv := vals_ints hi
  have vl := hi.length
  have main : ∀ H : Hp, Only H → SqL K H a (ns.map V.int) → HOk P w H s₁.heap → (∀ b, H b ≠ none → b = a ∧ K.lookup a = none) → codeAny (model P w) callerA (.call (.ref fa) ⟨[.ref a], []⟩) (fun r s' => r = .ok (.ret (.bool true)) ∧ OldK s₁.heap s'.heap ∧ s'.os = s₁.os ∧ AllBare s'.gens) s₁ := by
    intro H hO hS hok only
    have nd : ∀ {b : Addr} {o : Obj} {es : Array DictEntry} {ep : Nat}, s₁.heap.get? b = some o → o.data = .dict es ep → H b = none := fun {b o es ep} z y => by
      by_cases t : H b = none
      · exact t
      · obtain ⟨rfl, _⟩ := only b t
        rw [ha] at z
        have z2 := Option.some.inj z
        rw [← z2] at y
        exact absurd (show Data.seq vs.toArray _ = Data.dict es ep from y) (by intro q; cases q)
    have nsb : ∀ {b : Addr} {m : Str → Option Value}, s₁.heap.Ns b m → (hidT s₁.heap H).Ns b m := fun {b m} ⟨o, es, ep, z, y, t⟩ => ⟨o, es, ep, hidT_get z (nd z y), y, t⟩
    have kb : K.In (hidT s₁.heap H) := fun b o z => hidT_get (KX b o z) (by
      by_cases t : H b = none
      · exact t
      · obtain ⟨rfl, y⟩ := only b t
        rw [y] at z; cases z)
    have M0 : Mod K mg (hidT s₁.heap H) := ⟨kb, nsb n1, ⟨mb, nsb n2, n3⟩, nl.elim fun mc y => ⟨mc, nsb y.1, y.2⟩⟩
    have E0 : Env0 P w K mg (hidT s₁.heap H) callerA [] s₁ H := ⟨rfl, M0, fun b o z => of_hidT z, Nat.le_of_eq (hidT_size _ _), trivial, fun b y => (nomatch (show b ∈ ([] : List Addr) from y)), hok, .of_eq hg⟩
    refine codeAny_mono (F _ H E0 hS) fun r s' z => ?_
    match r, z with
    | .error e, z => exact False.elim z
    | .ok .next, z => exact False.elim z
    | .ok .brk, z => exact False.elim z
    | .ok .cont, z => exact False.elim z
    | .ok (.ret u), z =>
      obtain ⟨v, H', os, bare, un, hok', rv, hv⟩ := z
      have hv' : v = .bl true := hv
      subst hv'
      have hu : u = Value.bool true := rv
      subst hu
      refine ⟨rfl, OldK.of_keep fun b o z => ?_, os, bare⟩
      rcases hO b with y | ⟨ob, xs, y⟩
      · exact un.keep b o z y (fun t => (nomatch (show b ∈ ([] : List Addr) from t))) (by simp)
      · obtain ⟨z1, _⟩ := hok b _ y
        obtain ⟨z2, _⟩ := hok' b _ (un.frzs b ob _ y)
        rw [z] at z1
        rw [z2]; exact z1.symm
  cases hk : K.lookup a with
  | none =>
    have hH : ∀ b u, (if b = a then some (HO.frz { cls := .type "list", data := .seq vs.toArray } (.lst (ns.map V.int))) else none) = some u → b = a ∧ u = HO.frz { cls := .type "list", data := .seq vs.toArray } (.lst (ns.map V.int)) := fun b u z => by
      split at z
      · rename_i y; exact ⟨y, (Option.some.inj z).symm⟩
      · cases z
    refine main (fun b => if b = a then some (.frz { cls := .type "list", data := .seq vs.toArray } (.lst (ns.map V.int))) else none) (fun b => ?_) (.inl (.inr ⟨_, if_pos rfl⟩)) (fun b u z => ?_) fun b z => ?_
    · by_cases y : b = a
      · exact .inr ⟨_, _, if_pos y⟩
      · exact .inl (if_neg y)
    · obtain ⟨rfl, rfl⟩ := hH b u z
      exact ⟨ha, by rw [List.length_map]; exact hl, vs, _, vv, ha⟩
    · by_cases y : b = a
      · exact ⟨y, hk⟩
      · exact absurd (if_neg y) z
  | some o =>
    have y := KX a o hk
    rw [ha] at y
    cases y
    exact main (fun _ => none) (fun _ => .inl rfl) (.inr ⟨_, vs.toArray, _, hk, rfl, rfl, rfl, by rw [List.size_toArray, vl]; exact hl, by simpa using vv⟩) (fun b u z => (nomatch (show (none : Option HO) = some u from z))) fun b z => absurd rfl z
end
theorem walk_at {l : PySem.W.OpenLaw} {n : Nat} {q : Program} {loose : List Str} {XP : (Str → Option Value) → Heap → Prop} {YP : World → Heap → Prop} {d : DefRec} {K : Params → PySem.W.Frag} (hn : l.most = some n) (hn2 : n ≤ sizeLine) (hdf : d.params.defaults = []) (hY : ∀ (w : World) (h : Heap), YP w h → (K w.params).In h)
    (F : ∀ (w : World) (mg : Str → Option Value) (fa : Addr) (s₁ : Shared), (K w.params).In s₁.heap → s₁.heap.Ns mainGlobals mg → mg d.name = some (.ref fa) → ∀ (base : Heap) (H : Hp) (a : Addr) (ns : List Int), ns.length ≤ n → Env0 l.prog w (K w.params) mg base callerA [] s₁ H → SqL (K w.params) H a (ns.map V.int) →
      codeAny (model l.prog w) callerA (.call (.ref fa) ⟨[.ref a], []⟩) (CR CX0 [] l.prog w H s₁ (fun v _ => v = .bl true) fun _ _ _ => False) s₁) :
    PySem.W.WalkO q loose XP YP l.row.toRowW d [] (fun f vs => PySem.call f vs) := by
  refine Att.attach_call hn hdf fun w s₀ s₁ mg mb fa o pm cd doc a vs ns G Y ho hd hcd hmg hobj hints hlen hg => ?_
  have KX := hY w _ Y
  exact law_at KX G.T.g G.T.b G.T.builtins G.T.nolimit hg hobj hints (Nat.le_trans hlen hn2) fun base H e0 hS => F w mg fa s₁ KX G.T.g hmg base H a ns hlen e0 hS
end Cal


namespace Cal
open PySem PySem.Spec PyProof.Rows L2
/-! ### things -/
structure Th (n k : Nat) (d : D) : Prop where
  ok : okD d = true
  w : wd d ≤ n
  dp : dep d ≤ k
  nn : noD d = true ∨ noL d = true
theorem Th.mono {n k n' k' : Nat} {d : D} (h : Th n k d) (a : n ≤ n') (b : k ≤ k') : Th n' k' d := ⟨h.ok, Nat.le_trans h.w a, Nat.le_trans h.dp b, h.nn⟩
def ThA (n k : Nat) : List D → Prop
  | [] => True | d :: r => Th n k d ∧ ThA n k r
theorem ThA.mem {n k : Nat} : ∀ {ds : List D}, ThA n k ds → ∀ d ∈ ds, Th n k d
  | e :: r, h, d, hd => by
    rcases List.mem_cons.mp hd with z | z
    · rw [z]; exact h.1
    · exact ThA.mem h.2 d z
/-- neither list nor dict in it -/
def cl (d : D) : Bool := okD d && noD d && noL d
theorem cl_iff {d : D} : cl d = true ↔ okD d = true ∧ noD d = true ∧ noL d = true := by
  unfold cl
  rw [Bool.and_eq_true, Bool.and_eq_true, and_assoc]
theorem cl_tup {ds : List D} : cl (.tup ds) = true ↔ ∀ d ∈ ds, cl d = true := by
  induction ds with
  | nil => simp [cl, okD, okA, noD, noDA, noL, noLA]
  | cons d r ih =>
    rw [List.forall_mem_cons, ← ih]
    simp only [cl, okD, okA, noD, noDA, noL, noLA, Bool.and_eq_true]
    constructor
    · rintro ⟨⟨⟨a, b⟩, c, d⟩, e, f⟩; exact ⟨⟨⟨a, c⟩, e⟩, ⟨b, d⟩, f⟩
    · rintro ⟨⟨⟨a, c⟩, e⟩, ⟨b, d⟩, f⟩; exact ⟨⟨⟨a, b⟩, c, d⟩, e, f⟩
theorem Th.clean {n k : Nat} {d : D} (h : cl d = true) (hw : wd d ≤ n) (hd : dep d ≤ k) : Th n k d := ⟨(cl_iff.mp h).1, hw, hd, .inl (cl_iff.mp h).2.1⟩
theorem Th.tup {n k : Nat} {ds : List D} (h : ∀ d ∈ ds, cl d = true) (hw : wdA ds + 3 ≤ n) (hd : depA ds + 1 ≤ k) : Th n k (.tup ds) := .clean (cl_tup.mpr h) hw hd
theorem Th.lst {n k : Nat} {ds : List D} (h : ∀ d ∈ ds, cl d = true) (hw : wdA ds + 3 ≤ n) (hd : depA ds + 1 ≤ k) : Th n k (.lst ds) :=
  ⟨by show okA ds = true; exact okA_all fun d hd => (cl_iff.mp (h d hd)).1, hw, hd, .inl (by show noDA ds = true; exact noDA_all fun d hd => (cl_iff.mp (h d hd)).2.1)⟩
/-- one item of a clean tuple put by a thing -/
theorem Th.put {n k : Nat} {as bs : List D} {e : D} {m j : Nat} (ha : ∀ d ∈ as, cl d = true) (hb : ∀ d ∈ bs, cl d = true) (he : Th m j e) (hw : wdA as + (m + 2) + wdA bs + 3 ≤ n) (hd : max (depA as) (max j (depA bs)) + 1 ≤ k) : Th n k (.tup (as ++ [e] ++ bs)) := by
  refine ⟨?_, ?_, ?_, ?_⟩
  · show okA (as ++ [e] ++ bs) = true
    rw [okA_app, okA_app, okA_all fun d hd => (cl_iff.mp (ha d hd)).1, okA_all fun d hd => (cl_iff.mp (hb d hd)).1]
    simp [okA, he.ok]
  · show wdA (as ++ [e] ++ bs) + 3 ≤ n
    have := he.w
    rw [wdA_app, wdA_app]
    show wdA as + (wd e + 2 + 0) + wdA bs + 3 ≤ n
    omega
  · show depA (as ++ [e] ++ bs) + 1 ≤ k
    have := he.dp
    rw [depA_app, depA_app]
    show max (max (depA as) (max (dep e) 0)) (depA bs) + 1 ≤ k
    omega
  · rcases he.nn with z | z
    · left
      show noDA (as ++ [e] ++ bs) = true
      rw [noDA_app, noDA_app, noDA_all fun d hd => (cl_iff.mp (ha d hd)).2.1, noDA_all fun d hd => (cl_iff.mp (hb d hd)).2.1]
      simp [noDA, z]
    · right
      show noLA (as ++ [e] ++ bs) = true
      rw [noLA_app, noLA_app, noLA_all fun d hd => (cl_iff.mp (ha d hd)).2.2, noLA_all fun d hd => (cl_iff.mp (hb d hd)).2.2]
      simp [noLA, z]
theorem wdA_cons {d : D} {r : List D} : wdA (d :: r) = wd d + 2 + wdA r := rfl
theorem wdA_sub {as bs : List D} (h : as.Sublist bs) : wdA as ≤ wdA bs := by
  induction h with
  | slnil => exact Nat.le_refl _
  | cons a _ ih => rw [wdA_cons]; omega
  | cons_cons a _ ih => rw [wdA_cons, wdA_cons]; omega
theorem depA_sub {as bs : List D} (h : ∀ d ∈ as, d ∈ bs) : depA as ≤ depA bs := depA_le fun d hd => depA_mem (h d hd)
theorem wdA_perm {as bs : List D} (h : as.Perm bs) : wdA as = wdA bs := by
  induction h with
  | nil => rfl
  | cons x _ ih => rw [wdA_cons, wdA_cons]; omega
  | swap x y l => show wd y + 2 + (wd x + 2 + wdA l) = wd x + 2 + (wd y + 2 + wdA l); omega
  | trans _ _ h1 h2 => omega
theorem cutD_sub (ds : List D) (lo hi : Option Int) : (cutD ds lo hi).Sublist ds := (List.take_sublist _ _).trans (List.drop_sublist _ _)
theorem cutD_take (ds : List D) {i : Int} (h : 0 ≤ i) : cutD ds none (some i) = ds.take i.toNat := by
  obtain ⟨k, rfl⟩ := Int.eq_ofNat_of_zero_le h
  unfold cutD
  rw [show HT.sIx ds.length ds.length (some (k : Int)) = min k ds.length from HT.sIx_nat ds.length ds.length k, HT.sIx_none, List.drop_zero, Nat.sub_zero]
  rw [show (k : Int).toNat = k from rfl]
  by_cases z : k ≤ ds.length
  · rw [Nat.min_eq_left z]
  · rw [Nat.min_eq_right (by omega), List.take_length, List.take_of_length_le (by omega)]
theorem cutD_drop (ds : List D) {i : Int} (h : 0 ≤ i) : cutD ds (some i) none = ds.drop i.toNat := by
  obtain ⟨k, rfl⟩ := Int.eq_ofNat_of_zero_le h
  unfold cutD
  rw [show HT.sIx ds.length 0 (some (k : Int)) = min k ds.length from HT.sIx_nat ds.length 0 k, HT.sIx_none]
  rw [show (k : Int).toNat = k from rfl]
  by_cases z : k ≤ ds.length
  · rw [Nat.min_eq_left z, List.take_of_length_le (by rw [List.length_drop]; omega)]
  · rw [Nat.min_eq_right (by omega), Nat.sub_self, List.take_zero, List.drop_of_length_le (by omega)]
/-! ### what a drawn placement is made of -/
mutual
def ptD : D → Bool
  | .int i => decide (0 ≤ i) && decide (i < 1000)
  | .str s => decide (s.length ≤ 10) && s.cps.toList.all fun c => decide (97 ≤ c) && decide (c ≤ 122)
  | .tup ds => ptA ds
  | _ => false
def ptA : List D → Bool
  | [] => true | d :: ds => ptD d && ptA ds
end
theorem ptA_mem : ∀ {ds : List D}, ptA ds = true → ∀ d ∈ ds, ptD d = true
  | e :: r, h, d, hd => by
    have h' : ptD e = true ∧ ptA r = true := by simpa [ptA] using h
    rcases List.mem_cons.mp hd with z | z
    · rw [z]; exact h'.1
    · exact ptA_mem h'.2 d z
theorem ptA_all {ds : List D} (h : ∀ d ∈ ds, ptD d = true) : ptA ds = true := by
  induction ds with
  | nil => rfl
  | cons d r ih => simp [ptA, h d (List.mem_cons_self ..), ih fun e he => h e (List.mem_cons_of_mem _ he)]
theorem strOk_of {s : Str} (h : ∀ c ∈ s.cps.toList, c < 1114112) : PyData.strOk s = true := by
  unfold PyData.strOk
  exact Array.all_eq_true_iff_forall_mem.mpr fun c hc => decide_eq_true (h c (Array.mem_toList_iff.mpr hc))
theorem cl_str {s : Str} (h : ∀ c ∈ s.cps.toList, c < 1114112) : cl (.str s) = true := by
  simp [cl, okD, noD, noL, strOk_of h]
theorem cl_int {i : Int} (h : i.natAbs < 2 ^ 200) : cl (.int i) = true := by
  simp only [cl, okD, noD, noL, Bool.and_true, decide_eq_true h]
theorem pt_str {s : Str} (h : ptD (.str s) = true) : s.length ≤ 10 ∧ ∀ c ∈ s.cps.toList, 97 ≤ c ∧ c ≤ 122 := by
  have h' : (decide (s.length ≤ 10) && s.cps.toList.all fun c => decide (97 ≤ c) && decide (c ≤ 122)) = true := by simpa only [ptD] using h
  rw [Bool.and_eq_true] at h'
  refine ⟨of_decide_eq_true h'.1, fun c hc => ?_⟩
  have := List.all_eq_true.mp h'.2 c hc
  rw [Bool.and_eq_true] at this
  exact ⟨of_decide_eq_true this.1, of_decide_eq_true this.2⟩
theorem pt_int {i : Int} (h : ptD (.int i) = true) : 0 ≤ i ∧ i < 1000 := by
  have h' : (decide (0 ≤ i) && decide (i < 1000)) = true := by simpa only [ptD] using h
  rw [Bool.and_eq_true] at h'
  exact ⟨of_decide_eq_true h'.1, of_decide_eq_true h'.2⟩
theorem pt_cl : ∀ {d : D}, ptD d = true → cl d = true
  | .int i, h => cl_int (by have := pt_int h; omega)
  | .str s, h => cl_str fun c hc => by have := (pt_str h).2 c hc; omega
  | .tup ds, h => cl_tup.mpr fun d hd => pt_cl (ptA_mem (by simpa only [ptD] using h) d hd)
  | .non, h => by simp [ptD] at h
  | .bl _, h => by simp [ptD] at h
  | .raw _, h => by simp [ptD] at h
  | .lst _, h => by simp [ptD] at h
  | .dk _, h => by simp [ptD] at h
  | .dt _, h => by simp [ptD] at h
theorem pt_ty : ∀ {d : D}, ptD d = true → tyD d ≠ ""
  | .int i, h => by show "int" ≠ ""; decide
  | .str s, h => by show "str" ≠ ""; decide
  | .tup ds, h => by show "tuple" ≠ ""; decide
  | .non, h => by simp [ptD] at h
  | .bl _, h => by simp [ptD] at h
  | .raw _, h => by simp [ptD] at h
  | .lst _, h => by simp [ptD] at h
  | .dk _, h => by simp [ptD] at h
  | .dt _, h => by simp [ptD] at h
mutual
theorem pt_plain : ∀ d : D, ptD d = true → plain d = true
  | .int i, h => by simp [plain]
  | .str s, h => by
    show PyData.strOk s = true
    exact strOk_of fun c hc => by have := (pt_str h).2 c hc; omega
  | .tup ds, h => by
    show plainA ds = true
    exact ptA_plain ds (by simpa only [ptD] using h)
  | .non, h => by simp [ptD] at h
  | .bl _, h => by simp [ptD] at h
  | .raw _, h => by simp [ptD] at h
  | .lst _, h => by simp [ptD] at h
  | .dk _, h => by simp [ptD] at h
  | .dt _, h => by simp [ptD] at h
theorem ptA_plain : ∀ ds : List D, ptA ds = true → plainA ds = true
  | [], _ => rfl
  | d :: ds, p => by
    have p' : ptD d = true ∧ ptA ds = true := by simpa [ptA] using p
    simp [plainA, pt_plain d p'.1, ptA_plain ds p'.2]
end
/-! texts near a name -/
theorem app_mem {s t : Str} {c : Nat} (h : c ∈ (s ++ t).cps.toList) : c ∈ s.cps.toList ∨ c ∈ t.cps.toList := by
  have h' : c ∈ (s.cps ++ t.cps).toList := h
  rw [Array.toList_append, List.mem_append] at h'
  exact h'
theorem Th.txt {n k : Nat} {s : Str} (h : ∀ c ∈ s.cps.toList, c < 1114112) (hw : 10 * s.length + 2 ≤ n) : Th n k (.str s) := .clean (cl_str h) hw (Nat.zero_le _)
theorem cutS_len (s : Str) (lo hi : Option Int) : (cutS s lo hi).length ≤ s.length := by
  show (((s.cps.toList.drop _).take _).toArray).size ≤ s.cps.size
  rw [List.size_toArray]
  have := ((List.take_sublist (HT.sIx s.length s.length hi - HT.sIx s.length 0 lo) (s.cps.toList.drop (HT.sIx s.length 0 lo))).trans (List.drop_sublist _ _)).length_le
  simpa using this
theorem cutS_mem {s : Str} {lo hi : Option Int} {c : Nat} (h : c ∈ (cutS s lo hi).cps.toList) : c ∈ s.cps.toList := by
  have h' : c ∈ (((s.cps.toList.drop (HT.sIx s.length 0 lo)).take (HT.sIx s.length s.length hi - HT.sIx s.length 0 lo)).toArray).toList := h
  exact ((List.take_sublist _ _).trans (List.drop_sublist _ _)).subset h'
theorem up_lt {c : Nat} (h : c < 128) : up1 c < 128 := by
  revert c
  decide +kernel
theorem upper_th {n k : Nat} {s : Str} (h : ∀ c ∈ s.cps.toList, c < 128) (hw : 10 * s.length + 2 ≤ n) : Th n k (.str (Txt.upper s)) := by
  rw [upper_ascii h]
  refine .txt (fun c hc => ?_) ?_
  · have hc' : c ∈ (s.cps.map up1).toList := hc
    rw [Array.toList_map] at hc'
    obtain ⟨x, hx, e⟩ := List.mem_map.mp hc'
    have := up_lt (h x hx)
    omega
  · show 10 * (s.cps.map up1).size + 2 ≤ n
    rw [Array.size_map]; exact hw
theorem foldl_app : ∀ (l : List (Array Nat)) (acc : Array Nat), ((l.foldl (· ++ ·) acc).size = acc.size + (l.map (·.size)).sum) ∧ ∀ c ∈ (l.foldl (· ++ ·) acc).toList, c ∈ acc.toList ∨ ∃ x ∈ l, c ∈ x.toList
  | [], acc => ⟨by simp, fun c hc => .inl hc⟩
  | x :: r, acc => by
    obtain ⟨h1, h2⟩ := foldl_app r (acc ++ x)
    refine ⟨by rw [List.foldl_cons, h1, Array.size_append, List.map_cons, List.sum_cons]; omega, fun c hc => ?_⟩
    rcases h2 c hc with z | ⟨y, hy, z⟩
    · rw [Array.toList_append, List.mem_append] at z
      rcases z with z | z
      · exact .inl z
      · exact .inr ⟨x, List.mem_cons_self .., z⟩
    · exact .inr ⟨y, List.mem_cons_of_mem _ hy, z⟩
theorem mul_th {n k m : Nat} {s : Str} (h : ∀ c ∈ s.cps.toList, c < 1114112) (hw : 10 * (m * s.length) + 2 ≤ n) (hm : 1 ≤ m) : Th n k (.str (Txt.mul s m)) := by
  have hl : s.length ≤ m * s.length := by
    have := Nat.mul_le_mul_right s.length hm
    omega
  unfold Txt.mul
  split
  · exact .txt (fun c hc => by simp [Str.empty] at hc) (by show 10 * 0 + 2 ≤ n; omega)
  · split
    · exact .txt h (by omega)
    · obtain ⟨h1, h2⟩ := foldl_app (List.replicate m s.cps) #[]
      refine .txt (fun c hc => ?_) ?_
      · rcases h2 c hc with z | ⟨x, hx, z⟩
        · simp at z
        · rw [List.eq_of_mem_replicate hx] at z
          exact h c z
      · show 10 * ((List.replicate ((m : Int).toNat) s.cps).foldl (· ++ ·) #[]).size + 2 ≤ n
        rw [show ((m : Int).toNat) = m from rfl, h1]
        have : ((List.replicate m s.cps).map (·.size)).sum = m * s.length := by
          rw [List.map_replicate, List.sum_replicate_nat]; rfl
        rw [this]
        show 10 * (0 + m * s.length) + 2 ≤ n
        omega
theorem mul_ok {s : Str} (h : s.length ≤ 10) : MulOk s 11 := ⟨by decide, fun _ _ => by
  have e : ((2 : Int) ^ 63 - 1) / 11 = 838488366986797800 := by decide
  rw [e]; omega, fun _ _ => by
  unfold PySem.Builtin.Str.tooLong
  first | exact decide_eq_false (by show ¬ _; have : s.length * (11 : Int).toNat ≤ 110 := Nat.mul_le_mul_right 11 h; have : (110 : Nat) ≤ sizeLine := by decide
                                    omega) | skip⟩
theorem ofS_mem {x : String} {c : Nat} (h : c ∈ (Str.ofString x).cps.toList) : c < 1114112 := by
  rw [PyProof.Rows.signs_ofString] at h
  obtain ⟨z, _, rfl⟩ := List.mem_map.mp h
  rcases z.valid with y | y
  · exact Nat.lt_trans y (by decide)
  · exact y.2
theorem intS_th {n k : Nat} {i : Int} (h : i.natAbs < 1000) (hn : 200 ≤ n) : Th n k (.str (Str.ofString (toString i))) := by
  refine .txt (fun c hc => ofS_mem hc) ?_
  have := int_text_length_le10 (a := i) (k := 3) (by decide) (by omega)
  rw [PySem.ofString_length]; omega
/-! ### rules -/
theorem DtA.rev {K : PySem.W.Frag} {G : Hp} : ∀ {ds : List D} {vs : List V}, DtA K G ds vs → DtA K G ds.reverse vs.reverse
  | [], _, h => by rw [show _ = [] from h]; rfl
  | d :: ds, _, ⟨v, r, q, s, t⟩ => by
    rw [q, List.reverse_cons, List.reverse_cons]
    exact DtA.append (DtA.rev t) ⟨v, [], rfl, s, rfl⟩
section
variable {B : Bs} {ρ : Ro} {μ : Mu} {d : D} {te : TE} {ds : List D} {s : Str} {i : Int}
theorem ed_dnew : Ed B tDNewK ρ μ (.dk []) := Ev.mk fun τ σ H a Q q => fun p hp => q _ _ _ rfl (At.new (dn := .dk []) a hp fun G _ e => ⟨p, [], rfl, e, rfl⟩)
theorem ed_rev (h : Ed B te ρ μ (.tup ds)) : Ed B (tRevT B.K te) ρ μ (.tup ds.reverse) := Ev.mk fun τ σ H a Q q => h.go a fun v H1 d hd a1 => by
  subst hd
  obtain ⟨G, g, p, vs, rfl, e, k⟩ := id a1.top
  exact ⟨p, vs, rfl, .inl (.inl (g.sub _ _ e)), fun p' hp' => q _ _ _ rfl (g.newTup hp' (DtA.rev k))⟩
theorem ed_upper (h : Ed B te ρ μ (.str s)) (hs : s.length ≤ 100) : Ed B (tM0 (fun x xs H Q => ∃ a, x = .str a ∧ xs = [] ∧ a.length ≤ 5592405 ∧ Q (.str (Txt.upper a)) H) te) ρ μ (.str (Txt.upper s)) := Ev.mk fun τ σ H a Q q => h.go a fun v H1 d hd a1 => by
  subst hd
  obtain ⟨G, g, hv⟩ := a1.top
  exact ⟨⟨s, hv⟩, s, hv, rfl, Nat.le_trans hs (by decide), q _ _ _ rfl (At.flat ⟨G, g⟩ fun _ => rfl)⟩
theorem rc_strI (h : i.natAbs < 1000) : RC B (fun xs H Q => ∃ i, xs = [.int i] ∧ i.natAbs.log2 < 1920 ∧ Q (.str (toString i)) H) ρ μ [.int i] (fun e => e = .str (toString i)) := rc_flat (fun _ => rfl) fun G H xs s k Q q => by
  obtain ⟨v, rfl, hv⟩ := one_arg k
  refine ⟨i, by rw [show v = V.int i from hv], ?_, q⟩
  exact Nat.lt_of_lt_of_le (lg_of (Nat.lt_of_lt_of_le h (by decide))) (by decide)
theorem rd_sub' {i j : Int} : RD B (rI0 fun i j => .int (i - j)) ρ μ (.int i) (.int j) (fun e => e = .int (i - j)) := rd_sub
end
end Cal


namespace Cal
open PySem PySem.Spec PyProof.Rows L2
/-! ### a list beside an empty one -/
def rEqE (K : PySem.W.Frag) : R2 := fun x y H Q => ∃ a b xs, x = .ref a ∧ y = .ref b ∧ SqL K H a xs ∧ SqL K H b [] ∧ Q (.bl xs.isEmpty) H
def rNeE (K : PySem.W.Frag) : R2 := fun x y H Q => ∃ a b xs, x = .ref a ∧ y = .ref b ∧ SqL K H a xs ∧ SqL K H b [] ∧ Q (.bl !xs.isEmpty) H
section
variable {X : Cx}
theorem op_eqE (hu : X.A.units < cLine) : OpR X (compareOp .Eq) (rEqE X.K) := by
  intro pins s σ H x y v u Q I rx ry h
  obtain ⟨a, b, xs, rfl, rfl, h1, h2, q⟩ := h
  cases rx
  cases ry
  obtain ⟨its, r1, p1, _⟩ := I.list h1
  obtain ⟨jts, r2, p2, _⟩ := I.list h2
  cases r2
  have fin : EP X pins σ Q (.bool xs.isEmpty) s := ⟨.bl xs.isEmpty, H, I, rfl, q⟩
  cases r1 with
  | nil =>
    exact SeqAt.RcAt.lists (e := fun _ => true) p1.isList p2.isList rfl hu (fun j h1 _ => absurd h1 (Nat.not_lt_zero _)) _ _ _ _ fin
  | cons z zs => exact SeqAt.RcAt.lists_lengths p1.isList p2.isList rfl hu _ _ _ _ fin
theorem op_neE (hu : X.A.units < cLine) : OpR X (compareOp .NotEq) (rNeE X.K) := by
  intro pins s σ H x y v u Q I rx ry h
  obtain ⟨a, b, xs, rfl, rfl, h1, h2, q⟩ := h
  cases rx
  cases ry
  obtain ⟨its, r1, p1, _⟩ := I.list h1
  obtain ⟨jts, r2, p2, _⟩ := I.list h2
  cases r2
  have fin : EP X pins σ Q (.bool !xs.isEmpty) s := ⟨.bl !xs.isEmpty, H, I, rfl, q⟩
  cases r1 with
  | nil =>
    exact SeqAt.RcNeAt.lists (e := fun _ => true) p1.isList p2.isList rfl hu (fun j h1 _ => absurd h1 (Nat.not_lt_zero _)) _ _ _ _ fin
  | cons z zs => exact SeqAt.RcNeAt.lists_lengths p1.isList p2.isList rfl hu _ _ _ _ fin
end
section
variable {B : Bs} {ρ : Ro} {μ : Mu} {ds : List D}
theorem rd_eqE : RD B (rEqE B.K) ρ μ (.lst ds) (.lst []) (fun e => e = .bl ds.isEmpty) := fun τ σ H x y a Q q => by
  obtain ⟨G, g, ⟨p, vs, rfl, e1, k1⟩, ⟨p', us, rfl, e2, k2⟩⟩ := a.two
  have hu : us = [] := k2
  subst hu
  refine ⟨p, p', vs, rfl, rfl, .inl (.inl (g.sub _ _ e1)), .inl (.inl (g.sub _ _ e2)), q (.bl vs.isEmpty) H (.bl vs.isEmpty) ?_ (At.flat ⟨G, g⟩ fun _ => rfl)⟩
  cases ds with
  | nil => rw [show vs = [] from k1]; rfl
  | cons d r => obtain ⟨v, w, rfl, _⟩ := k1; rfl
theorem rd_neE : RD B (rNeE B.K) ρ μ (.lst ds) (.lst []) (fun e => e = .bl !ds.isEmpty) := fun τ σ H x y a Q q => by
  obtain ⟨G, g, ⟨p, vs, rfl, e1, k1⟩, ⟨p', us, rfl, e2, k2⟩⟩ := a.two
  have hu : us = [] := k2
  subst hu
  refine ⟨p, p', vs, rfl, rfl, .inl (.inl (g.sub _ _ e1)), .inl (.inl (g.sub _ _ e2)), q (.bl !vs.isEmpty) H (.bl !vs.isEmpty) ?_ (At.flat ⟨G, g⟩ fun _ => rfl)⟩
  cases ds with
  | nil => rw [show vs = [] from k1]; rfl
  | cons d r => obtain ⟨v, w, rfl, _⟩ := k1; rfl
theorem rd_notIn {c : Nat} {z : Str} : RD B (fun x y H Q => ∃ (c : Nat) (z : Str), x = .str ⟨#[c]⟩ ∧ y = .str z ∧ Q (.bl (!decide (c ∈ z.cps.toList))) H) ρ μ (.str ⟨#[c]⟩) (.str z) (fun e => e = .bl (!decide (c ∈ z.cps.toList))) := rd_flat (fun _ => rfl) fun G H x y _ a b Q q => ⟨c, z, a, b, q⟩
theorem none_left {n : Nat} {c : Nat → Bool} {h : Nat → D} : (((List.range n).filter c).map h).isEmpty = (List.range n).all fun i => !c i := by
  rw [List.isEmpty_map]
  induction (List.range n) with
  | nil => rfl
  | cons x r ih =>
    rw [List.filter_cons, List.all_cons]
    cases c x with
    | true => rfl
    | false => rw [if_neg Bool.false_ne_true, ih]; rfl
end
end Cal


namespace Cal
open PySem PySem.Spec PyProof.Rows L2
abbrev s__law_is_int : Stmt := topS 18
abbrev n__law_is_int : List Str := ["thing", "low", "high"]
theorem sc__law_is_int : FnScope n__law_is_int ["thing", "low", "high"] (defScope s__law_is_int) := ⟨rfl, rfl, rfl, by decide +kernel, rfl, by decide +kernel, by decide +kernel⟩
abbrev s__law_is_tuple : Stmt := topS 19
abbrev n__law_is_tuple : List Str := ["thing", "many"]
theorem sc__law_is_tuple : FnScope n__law_is_tuple ["thing", "many"] (defScope s__law_is_tuple) := ⟨rfl, rfl, rfl, by decide +kernel, rfl, by decide +kernel, by decide +kernel⟩
abbrev s__law_is_name : Stmt := topS 20
abbrev n__law_is_name : List Str := ["thing", "sign"]
theorem sc__law_is_name : FnScope n__law_is_name ["thing"] (defScope s__law_is_name) := ⟨rfl, rfl, rfl, by decide +kernel, rfl, by decide +kernel, by decide +kernel⟩
abbrev s__law_are_ascending : Stmt := topS 21
abbrev n__law_are_ascending : List Str := ["thing", "at"]
theorem sc__law_are_ascending : FnScope n__law_are_ascending ["thing"] (defScope s__law_are_ascending) := ⟨rfl, rfl, rfl, by decide +kernel, rfl, by decide +kernel, by decide +kernel⟩
abbrev s__law_is_placement : Stmt := topS 22
abbrev n__law_is_placement : List Str := ["thing", "registers", "one", "visits"]
theorem sc__law_is_placement : FnScope n__law_is_placement ["thing"] (defScope s__law_is_placement) := ⟨rfl, rfl, rfl, by decide +kernel, rfl, by decide +kernel, by decide +kernel⟩
def isIn (lo hi : Int) : D → Bool | .int i => decide (lo ≤ i) && decide (i ≤ hi) | _ => false
section
variable {P : Program} {w : World} {K : PySem.W.Frag} {mg : Str → Option Value} {base : Heap} {f : Addr} {fd : FuncData}
abbrev BN6 : List Str := ["bool", "int", "isinstance", "len", "range", "str", "tuple"]
abbrev sp__law_is_int (K : PySem.W.Frag) : Sp := psp K (fun ds => ∃ d lo hi, ds = [d, .int lo, .int hi] ∧ Sm d) (fun ds e => ∃ d lo hi, ds = [d, .int lo, .int hi] ∧ e = .bl (isIn lo hi d))
variable (bi : ∀ x, x ∈ BN6 → mg x = none)
include bi in
theorem ok__law_is_int (F : Fun K "_law_is_int" "_law_is_int" s__law_is_int f fd) : FnOk P w K mg base CX0 1 f fd ["thing", "low", "high"] (sp__law_is_int K) := by
  refine F.ok sc__law_is_int (fun vs H Q E h => ?_) (fun cdv A outer s H vs Q E hr h => ?_)
  · obtain ⟨G, ds, h1, ⟨d, lo, hi, rfl, _⟩, _⟩ := h
    exact h1.length
  · have hu := hu_of hr
    obtain ⟨G, ds, ⟨d, lo, hi, rfl, hd⟩, hlen, a, hq⟩ := fsp_start locT n__law_is_int h
    refine ⟨_, (pss_one (ps_ret (pe_and (pe_callB (id := "isinstance") (r := rIsi K) call_isi (by rfl) (bi "isinstance" (by decide +kernel)) (by decide +kernel) (pa_cons (pv 0) (pa_cons (pe_bltn (v := .ty "int") (u := .type "int") (by rfl) (bi "int" (by decide +kernel)) (by decide +kernel) rfl) pa_nil))) (pe_and (pe_not (pe_callB (id := "isinstance") (r := rIsi K) call_isi (by rfl) (bi "isinstance" (by decide +kernel)) (by decide +kernel) (pa_cons (pv 0) (pa_cons (pe_bltn (v := .ty "bool") (u := .type "bool") (by rfl) (bi "bool" (by decide +kernel)) (by decide +kernel) rfl) pa_nil)))) (pe_one (pe_chain u_le u_le (pv 1) (pv 0) (pv 2))))))), ?_⟩
    refine x_ret a (Ed.is (d := .bl (isI d && (!isBl d && isIn lo hi d))) (ed_andV (ed_isiI (ed_var rfl) hd.ty) fun hb => ed_andV (ed_notV (ed_isiB (ed_var rfl) hd.ty)) fun hb2 => ?_) ?_) fun v H' d' hd' a' => hq ⟨d, lo, hi, rfl, hd'⟩ a'
    · obtain ⟨i, rfl⟩ : ∃ i, d = .int i := isInt_eq (by rw [← isInt_of, hb, hb2]; rfl)
      exact ed_leleI (ed_var rfl) (ed_var rfl) (ed_var rfl)
    · cases d <;> rfl
include bi in
theorem ok__law_is_tuple (F : Fun K "_law_is_tuple" "_law_is_tuple" s__law_is_tuple f fd) : FnOk P w K mg base CX0 1 f fd ["thing", "many"] (sp_is_tuple_of K) := by
  refine F.ok sc__law_is_tuple (fun vs H Q E h => ?_) (fun cdv A outer s H vs Q E hr h => ?_)
  · obtain ⟨G, ds, h1, ⟨d, n, rfl, _⟩, _⟩ := h
    exact h1.length
  · have hu := hu_of hr
    obtain ⟨G, ds, ⟨d, n, rfl, hd⟩, hlen, a, hq⟩ := fsp_start locT n__law_is_tuple h
    refine ⟨_, (pss_one (ps_ret (pe_and (pe_callB (id := "isinstance") (r := rIsi K) call_isi (by rfl) (bi "isinstance" (by decide +kernel)) (by decide +kernel) (pa_cons (pv 0) (pa_cons (pe_bltn (v := .ty "tuple") (u := .type "tuple") (by rfl) (bi "tuple" (by decide +kernel)) (by decide +kernel) rfl) pa_nil))) (pe_one (pe_cmpR (r := rEqD K) (u_eq hr.units) (pe_callB (id := "len") (r := rLenU K) u_len (by rfl) (bi "len" (by decide +kernel)) (by decide +kernel) (pa_cons (pv 0) pa_nil)) (pv 1) (nomark _)))))), ?_⟩
    refine x_ret a (Ed.is (d := .bl (isT d && isTup n d)) (ed_andV (ed_isiT (ed_var rfl) hd.ty) fun hb => ?_) ?_) fun v H' d' hd' a' => hq ⟨d, n, rfl, hd'⟩ a'
    · obtain ⟨es, rfl⟩ := isT_eq hb
      exact Ed.is (ed_op (ed_lenT (ed_var rfl)) (ed_var rfl) (rd_eqI)) rfl
    · cases d <;> rfl
theorem sign_abc (c : Nat) : (!(!decide (c ∈ (("abcdefghijklmnopqrstuvwxyz" : Str)).cps.toList))) = (!decide ([c] < [97]) && !decide ([122] < [c])) := by
  have e : (("abcdefghijklmnopqrstuvwxyz" : Str)).cps.toList = (List.range 26).map (· + 97) := by decide +kernel
  have m : c ∈ (List.range 26).map (· + 97) ↔ 97 ≤ c ∧ c ≤ 122 := by
    rw [List.mem_map]
    constructor
    · rintro ⟨k, hk, rfl⟩
      have := List.mem_range.mp hk
      omega
    · rintro ⟨h1, h2⟩
      exact ⟨c - 97, List.mem_range.mpr (by omega), by omega⟩
  have l1 : ([c] < [97]) ↔ c < 97 := by simp [List.cons_lt_cons_iff]
  have l2 : ([122] < [c]) ↔ 122 < c := by simp [List.cons_lt_cons_iff]
  rw [Bool.not_not, e]
  by_cases h : 97 ≤ c ∧ c ≤ 122
  · rw [decide_eq_true (m.mpr h), decide_eq_false (fun z => by have := l1.mp z; omega), decide_eq_false (fun z => by have := l2.mp z; omega)]; rfl
  · rw [decide_eq_false (fun z => h (m.mp z))]
    by_cases h1 : c < 97
    · rw [decide_eq_true (l1.mpr h1)]; rfl
    · rw [decide_eq_true (l2.mpr (by omega))]; simp
include bi in
theorem ok__law_is_name (F : Fun K "_law_is_name" "_law_is_name" s__law_is_name f fd) : FnOk P w K mg base CX0 1 f fd ["thing"] (sp_is_name K) := by
  refine F.ok sc__law_is_name (fun vs H Q E h => ?_) (fun cdv A outer s H vs Q E hr h => ?_)
  · obtain ⟨G, ds, h1, ⟨d, rfl, _⟩, _⟩ := h
    exact h1.length
  · have hu := hu_of hr
    obtain ⟨G, ds, ⟨d, rfl, hd⟩, hlen, a, hq⟩ := fsp_start locT n__law_is_name h
    refine ⟨_, (pss_cons (ps_if (PW.pt (pw_or (pt_not (pt_val (pe_callB (id := "isinstance") (r := rIsi K) call_isi (by rfl) (bi "isinstance" (by decide +kernel)) (by decide +kernel) (pa_cons (pv 0) (pa_cons (pe_bltn (v := .ty "str") (u := .type "str") (by rfl) (bi "str" (by decide +kernel)) (by decide +kernel) rfl) pa_nil))))) (pw_or1 (pt_not (pt_chain u_le u_le pe_int (pe_callB (id := "len") (r := rLenU K) u_len (by rfl) (bi "len" (by decide +kernel)) (by decide +kernel) (pa_cons (pv 0) pa_nil)) pe_int))))) (pss_one (ps_ret pe_bl)) pss_nil)
      (pss_one (ps_ret (pe_cmpR (r := rEqE K) (op_eqE hr.units0) (pe_lc (own := [("sign", 1)]) (g := gName 1) rfl sc__law_is_name.nd (pi_str (pv 0)) (blkOk_by (N := n__law_is_name) (sc := defScope s__law_is_name) (by decide +kernel)) (fun _ _ _ _ _ => (pg_name (i := 1) sc__law_is_name.nd rfl (by first | exact (.inl rfl) | exact (.inr rfl)))) (fun _ _ _ _ _ => (pts_one (pt_cmpR op_notIn_sign (pv 1) pe_str (by rfl)))) (fun _ _ _ _ _ => (pv 1))) (pe_lst pa_nil) (nomark _))))), ?_⟩
    by_cases hs : isS d = true
    · obtain ⟨s, rfl⟩ := isS_eq hs
      have hz := sz1000 hd.1
      refine x_seq (x_ifb a (eb_or (b := !(decide (1 ≤ (s.length : Int)) && decide ((s.length : Int) ≤ 10))) (eb_not (eb_B (ed_isiS (ed_var rfl) hd.ty))) fun _ => eb_not (eb_test (ed_leleI ed_int (ed_lenS (ed_var rfl) hz) ed_int))) (fun hb H' a' => ?_) fun hb H' a' => x_next ?_)
      · refine x_ret a' ed_bl fun v H2 d' hd' a2 => hq ⟨_, rfl, ?_⟩ a2
        rw [hd']
        have hb' := or_not hb rfl
        show D.bl false = .bl (isNameS s)
        unfold isNameS
        rw [hb']; rfl
      · refine x_ret a' (ed_op (ed_lcT (h := fun i => .str ⟨#[s.cps.getD i 0]⟩) (fun i => !decide (s.cps.getD i 0 ∈ (("abcdefghijklmnopqrstuvwxyz" : Str)).cps.toList)) (ei_str (ed_var rfl)) (by decide) (Nat.le_trans (show s.cps.size ≤ 1000000 from hd.1) (by decide)) (fun i hi cl => eb_test (ed_op (ed_var rfl) ed_str rd_notIn)) fun i hi _ cl => ed_var rfl) (ed_lst ea_nil (by decide)) rd_eqE) fun v H2 d' hd' a2 => hq ⟨_, rfl, ?_⟩ a2
        rw [hd', none_left]
        have hb' := (and_of hb).2
        show _ = D.bl (isNameS s)
        unfold isNameS
        rw [hb', Bool.true_and]
        exact congrArg D.bl (congrArg (List.all (List.range s.cps.size)) (funext fun i => sign_abc _))
    · refine x_seq (x_ifb a (eb_or (b := true) (eb_not (eb_B (ed_isiS (ed_var rfl) hd.ty))) fun hb => absurd (by simpa using hb) hs) (fun hb H' a' => ?_) fun hb H' a' => ?_)
      · refine x_ret a' ed_bl fun v H2 d' hd' a2 => hq ⟨_, rfl, ?_⟩ a2
        rw [hd']
        cases d <;> first | rfl | exact absurd rfl hs
      · simp at hb
theorem ge_lt (i j : Int) : decide (j ≤ i) = !decide (i < j) := by
  by_cases h : i < j
  · rw [decide_eq_true h, decide_eq_false (by omega)]; rfl
  · rw [decide_eq_false h, decide_eq_true (by omega)]; rfl
include bi in
theorem ok__law_are_ascending (F : Fun K "_law_are_ascending" "_law_are_ascending" s__law_are_ascending f fd) : FnOk P w K mg base CX0 1 f fd ["thing"] (sp_is_ascending K) := by
  refine F.ok sc__law_are_ascending (fun vs H Q E h => ?_) (fun cdv A outer s H vs Q E hr h => ?_)
  · obtain ⟨G, ds, h1, ⟨d, rfl, _⟩, _⟩ := h
    exact h1.length
  · have hu := hu_of hr
    obtain ⟨G, ds, ⟨es, rfl, hl, hk⟩, hlen, a, hq⟩ := fsp_start locT n__law_are_ascending h
    refine ⟨_, (pss_one (ps_ret (pe_cmpR (r := rEqE K) (op_eqE hr.units0) (pe_lc (own := [("at", 1)]) (g := gName 1) rfl sc__law_are_ascending.nd (pi_range2 (by rfl) (bi "range" (by decide +kernel)) (pa_cons pe_int (pa_cons (pe_callB (id := "len") (r := rLenU K) u_len (by rfl) (bi "len" (by decide +kernel)) (by decide +kernel) (pa_cons (pv 0) pa_nil)) pa_nil))) (blkOk_by (N := n__law_are_ascending) (sc := defScope s__law_are_ascending) (by decide +kernel)) (fun _ _ _ _ _ => (pg_name (i := 1) sc__law_are_ascending.nd rfl (by first | exact (.inl rfl) | exact (.inr rfl)))) (fun _ _ _ _ _ => (pts_one (pt_cmpR u_ge (pe_ix (r := rIx K) ix_seq (pv 0) (pe_op op_sub (pv 1) pe_int) (fun _ _ => rfl)) (pe_ix (r := rIx K) ix_seq (pv 0) (pv 1) (fun _ _ => rfl)) (nomark _)))) (fun _ _ _ _ _ => (pv 1))) (pe_lst pa_nil) (nomark _)))), ?_⟩
    have en : ((es.length : Int) - 1).toNat = es.length - 1 := by omega
    refine x_ret a (ed_op (ed_lcT (n := ((es.length : Int) - 1).toNat) (h := fun i => .int (1 + i)) (fun i => !ltD (es.getD i .non) (es.getD (i + 1) .non)) (ei_rng2 (ead_cons ed_int (ead_cons (ed_lenT (ed_var rfl)) ea_nil)) ⟨by omega, by omega, by omega, by omega⟩) (by decide) (by omega) (fun i hi cl => eb_test ?_) fun i hi _ cl => ed_var rfl) (ed_lst ea_nil (by decide)) rd_eqE) fun v H' d' hd' a' => hq ⟨es, rfl, ?_⟩ a'
    · have i1 : i < es.length := by omega
      have i2 : i + 1 < es.length := by omega
      have m1 : es.getD i .non ∈ es := List.mem_of_getElem? (getD_of i1)
      have m2 : es.getD (i + 1) .non ∈ es := List.mem_of_getElem? (getD_of i2)
      have a1 : atI es (1 + (i : Int) - 1) = some (es.getD i .non) := by
        unfold atI ixN
        rw [if_pos (by omega), if_pos (by omega), show (1 + (i : Int) - 1).toNat = i by omega]
        exact getD_of i1
      have a2 : atI es (1 + (i : Int)) = some (es.getD (i + 1) .non) := by
        unfold atI ixN
        rw [if_pos (by omega), if_pos (by omega), show (1 + (i : Int)).toNat = i + 1 by omega]
        exact getD_of i2
      rcases hk with hk | hk
      · obtain ⟨x, hx⟩ := hk _ m1
        obtain ⟨y, hy⟩ := hk _ m2
        rw [hx] at a1 ⊢
        rw [hy] at a2 ⊢
        refine Ed.is (ed_op (ed_op (ed_var rfl) (ed_op (ed_var rfl) ed_int rd_sub) (rd_ixT a1)) (ed_op (ed_var rfl) (ed_var rfl) (rd_ixT a2)) rd_geI) ?_
        rw [ge_lt]; rfl
      · obtain ⟨x, hx⟩ := hk _ m1
        obtain ⟨y, hy⟩ := hk _ m2
        rw [hx] at a1 ⊢
        rw [hy] at a2 ⊢
        exact Ed.is (ed_op (ed_op (ed_var rfl) (ed_op (ed_var rfl) ed_int rd_sub) (rd_ixT a1)) (ed_op (ed_var rfl) (ed_var rfl) (rd_ixT a2)) rd_geS) rfl
    · rw [hd', none_left, en]
      show D.bl _ = .bl (ascD es)
      unfold ascD
      exact congrArg D.bl (congrArg (List.all (List.range (es.length - 1))) (funext fun i => Bool.not_not _))
def clOk (n : Int) (d : D) : Bool := belowAsc n d && (match d with | .tup vs => decide (2 ≤ (vs.length : Int)) | _ => false)
theorem isPl_two (ss cs : List D) : isPl (.tup [.tup ss, .tup cs]) = (((List.range ss.length).all fun i => namesAsc (ss.getD i .non)) && (List.range cs.length).all fun i => clOk ss.length (cs.getD i .non)) := rfl
theorem all_no {n i : Nat} {p : Nat → Bool} (h : i < n) (k : p i = false) : (List.range n).all p = false := by
  cases e : (List.range n).all p with
  | false => rfl
  | true => rw [all_range e i h] at k; cases k
theorem all_yes {n : Nat} {p : Nat → Bool} (h : ∀ i, i < n → p i = true) : (List.range n).all p = true := List.all_eq_true.mpr fun i hi => h i (List.mem_range.mp hi)
theorem isIn_below (n : Int) (d : D) : isIn 0 (n - 1) d = isBelow n d := by
  cases d with
  | int i =>
    show (decide (0 ≤ i) && decide (i ≤ n - 1)) = (decide (0 ≤ i) && decide (i < n))
    rw [show decide (i ≤ n - 1) = decide (i < n) from decide_eq_decide.mpr (by omega)]
  | _ => rfl
theorem two_at {x y : D} : atI [x, y] 0 = some x ∧ atI [x, y] 1 = some y := ⟨rfl, rfl⟩
theorem isT_no {d : D} (h : isT d = false) : namesAsc d = false ∧ ∀ n, clOk n d = false := by cases d <;> first | exact ⟨rfl, fun _ => rfl⟩ | cases h
include bi in
theorem ok__law_is_placement (F : Fun K "_law_is_placement" "_law_is_placement" s__law_is_placement f fd) (c__law_is_tuple : C8.Cal P w K mg base 1 "_law_is_tuple" (sp_is_tuple_of K) []) (c__law_is_name : C8.Cal P w K mg base 1 "_law_is_name" (sp_is_name K) []) (c__law_is_int : C8.Cal P w K mg base 1 "_law_is_int" (sp__law_is_int K) []) (c__law_are_ascending : C8.Cal P w K mg base 1 "_law_are_ascending" (sp_is_ascending K) []) :
    FnOk P w K mg base CX0 2 f fd ["thing"] (sp_is_placement K) := by
  refine F.ok sc__law_is_placement (fun vs H Q E h => ?_) (fun cdv A outer s H vs Q E hr h => ?_)
  · obtain ⟨G, ds, h1, ⟨d, rfl, _⟩, _⟩ := h
    exact h1.length
  · have hu := hu_of hr
    obtain ⟨G, ds, ⟨d, rfl, hd⟩, hlen, a, hq⟩ := fsp_start locT n__law_is_placement h
    refine ⟨_, (pss_cons (ps_if (PW.pt (pw_or (pt_not (pt_val (C8.pe_c c__law_is_tuple hr (by first | decide | omega) (by rfl) (pa_cons (pv 0) (pa_cons pe_int pa_nil))))) (pw_or (pt_not (pt_val (pe_callB (id := "isinstance") (r := rIsi K) call_isi (by rfl) (bi "isinstance" (by decide +kernel)) (by decide +kernel) (pa_cons (pe_ix (r := rIx K) ix_seq (pv 0) pe_int (fun _ _ => rfl)) (pa_cons (pe_bltn (v := .ty "tuple") (u := .type "tuple") (by rfl) (bi "tuple" (by decide +kernel)) (by decide +kernel) rfl) pa_nil))))) (pw_or1 (pt_not (pt_val (pe_callB (id := "isinstance") (r := rIsi K) call_isi (by rfl) (bi "isinstance" (by decide +kernel)) (by decide +kernel) (pa_cons (pe_ix (r := rIx K) ix_seq (pv 0) pe_int (fun _ _ => rfl)) (pa_cons (pe_bltn (v := .ty "tuple") (u := .type "tuple") (by rfl) (bi "tuple" (by decide +kernel)) (by decide +kernel) rfl) pa_nil))))))))) (pss_one (ps_ret pe_bl)) pss_nil)
      (pss_cons (ps_for PassesOwn.never rfl (pi_tup (pe_ix (r := rIx K) ix_seq (pv 0) pe_int (fun _ _ => rfl))) (pg_name (i := 1) sc__law_is_placement.nd rfl (by first | exact (.inl rfl) | exact (.inr rfl)))
        (pss_cons (ps_if (PW.pt (pw_or (pt_not (pt_val (pe_callB (id := "isinstance") (r := rIsi K) call_isi (by rfl) (bi "isinstance" (by decide +kernel)) (by decide +kernel) (pa_cons (pv 1) (pa_cons (pe_bltn (v := .ty "tuple") (u := .type "tuple") (by rfl) (bi "tuple" (by decide +kernel)) (by decide +kernel) rfl) pa_nil))))) (pw_or1 (pt_cmpR (r := rNeE K) (op_neE hr.units0) (pe_lc (own := [("one", 2)]) (g := gName 2) rfl sc__law_is_placement.nd (pi_tup (pv 1)) (blkOk_by (N := n__law_is_placement) (sc := defScope s__law_is_placement) (by decide +kernel)) (fun _ _ _ _ _ => (pg_name (i := 2) sc__law_is_placement.nd rfl (by first | exact (.inl rfl) | exact (.inr rfl)))) (fun _ _ _ _ _ => (pts_one (pt_not (pt_val (C8.pe_c c__law_is_name hr (by first | decide | omega) (by rfl) (pa_cons (pv 2) pa_nil)))))) (fun _ _ _ _ _ => (pv 2))) (pe_lst pa_nil) (nomark _))))) (pss_one (ps_ret pe_bl)) pss_nil)
      (pss_one (ps_if (pt_not (pt_val (C8.pe_c c__law_are_ascending hr (by first | decide | omega) (by rfl) (pa_cons (pv 1) pa_nil)))) (pss_one (ps_ret pe_bl)) pss_nil))))
      (pss_cons (ps_for PassesOwn.never rfl (pi_tup (pe_ix (r := rIx K) ix_seq (pv 0) pe_int (fun _ _ => rfl))) (pg_name (i := 3) sc__law_is_placement.nd rfl (by first | exact (.inl rfl) | exact (.inr rfl)))
        (pss_cons (ps_if (PW.pt (pw_or (pt_not (pt_val (pe_callB (id := "isinstance") (r := rIsi K) call_isi (by rfl) (bi "isinstance" (by decide +kernel)) (by decide +kernel) (pa_cons (pv 3) (pa_cons (pe_bltn (v := .ty "tuple") (u := .type "tuple") (by rfl) (bi "tuple" (by decide +kernel)) (by decide +kernel) rfl) pa_nil))))) (pw_or1 (pt_cmpR (r := rNeE K) (op_neE hr.units0) (pe_lc (own := [("one", 2)]) (g := gName 2) rfl sc__law_is_placement.nd (pi_tup (pv 3)) (blkOk_by (N := n__law_is_placement) (sc := defScope s__law_is_placement) (by decide +kernel)) (fun _ _ _ _ _ => (pg_name (i := 2) sc__law_is_placement.nd rfl (by first | exact (.inl rfl) | exact (.inr rfl)))) (fun _ _ _ _ _ => (pts_one (pt_not (pt_val (C8.pe_c c__law_is_int hr (by first | decide | omega) (by rfl) (pa_cons (pv 2) (pa_cons pe_int (pa_cons (pe_op op_sub (pe_callB (id := "len") (r := rLenU K) u_len (by rfl) (bi "len" (by decide +kernel)) (by decide +kernel) (pa_cons (pe_ix (r := rIx K) ix_seq (pv 0) pe_int (fun _ _ => rfl)) pa_nil)) pe_int) pa_nil)))))))) (fun _ _ _ _ _ => (pv 2))) (pe_lst pa_nil) (nomark _))))) (pss_one (ps_ret pe_bl)) pss_nil)
      (pss_one (ps_if (PW.pt (pw_or (pt_cmpR u_lt (pe_callB (id := "len") (r := rLenU K) u_len (by rfl) (bi "len" (by decide +kernel)) (by decide +kernel) (pa_cons (pv 3) pa_nil)) pe_int (nomark _)) (pw_or1 (pt_not (pt_val (C8.pe_c c__law_are_ascending hr (by first | decide | omega) (by rfl) (pa_cons (pv 3) pa_nil))))))) (pss_one (ps_ret pe_bl)) pss_nil))))
      (pss_one (ps_ret pe_bl))))), ?_⟩
    by_cases ht : isTup 2 d = true
    · obtain ⟨x, y, rfl⟩ := isTup2_eq ht
      have hx : Sm x := hd.2.1
      have hy : Sm y := hd.2.2.1
      refine y_ifb a (eb_or (eb_not (eb_B (ed_p (d := .bl (isTup 2 (.tup [x, y]))) (ead_cons (ed_var rfl) (ead_cons ed_int ea_nil)) ⟨_, _, rfl, hd⟩ (by rintro e ⟨d', n', e1, rfl⟩; cases e1; rfl)))) fun _ => eb_or (eb_not (eb_B (ed_isiT (ed_op (ed_var rfl) ed_int (rd_ixT two_at.1)) hx.ty))) fun _ => eb_not (eb_B (ed_isiT (ed_op (ed_var rfl) ed_int (rd_ixT two_at.2)) hy.ty))) (fun hb H' a' => ?_) fun hb H' a' => ?_
      · refine x_ret a' ed_bl fun v H2 d' hd' a2 => hq ⟨_, rfl, ?_⟩ a2
        rw [hd', isPl_no (by rw [ht] at hb; simpa using hb)]
      · have hb2 : (!isT x || !isT y) = false := by rw [ht] at hb; simpa using hb
        obtain ⟨h1, h2⟩ := and_of hb2
        obtain ⟨ss, rfl⟩ := isT_eq h1
        obtain ⟨cs, rfl⟩ := isT_eq h2
        refine y_forN a' (ei_tup (ed_op (ed_var rfl) ed_int (rd_ixT two_at.1))) (fun i ρ μ => ∃ x1 x2 : Option D, ρ = [some (.tup [.tup ss, .tup cs]), x1, x2, none] ∧ μ = [] ∧ ∀ j, j < i → namesAsc (ss.getD j .non) = true) ⟨none, none, rfl, rfl, fun j hj => absurd hj (Nat.not_lt_zero _)⟩ (fun i ρ' μ' τ1 σ2 H2 Dn hi hI a2 hnx hct hbk hrt => ?_) fun ρ' μ' σ2 H2 hI a2 => ?_
        · obtain ⟨x1, x2, rfl, rfl, hall⟩ := hI
          have hm : ss.getD i .non ∈ ss := List.mem_of_getElem? (getD_of hi)
          have hs : Sm (ss.getD i .non) := hx.2.all _ hm
          have no : namesAsc (ss.getD i .non) = false → isPl (.tup [.tup ss, .tup cs]) = false := fun z => by rw [isPl_two, all_no hi z]; rfl
          by_cases hT : isT (ss.getD i .non) = true
          · obtain ⟨rs, hrs⟩ := isT_eq hT
            rw [hrs] at a2 hs no
            have hz : rs.length ≤ 1000000 := hs.1
            refine y_ifb a2 (eb_or (eb_not (eb_B (ed_isiT (ed_var rfl) hs.ty))) fun _ => eb_test (ed_op (ed_lcT (h := fun j => rs.getD j .non) (fun j => !isName (rs.getD j .non)) (ei_tup (ed_var rfl)) (by decide) hz (fun j hj cl => eb_not (eb_B (ed_p (ead_cons (ed_var rfl) ea_nil) ⟨_, rfl, hs.2.all _ (List.mem_of_getElem? (getD_of hj))⟩ (by rintro e ⟨d', e1, rfl⟩; cases e1; rfl)))) fun j hj _ cl => ed_var rfl) (ed_lst ea_nil (by decide)) rd_neE)) (fun hb H3 a3 => ?_) fun hb H3 a3 => ?_
            · refine x_ret a3 ed_bl fun v H4 d' hd' a4 => ?_
              show Dn.rt v H4
              rw [hrt]
              refine hq ⟨_, rfl, ?_⟩ a4
              rw [none_left] at hb
              have hb' : ((List.range rs.length).all fun j => isName (rs.getD j .non)) = false := by simpa [isT] using hb
              rw [hd', no (by show (((List.range rs.length).all fun i => isName (rs.getD i .non)) && ascD rs) = false; rw [hb']; rfl)]
            · rw [none_left] at hb
              have hb' : ((List.range rs.length).all fun j => isName (rs.getD j .non)) = true := by
                have : (!(List.range rs.length).all fun j => !!isName (rs.getD j .non)) = false := by simpa [isT] using hb
                simpa using this
              refine x_ifb a3 (eb_not (eb_B (ed_p (d := .bl (ascD rs)) (ead_cons (ed_var rfl) ea_nil) ⟨_, rfl, hz, .inr fun e he => isName_eq (getD_all (p := isName) hb' e he)⟩ (by rintro e ⟨d', e1, rfl⟩; cases e1; rfl)))) (fun hb2 H4 a4 => ?_) fun hb2 H4 a4 => x_next ?_
              · refine x_ret a4 ed_bl fun v H5 d' hd' a5 => ?_
                show Dn.rt v H5
                rw [hrt]
                refine hq ⟨_, rfl, ?_⟩ a5
                rw [hd', no (by show (((List.range rs.length).all fun i => isName (rs.getD i .non)) && ascD rs) = false; rw [show ascD rs = false by simpa using hb2, Bool.and_false])]
              · refine hnx _ _ _ _ ⟨some (.tup rs), x2, rfl, rfl, fun j hj => ?_⟩ a4
                by_cases hji : j < i
                · exact hall j hji
                · have : j = i := by omega
                  rw [this, hrs]
                  show (((List.range rs.length).all fun i => isName (rs.getD i .non)) && ascD rs) = true
                  rw [hb', show ascD rs = true by simpa using hb2]; rfl
          · have hT' : isT (ss.getD i .non) = false := by simpa using hT
            refine y_ifb a2 (eb_or (b := true) (eb_not (eb_B (ed_isiT (ed_var rfl) hs.ty))) fun hb => by rw [hT'] at hb; cases hb) (fun hb H3 a3 => ?_) fun hb H3 a3 => by simp at hb
            refine x_ret a3 ed_bl fun v H4 d' hd' a4 => ?_
            show Dn.rt v H4
            rw [hrt]
            refine hq ⟨_, rfl, ?_⟩ a4
            rw [hd', no (isT_no hT').1]
        · obtain ⟨x1, x2, rfl, rfl, hall⟩ := hI
          have yes := all_yes hall
          refine y_forN a2 (ei_tup (ed_op (ed_var rfl) ed_int (rd_ixT two_at.2))) (fun i ρ μ => ∃ x3 : Option D, ρ = [some (.tup [.tup ss, .tup cs]), x1, x2, x3] ∧ μ = [] ∧ ∀ j, j < i → clOk ss.length (cs.getD j .non) = true) ⟨none, rfl, rfl, fun j hj => absurd hj (Nat.not_lt_zero _)⟩ (fun i ρ' μ' τ1 σ3 H3 Dn hi hI a3 hnx hct hbk hrt => ?_) fun ρ' μ' σ3 H3 hI a3 => ?_
          · obtain ⟨x3, rfl, rfl, hcl⟩ := hI
            have hm : cs.getD i .non ∈ cs := List.mem_of_getElem? (getD_of hi)
            have hs : Sm (cs.getD i .non) := hy.2.all _ hm
            have no : clOk ss.length (cs.getD i .non) = false → isPl (.tup [.tup ss, .tup cs]) = false := fun z => by rw [isPl_two, all_no (n := cs.length) hi z, Bool.and_false]
            by_cases hT : isT (cs.getD i .non) = true
            · obtain ⟨rs, hrs⟩ := isT_eq hT
              rw [hrs] at a3 hs no
              have hz : rs.length ≤ 1000000 := hs.1
              have ce : clOk ss.length (.tup rs) = (((List.range rs.length).all fun j => isBelow ss.length (rs.getD j .non)) && ascD rs && decide (2 ≤ (rs.length : Int))) := rfl
              refine y_ifb a3 (eb_or (eb_not (eb_B (ed_isiT (ed_var rfl) hs.ty))) fun _ => eb_test (ed_op (ed_lcT (h := fun j => rs.getD j .non) (fun j => !isBelow ss.length (rs.getD j .non)) (ei_tup (ed_var rfl)) (by decide) hz (fun j hj cl => eb_not (eb_B (ed_p (ead_cons (ed_var rfl) (ead_cons ed_int (ead_cons (ed_op (ed_lenT (ed_op (ed_var rfl) ed_int (rd_ixT two_at.1))) ed_int rd_sub) ea_nil))) ⟨_, _, _, rfl, hs.2.all _ (List.mem_of_getElem? (getD_of hj))⟩ (by rintro e ⟨d', lo, hi', e1, rfl⟩; cases e1; rw [isIn_below])))) fun j hj _ cl => ed_var rfl) (ed_lst ea_nil (by decide)) rd_neE)) (fun hb H4 a4 => ?_) fun hb H4 a4 => ?_
              · refine x_ret a4 ed_bl fun v H5 d' hd' a5 => ?_
                show Dn.rt v H5
                rw [hrt]
                refine hq ⟨_, rfl, ?_⟩ a5
                rw [none_left] at hb
                have hb' : ((List.range rs.length).all fun j => isBelow ss.length (rs.getD j .non)) = false := by simpa [isT] using hb
                rw [hd', no (by rw [ce, hb']; rfl)]
              · rw [none_left] at hb
                have hb' : ((List.range rs.length).all fun j => isBelow ss.length (rs.getD j .non)) = true := by
                  have : (!(List.range rs.length).all fun j => !!isBelow ss.length (rs.getD j .non)) = false := by simpa [isT] using hb
                  simpa using this
                refine x_ifb a4 (eb_or (eb_test (ed_op (ed_lenT (ed_var rfl)) ed_int rd_ltI)) fun _ => eb_not (eb_B (ed_p (d := .bl (ascD rs)) (ead_cons (ed_var rfl) ea_nil) ⟨_, rfl, hz, .inl fun e he => isBelow_eq (getD_all (p := isBelow ss.length) hb' e he)⟩ (by rintro e ⟨d', e1, rfl⟩; cases e1; rfl)))) (fun hb2 H5 a5 => ?_) fun hb2 H5 a5 => x_next ?_
                · refine x_ret a5 ed_bl fun v H6 d' hd' a6 => ?_
                  show Dn.rt v H6
                  rw [hrt]
                  refine hq ⟨_, rfl, ?_⟩ a6
                  rw [hd', no (by
                    rw [ce]
                    by_cases z : (rs.length : Int) < 2
                    · rw [decide_eq_false (show ¬ 2 ≤ (rs.length : Int) by omega), Bool.and_false]
                    · rw [decide_eq_false z, Bool.false_or] at hb2
                      rw [show ascD rs = false by simpa using hb2, Bool.and_false, Bool.false_and])]
                · have hl2 : ¬ (rs.length : Int) < 2 := fun z => by rw [decide_eq_true z] at hb2; cases hb2
                  rw [decide_eq_false hl2, Bool.false_or] at hb2
                  refine hnx _ _ _ _ ⟨some (.tup rs), rfl, rfl, fun j hj => ?_⟩ a5
                  by_cases hji : j < i
                  · exact hcl j hji
                  · have : j = i := by omega
                    rw [this, hrs, ce, hb', show ascD rs = true by simpa using hb2, decide_eq_true (show 2 ≤ (rs.length : Int) by omega)]; rfl
            · have hT' : isT (cs.getD i .non) = false := by simpa using hT
              refine y_ifb a3 (eb_or (b := true) (eb_not (eb_B (ed_isiT (ed_var rfl) hs.ty))) fun hb => by rw [hT'] at hb; cases hb) (fun hb H4 a4 => ?_) fun hb H4 a4 => by simp at hb
              refine x_ret a4 ed_bl fun v H5 d' hd' a5 => ?_
              show Dn.rt v H5
              rw [hrt]
              refine hq ⟨_, rfl, ?_⟩ a5
              rw [hd', no ((isT_no hT').2 _)]
          · obtain ⟨x3, rfl, rfl, hcl⟩ := hI
            refine x_ret a3 ed_bl fun v H4 d' hd' a4 => hq ⟨_, rfl, ?_⟩ a4
            rw [hd', isPl_two, yes, all_yes hcl]; rfl
    · have ht' : isTup 2 d = false := by simpa using ht
      refine y_ifb a (eb_or (a := !isTup 2 d) (b := true) (eb_not (eb_B (ed_p (d := .bl (isTup 2 d)) (ead_cons (ed_var rfl) (ead_cons ed_int ea_nil)) ⟨_, _, rfl, hd⟩ (by rintro e ⟨d', n', e1, rfl⟩; cases e1; rfl)))) fun hb => by rw [ht'] at hb; cases hb) (fun hb H' a' => ?_) fun hb H' a' => by simp at hb
      refine x_ret a' ed_bl fun v H2 d' hd' a2 => hq ⟨_, rfl, ?_⟩ a2
      rw [hd', isPl_no2 ht']
end
end Cal


namespace Cal
open PySem PySem.Spec PyProof.Rows L2
abbrev s__law_deck : Stmt := topS 15
abbrev n__law_deck : List Str := ["script", "mixed", "cell"]
theorem sc__law_deck : FnScope n__law_deck ["script"] (defScope s__law_deck) := ⟨rfl, rfl, rfl, by decide +kernel, rfl, by decide +kernel, by decide +kernel⟩
abbrev s__law_draw : Stmt := topS 16
abbrev n__law_draw : List Str := ["deck", "many", "figure", "cell"]
theorem sc__law_draw : FnScope n__law_draw ["deck", "many"] (defScope s__law_draw) := ⟨rfl, rfl, rfl, by decide +kernel, rfl, by decide +kernel, by decide +kernel⟩
abbrev s__law_pick : Stmt := topS 17
abbrev n__law_pick : List Str := ["deck", "some"]
theorem sc__law_pick : FnScope n__law_pick ["deck", "some"] (defScope s__law_pick) := ⟨rfl, rfl, rfl, by decide +kernel, rfl, by decide +kernel, by decide +kernel⟩
section
variable {P : Program} {w : World} {K : PySem.W.Frag} {mg : Str → Option Value} {base : Heap} {f : Addr} {fd : FuncData}
abbrev BN : List Str := ["int", "len", "max"]
variable (bi : ∀ x, x ∈ BN → mg x = none)
/-- the draw: some number below many -/
abbrev sp__law_draw (K : PySem.W.Frag) : Sp := dsp K (fun es => ∃ n, es = [.int n] ∧ 1 ≤ n ∧ n ≤ 1000000) (fun es e => ∃ n r, es = [.int n] ∧ e = .int r ∧ 0 ≤ r ∧ r < n)
abbrev sp__law_pick (K : PySem.W.Frag) : Sp := dsp K (fun es => ∃ ds, es = [.lst ds] ∧ ds ≠ [] ∧ ds.length ≤ 1000000) (fun es e => ∃ ds, es = [.lst ds] ∧ e ∈ ds)
def isIntD (d : D) : Prop := ∃ z, d = .int z
theorem rdI {B : Bs} {r : R2} {ρ : Ro} {μ : Mu} {ta tb : TE} {g : Int → Int → Int} (hr : ∀ i j, RD B r ρ μ (.int i) (.int j) (fun e => e = .int (g i j))) (ha : Ev B ta ρ μ isIntD) (hb : Ev B tb ρ μ isIntD) : Ev B (tOp r ta tb) ρ μ isIntD :=
  ev_op ha hb fun d1 d2 ⟨i, e1⟩ ⟨j, e2⟩ => by
    subst e1; subst e2
    exact fun τ σ H x y a Q q => hr i j τ σ H x y a Q fun v H' d hd a' => q v H' d ⟨_, hd⟩ a'
theorem evI {B : Bs} {te : TE} {ρ : Ro} {μ : Mu} {i : Int} (h : Ed B te ρ μ (.int i)) : Ev B te ρ μ isIntD := h.ev ⟨i, rfl⟩
include bi in
theorem ok__law_draw (F : Fun K "_law_draw" "_law_draw" s__law_draw f fd) : FnOk P w K mg base CX0 1 f fd ["deck", "many"] (sp__law_draw K) := by
  refine F.ok sc__law_draw (fun vs H Q E h => ?_) (fun cdv A outer s H vs Q E hr h => ?_)
  · obtain ⟨dk, l, G, ds, h1, ⟨es, rfl, n, rfl, _⟩, _⟩ := h
    exact h1.length
  · have hu := hu_of hr
    obtain ⟨dk, l, G, es, ⟨n, rfl, hn1, hn2⟩, hlen, a, hq⟩ := dsp_start n__law_draw h
    refine ⟨_, (pss_cons (ps_dput hu (pv 0) pe_str (pe_op (r := rAddU K) u_add (pe_dget hu (pv 0) pe_str (fun _ _ => rfl)) pe_int) rfl)
      (pss_cons (ps_asg (pe_op (r := rAddU K) u_add (pe_dget hu (pv 0) pe_str (fun _ _ => rfl)) (pe_op u_mul2 pe_int (pe_dget hu (pv 0) pe_str (fun _ _ => rfl)))) (pg_name (i := 2) sc__law_draw.nd rfl (by first | exact (.inl rfl) | exact (.inr rfl))))
      (C8.pss_cut (ps_if (pt_cmpR (r := rNeD K) (u_ne hr.units) (pe_dget hu (pv 0) pe_str (fun _ _ => rfl)) (pe_lst pa_nil) (nomark _)) (pss_cons (ps_asg (pe_bm0 PySem.F.plainAttrs_list PySem.F.slot_list_pop PySem.F.type_list_pop mt_pop (pe_dget hu (pv 0) pe_str (fun _ _ => rfl))) (pg_name (i := 3) sc__law_draw.nd rfl (by first | exact (.inl rfl) | exact (.inr rfl))))
      (pss_cons (ps_if (pt_cmpR u_ge (pv 3) (pe_op op_pow pe_int pe_int) (nomark _)) (pss_cons (ps_expr (pe_bm PySem.F.plainAttrs_list PySem.F.slot_list_append PySem.F.type_list_append mt_append (pe_dget hu (pv 0) pe_str (fun _ _ => rfl)) (pa_cons (pe_op op_fdivW (pv 3) (pe_callB (id := "max") (call_max2 rfl) (by rfl) (bi "max" (by decide +kernel)) (by decide +kernel) (pa_cons pe_int (pa_cons (pv 1) pa_nil)))) pa_nil)))
      (pss_one (ps_ret (pe_op op_mod (pe_callTy (T := "int") call_int1 (by rfl) (bi "int" (by decide +kernel)) (by decide +kernel) (pa_cons (pv 3) pa_nil)) (pv 1))))) pss_nil)
      (pss_one (ps_asg (pe_op (r := rAddU K) u_add (pv 2) (pe_op op_mod (pe_callTy (T := "int") call_int1 (by rfl) (bi "int" (by decide +kernel)) (by decide +kernel) (pa_cons (pv 3) pa_nil)) pe_int)) (pg_name (i := 2) sc__law_draw.nd rfl (by first | exact (.inl rfl) | exact (.inr rfl))))))) pss_nil)
      (pss_cons (ps_asg (pe_op op_mod (pe_callTy (T := "int") call_int1 (by rfl) (bi "int" (by decide +kernel)) (by decide +kernel) (pa_cons (pe_op (r := rAddU K) u_add (pe_op u_mul2 (pv 2) pe_int) pe_int) pa_nil)) pe_int) (pg_name (i := 2) sc__law_draw.nd rfl (by first | exact (.inl rfl) | exact (.inr rfl))))
      (pss_cons (ps_asg (pe_op op_mod (pe_callTy (T := "int") call_int1 (by rfl) (bi "int" (by decide +kernel)) (by decide +kernel) (pa_cons (pe_op (r := rAddU K) u_add (pe_op (r := rAddU K) u_add (pe_op u_mul2 (pv 2) (pv 2)) (pe_op u_mul2 pe_int (pe_dget hu (pv 0) pe_str (fun _ _ => rfl)))) pe_int) pa_nil)) pe_int) (pg_name (i := 2) sc__law_draw.nd rfl (by first | exact (.inl rfl) | exact (.inr rfl))))
      (pss_cons (ps_asg (pe_op op_mod (pe_callTy (T := "int") call_int1 (by rfl) (bi "int" (by decide +kernel)) (by decide +kernel) (pa_cons (pe_op u_mul2 (pv 2) pe_int) pa_nil)) pe_int) (pg_name (i := 2) sc__law_draw.nd rfl (by first | exact (.inl rfl) | exact (.inr rfl))))
      (pss_one (ps_ret (pe_op op_mod (pe_callTy (T := "int") call_int1 (by rfl) (bi "int" (by decide +kernel)) (by decide +kernel) (pa_cons (pe_op op_fdivW (pv 2) pe_int) pa_nil)) (pv 1)))))))))), ?_⟩
    -- deck['draws'] = deck['draws'] + 1
    refine (y_putDraws a rfl (rdI (fun i j => rd_addI) (ev_draws rfl) (evI ed_int)) fun H1 a1 => ?_)
    -- figure = deck['mixed'] + 54059 * deck['draws']
    refine (y_setV a1 (rdI (fun i j => rd_addI) (ev_mixed rfl) (ev_op (P := isIntD) ed_int (ev_draws rfl) fun d1 d2 e1 ⟨j, e2⟩ => by
      subst e1; subst e2
      exact fun τ σ H x y a Q q => rd_mulI2 (.inl ⟨by decide, by decide⟩) τ σ H x y a Q fun v H' d hd a' => q v H' d ⟨_, hd⟩ a')) fun d σ2 H2 hd a2 => ?_)
    obtain ⟨z, rfl⟩ := hd
    -- if deck['left'] != []
    refine ⟨fun σ' H' => ∃ (z : Int) (c : Option D), At (Bd K dk l 64 G H) [some (.raw (.ref dk)), some (.int n), some (.int z), c] [] [] σ' H', ?_, ?_⟩
    · refine x_ifLeft a2 rfl (fun H3 a3 hne => ?_) (fun H3 a3 => x_next ⟨z, none, a3⟩)
      -- cell = deck['left'].pop()
      refine (y_popLeft (k := 63) a3 rfl hne fun c σ4 H4 a4 => ?_)
      -- if cell >= 10 ** 18
      refine (y_if (Pb := fun _ => True) a4 (et_test (P := fun d => ∃ b, d = .bl b) (ev_op (P1 := fun d => d = .int c) (P2 := isIntD) (ed_var rfl) (evI (ed_op ed_int ed_int (rd_pow ⟨by decide, by decide, by decide⟩))) fun d1 d2 e1 ⟨j, e2⟩ => by
        subst e1; subst e2
        exact fun τ σ H x y a Q q => rd_geI τ σ H x y a Q fun v H' d hd a' => q v H' d ⟨_, hd⟩ a') fun d ⟨b, e⟩ => ⟨b, e, True.intro⟩) (fun _ H5 a5 => ?_) fun _ H5 a5 => ?_)
      · -- deck['left'].append(cell // max(2, many)); return int(cell) % many
        refine (y_appLeft (k := 63) a5 rfl (evI (ed_op (ed_var rfl) (ed_cb (ead_cons ed_int (ead_cons (ed_var rfl) ea_nil)) rc_max) (rd_fdiv (wide_div (b := 30) (by omega) (by omega) (by decide) (by decide))))) (by decide) fun H6 a6 => ?_)
        exact x_ret a6 (ed_op (ed_cb (ead_cons (ed_var rfl) ea_nil) rc_intI) (ed_var rfl) (rd_mod (by omega))) fun v H7 d hd a7 => hq ⟨n, c % n, rfl, hd, Int.emod_nonneg _ (by omega), Int.emod_lt_of_pos _ (by omega)⟩ a7
      · -- figure = figure + int(cell) % 2147483629
        exact x_set (Bd.to (k' := 64) (by decide) a5) (ed_op (ed_var rfl) (ed_op (ed_cb (ead_cons (ed_var rfl) ea_nil) rc_intI) ed_int (rd_mod (by decide))) rd_addI) fun σ6 H6 a6 => ⟨_, _, a6⟩
    · rintro σ3 H3 ⟨z, c, a3⟩
      -- the figure is mixed three times
      refine (y_setV (P := fun d => ∃ y : Int, d = .int y ∧ 0 ≤ y ∧ y < 2147483647) a3 (Ev.imp (ed_op (ed_cb (ead_cons (ed_op (ed_op (ed_var rfl) ed_int (rd_mulI2 (.inr ⟨by decide, by decide⟩))) ed_int rd_addI) ea_nil) rc_intI) ed_int (rd_mod (by decide))) fun d hd => ⟨_, hd, Int.emod_nonneg _ (by decide), Int.emod_lt_of_pos _ (by decide)⟩) fun d σ4 H4 hd a4 => ?_)
      obtain ⟨y, rfl, b1, b2⟩ := hd
      refine (y_setV (P := isIntD) a4 (ev_op (P1 := isIntD) (P2 := fun d => d = .int 2147483587) ?_ ed_int fun d1 d2 ⟨i, e1⟩ e2 => by
        subst e1; subst e2
        exact fun τ σ H x y a Q q => rd_mod (by decide) τ σ H x y a Q fun v H' d hd a' => q v H' d ⟨_, hd⟩ a') fun d σ5 H5 hd a5 => ?_)
      · refine ev_cb (Ps := fun ds => ∃ z, ds = [.int z]) (ea_cons (P := isIntD) (rdI (fun i j => rd_addI) (rdI (fun i j => rd_addI) (evI (ed_op (ed_var rfl) (ed_var rfl) (rd_mulI2 (.inl ⟨by omega, by omega⟩)))) (ev_op (P := isIntD) ed_int (ev_draws rfl) fun d1 d2 e1 ⟨j, e2⟩ => by
            subst e1; subst e2
            exact fun τ σ H x y a Q q => rd_mulI2 (.inl ⟨by decide, by decide⟩) τ σ H x y a Q fun v H' d hd a' => q v H' d ⟨_, hd⟩ a')) (evI ed_int)) fun d ⟨z, e⟩ => by
            subst e
            exact fun τ σ H a Q q => ea_nil τ σ H a Q fun vs H' ds e => q vs H' ds ⟨z, by rw [e]⟩) fun ds ⟨z, e⟩ => by
          subst e
          exact fun τ σ H x y a Q q => rc_intI τ σ H x y a Q fun v H' d hd a' => q v H' d ⟨_, hd⟩ a'
      · obtain ⟨u, rfl⟩ := hd
        refine (y_set a5 (ed_op (ed_cb (ead_cons (ed_op (ed_var rfl) ed_int (rd_mulI2 (.inr ⟨by decide, by decide⟩))) ea_nil) rc_intI) ed_int (rd_mod (by decide))) fun σ6 H6 a6 => ?_)
        exact x_ret a6 (ed_op (ed_cb (ead_cons (ed_op (ed_var rfl) ed_int (rd_fdiv (wide_div (b := 30) (by decide) (by decide) (by decide) (by decide)))) ea_nil) rc_intI) (ed_var rfl) (rd_mod (by omega))) fun v H7 d hd a7 => hq ⟨n, _, rfl, hd, Int.emod_nonneg _ (by omega), Int.emod_lt_of_pos _ (by omega)⟩ a7
include bi in
theorem ok__law_pick (F : Fun K "_law_pick" "_law_pick" s__law_pick f fd) (c__law_draw : C8.Cal P w K mg base 1 "_law_draw" (sp__law_draw K) []) : FnOk P w K mg base CX0 2 f fd ["deck", "some"] (sp__law_pick K) := by
  refine F.ok sc__law_pick (fun vs H Q E h => ?_) (fun cdv A outer s H vs Q E hr h => ?_)
  · obtain ⟨dk, l, G, ds, h1, ⟨es, rfl, n, rfl, _⟩, _⟩ := h
    exact h1.length
  · have hu := hu_of hr
    obtain ⟨dk, l, G, es, ⟨ds, rfl, hn1, hn2⟩, hlen, a, hq⟩ := dsp_start n__law_pick h
    refine ⟨_, (pss_one (ps_ret (pe_ix (r := rIx K) ix_seq (pv 1) (C8.pe_c c__law_draw hr (by first | decide | omega) (by rfl) (pa_cons (pv 0) (pa_cons (pe_callB (id := "len") (r := rLenU K) u_len (by rfl) (bi "len" (by decide +kernel)) (by decide +kernel) (pa_cons (pv 1) pa_nil)) pa_nil))) (fun _ _ => rfl)))), ?_⟩
    have hp : 0 < ds.length := List.length_pos_iff.mpr hn1
    refine x_ret a (ev_op (P1 := fun d => d = .lst ds) (P2 := fun d => ∃ r : Int, d = .int r ∧ 0 ≤ r ∧ r < ds.length) (P := fun e => e ∈ ds) (ed_var rfl) (ed_d rfl (ead_cons (ed_lenL (ed_var rfl)) ea_nil) ⟨_, rfl, by omega, by omega⟩ (by rintro e ⟨n, r, e1, rfl, h1, h2⟩; cases e1; exact ⟨r, rfl, h1, h2⟩)) fun d1 d2 e1 ⟨r, e2, h1, h2⟩ => ?_) fun v H' d' hd' a' => hq ⟨_, rfl, hd'⟩ a'
    subst e1; subst e2
    exact rd_ixLP ⟨h1, h2⟩ fun d hd => hd
end
end Cal


namespace Cal
open PySem PySem.Spec PyProof.Rows L2
abbrev s__law_names : Stmt := topS 23
abbrev n__law_names : List Str := ["deck", "many", "left", "found", "turn", "letter"]
theorem sc__law_names : FnScope n__law_names ["deck", "many"] (defScope s__law_names) := ⟨rfl, rfl, rfl, by decide +kernel, rfl, by decide +kernel, by decide +kernel⟩
abbrev s__law_some : Stmt := topS 24
abbrev n__law_some : List Str := ["deck", "many", "least", "left", "found", "turn"]
theorem sc__law_some : FnScope n__law_some ["deck", "many", "least"] (defScope s__law_some) := ⟨rfl, rfl, rfl, by decide +kernel, rfl, by decide +kernel, by decide +kernel⟩
/-! ### names -/
def hdS (s : Str) : Nat := s.cps.getD 0 0
def NameS (s : Str) : Prop := 1 ≤ s.cps.size ∧ s.cps.size ≤ 10 ∧ ∀ c ∈ s.cps.toList, 97 ≤ c ∧ c ≤ 122
def Names (ss : List Str) : Prop := (∀ s ∈ ss, NameS s) ∧ (ss.map hdS).Nodup
theorem perm_erase {α : Type} {l : List α} {k : Nat} {c : α} (h : l[k]? = some c) : (c :: l.eraseIdx k).Perm l := by
  induction l generalizing k with
  | nil => simp at h
  | cons x r ih =>
    cases k with
    | zero =>
      have : x = c := by simpa using h
      rw [this]; exact List.Perm.refl _
    | succ k =>
      have h2 : r[k]? = some c := by simpa using h
      exact (List.Perm.swap x c (r.eraseIdx k)).trans (List.Perm.cons x (ih h2))
theorem nodup_move {α : Type} {A l : List α} {k : Nat} {c : α} (h : l[k]? = some c) (n : (A ++ l).Nodup) : ((A ++ [c]) ++ l.eraseIdx k).Nodup := by
  rw [List.append_assoc]
  exact (List.Perm.append_left A (perm_erase h)).nodup_iff.mpr n
abbrev sgD (c : Nat) : D := .str ⟨#[c]⟩
theorem sgD_erase (ls : List Nat) (k : Nat) : (ls.map sgD).eraseIdx k = (ls.eraseIdx k).map sgD := by
  rw [List.eraseIdx_eq_take_drop_succ, List.eraseIdx_eq_take_drop_succ, List.map_append, List.map_take, List.map_drop]
theorem mul9 (c : Nat) : Txt.mul ⟨#[c]⟩ 9 = ⟨#[c, c, c, c, c, c, c, c, c]⟩ := rfl
theorem mul9_ok (c : Nat) : MulOk ⟨#[c]⟩ 9 := ⟨by decide, fun _ _ => by show ¬ ((1 : Nat) : Int) > (2 ^ 63 - 1) / 9; decide, fun _ _ => by first | decide +kernel | rfl⟩
theorem app_cps (s t : Str) : (s ++ t).cps = s.cps ++ t.cps := rfl
theorem nameS_of {c : Nat} {t : Str} (hc : 97 ≤ c ∧ c ≤ 122) (ht : t.cps.size ≤ 9) (h : ∀ x ∈ t.cps.toList, 97 ≤ x ∧ x ≤ 122) : NameS (⟨#[c]⟩ ++ t) ∧ hdS (⟨#[c]⟩ ++ t) = c := by
  refine ⟨⟨?_, ?_, fun x hx => ?_⟩, ?_⟩
  · rw [app_cps, Array.size_append]; show 1 ≤ 1 + t.cps.size; omega
  · rw [app_cps, Array.size_append]; show 1 + t.cps.size ≤ 10; omega
  · rw [app_cps, Array.toList_append] at hx
    rcases List.mem_append.mp hx with e | e
    · have : x = c := by simpa using e
      rw [this]; exact hc
    · exact h x e
  · unfold hdS
    rw [app_cps, Array.getD_eq_getD_getElem?, Array.getElem?_append_left (by show 0 < 1; decide)]
    rfl
section
variable {P : Program} {w : World} {K : PySem.W.Frag} {mg : Str → Option Value} {base : Heap} {f : Addr} {fd : FuncData}
abbrev BN2 : List Str := ["len", "list", "max", "min", "range", "sorted", "tuple"]
variable (bi : ∀ x, x ∈ BN2 → mg x = none)
abbrev sp__law_names (K : PySem.W.Frag) : Sp := dsp K (fun es => ∃ n : Int, es = [.int n] ∧ 0 ≤ n ∧ n ≤ 26) (fun es e => ∃ (n : Int) (ss : List Str), es = [.int n] ∧ e = .lst (ss.map .str) ∧ (ss.length : Int) = n ∧ Names ss)
abbrev sp__law_some (K : PySem.W.Frag) : Sp := dsp K (fun es => ∃ m n : Int, es = [.int m, .int n] ∧ 0 ≤ m ∧ m ≤ 60) (fun es e => ∃ (m n : Int) (is : List Int), es = [.int m, .int n] ∧ e = .tup (is.map .int) ∧ is.Pairwise (· < ·) ∧ (∀ x ∈ is, 0 ≤ x ∧ x < m) ∧ min m (max n 1) ≤ (is.length : Int) ∧ (is.length : Int) ≤ m)
def abc : List Nat := [97, 98, 99, 100, 101, 102, 103, 104, 105, 106, 107, 108, 109, 110, 111, 112, 113, 114, 115, 116, 117, 118, 119, 120, 121, 122]
theorem abc_is : ((List.range ("abcdefghijklmnopqrstuvwxyz" : Str).cps.size).map fun i => D.str ⟨#[("abcdefghijklmnopqrstuvwxyz" : Str).cps.getD i 0]⟩) = abc.map sgD := by
  have e : (List.range ("abcdefghijklmnopqrstuvwxyz" : Str).cps.size).map (fun i => ("abcdefghijklmnopqrstuvwxyz" : Str).cps.getD i 0) = abc := by decide +kernel
  rw [← e, List.map_map]; rfl
include bi in
theorem ok__law_names (F : Fun K "_law_names" "_law_names" s__law_names f fd) (c__law_draw : C8.Cal P w K mg base 1 "_law_draw" (sp__law_draw K) []) (c__law_pick : C8.Cal P w K mg base 2 "_law_pick" (sp__law_pick K) []) : FnOk P w K mg base CX0 3 f fd ["deck", "many"] (sp__law_names K) := by
  refine F.ok sc__law_names (fun vs H Q E h => ?_) (fun cdv A outer s H vs Q E hr h => ?_)
  · obtain ⟨dk, l, G, ds, h1, ⟨es, rfl, n, rfl, _⟩, _⟩ := h
    exact h1.length
  · have hu := hu_of hr
    obtain ⟨dk, l, G, es, ⟨n, rfl, hn1, hn2⟩, hlen, a, hq⟩ := dsp_start n__law_names h
    refine ⟨_, (pss_cons (ps_par (i := 2) (j := 3) (by rfl) sc__law_names.nd rfl rfl (by decide) rfl rfl (pa_cons (pe_callTy (T := "list") (r := rLstOf K) (u_list rfl) (by rfl) (bi "list" (by decide +kernel)) (by decide +kernel) (pa_cons pe_str pa_nil)) (pa_cons (pe_lst pa_nil) pa_nil)) (by rfl))
      (pss_cons (ps_for PassesOwn.never rfl (pi_range1 (by rfl) (bi "range" (by decide +kernel)) (pa_cons (pv 1) pa_nil)) (pg_name (i := 4) sc__law_names.nd rfl (by first | exact (.inl rfl) | exact (.inr rfl)))
        (pss_cons (ps_asg (pe_bm PySem.F.plainAttrs_list PySem.F.slot_list_pop PySem.F.type_list_pop mt_popAt (pv 2) (pa_cons (C8.pe_c c__law_draw hr (by first | decide | omega) (by rfl) (pa_cons (pv 0) (pa_cons (pe_callB (id := "len") (r := rLenU K) u_len (by rfl) (bi "len" (by decide +kernel)) (by decide +kernel) (pa_cons (pv 2) pa_nil)) pa_nil))) pa_nil)) (pg_name (i := 5) sc__law_names.nd rfl (by first | exact (.inl rfl) | exact (.inr rfl))))
      (pss_one (ps_expr (pe_bm PySem.F.plainAttrs_list PySem.F.slot_list_append PySem.F.type_list_append mt_append (pv 3) (pa_cons (pe_op (r := rAddU K) u_add (pv 5) (C8.pe_c c__law_pick hr (by first | decide | omega) (by rfl) (pa_cons (pv 0) (pa_cons (pe_lst (pa_cons pe_str (pa_cons pe_str (pa_cons pe_str (pa_cons pe_str (pa_cons pe_str (pa_cons (pe_op u_mul2 (pv 5) pe_int) (pa_cons pe_str pa_nil)))))))) pa_nil)))) pa_nil))))))
      (pss_one (ps_ret (pv 3))))), ?_⟩
    -- left, found
    refine y_par2 (R := fun d μ' => ∃ p, d = .raw (.ref p) ∧ μ' = [(p, .lst (abc.map sgD))]) (R2' := fun _ μ1 d μ' => ∃ p, d = .raw (.ref p) ∧ μ' = (p, .lst []) :: μ1) a (Xv.imp (xl_signs ed_str (by decide +kernel)) fun d μ' ⟨p, e1, e2⟩ => ⟨p, e1, by rw [e2, abc_is]⟩) (fun d1 μ1 _ => xl_nil) fun d1 μ1 d2 μ2 σ1 H1 hr1 hr2 a1 => ?_
    obtain ⟨pl, rfl, rfl⟩ := hr1
    obtain ⟨pf, rfl, rfl⟩ := hr2
    refine y_forN a1 (ei_rng1 (ead_cons (ed_var rfl) ea_nil) ⟨by omega, by omega⟩) (fun i ρ μ => ∃ (ls : List Nat) (fs : List Str) (x4 x5 : Option D), ρ = [some (.raw (.ref dk)), some (.int n), some (.raw (.ref pl)), some (.raw (.ref pf)), x4, x5] ∧ μ = [(pf, .lst (fs.map .str)), (pl, .lst (ls.map sgD))] ∧
      ls.length = 26 - i ∧ fs.length = i ∧ (∀ s ∈ fs, NameS s) ∧ (∀ c ∈ ls, 97 ≤ c ∧ c ≤ 122) ∧ (fs.map hdS ++ ls).Nodup) ⟨abc, [], none, none, rfl, rfl, rfl, rfl, by simp, by decide, by decide⟩ (fun i ρ' μ' τ1 σ2 H2 Dn hi hI a2 hnx hct hbk hrt => ?_) fun ρ' μ' σ2 H2 hI a2 => ?_
    · obtain ⟨ls, fs, x4, x5, rfl, rfl, l1, l2, f1, f2, nd⟩ := hI
      have hpos : 0 < ls.length := by omega
      -- letter = left.pop(..)
      refine y_asg a2 (xv_popAt (k := 1) (o_var rfl) rfl (ed_d rfl (ead_cons (ed_cb (ead_cons (ed_var rfl) ea_nil) (rc_lenC (k := 1) rfl)) ea_nil) ⟨_, rfl, by rw [List.length_map]; omega, by rw [List.length_map]; omega⟩ (by rintro e ⟨n, r, e1, rfl, h1, h2⟩; cases e1; exact ⟨r, rfl, h1, h2⟩)) (by rw [List.length_map]; omega)) fun d μ2 σ3 H3 hd a3 => ?_
      obtain ⟨k, hk, hkd, rfl⟩ := hd
      rw [List.length_map] at hk
      obtain ⟨c, hc⟩ : ∃ c, ls[k]? = some c := ⟨ls[k], List.getElem?_eq_getElem hk⟩
      have ed : d = sgD c := by
        rw [List.getElem?_map, hc] at hkd
        exact (Option.some.inj hkd).symm
      subst ed
      have hc2 := f2 c (List.mem_of_getElem? hc)
      rw [sgD_erase] at a3
      -- found.append(letter + ..)
      refine x_append (k := 0) (R := fun d μ' => (∃ s : Str, d = .str s ∧ NameS s ∧ hdS s = c) ∧ μ' = [(pf, .lst (fs.map .str)), (pl, .lst ((ls.eraseIdx k).map sgD))]) a3 (o_var rfl) rfl (ev_op (P1 := fun d => d = .str ⟨#[c]⟩) (P2 := fun d => d ∈ ([.str "", .str "", .str "", .str "a", .str "zz", .str (Txt.mul ⟨#[c]⟩ 9), .str "bc"] : List D)) (ed_var rfl) (ed_d rfl (ead_cons (ed_lst (ead_cons ed_str (ead_cons ed_str (ead_cons ed_str (ead_cons ed_str (ead_cons ed_str (ead_cons (ed_op (ed_var rfl) ed_int (rd_mulS2 (mul9_ok c))) (ead_cons ed_str ea_nil))))))) (show 7 ≤ sizeLine by decide)) ea_nil) ⟨_, rfl, by simp, (show 7 ≤ 1000000 by decide)⟩ (by rintro e ⟨ds, e1, e2⟩; cases e1; exact e2)) fun d1 d2 e1 e2 => ?_) (fun d μ' ⟨_, e⟩ => by rw [e]; rfl) (by rw [List.length_map]; omega) fun d μ' H4 ⟨⟨s, e1, e2, e3⟩, e4⟩ a4 => ?_
      · subst e1
        obtain ⟨t, rfl, ht, hx⟩ : ∃ t : Str, d2 = .str t ∧ t.cps.size ≤ 9 ∧ ∀ x ∈ t.cps.toList, 97 ≤ x ∧ x ≤ 122 := by
          simp only [List.mem_cons, List.not_mem_nil, or_false] at e2
          rcases e2 with e | e | e | e | e | e | e
          · exact ⟨_, e, by decide, by decide⟩
          · exact ⟨_, e, by decide, by decide⟩
          · exact ⟨_, e, by decide, by decide⟩
          · exact ⟨_, e, by decide, by decide⟩
          · exact ⟨_, e, by decide, by decide⟩
          · refine ⟨_, e, by rw [mul9]; show 9 ≤ 9; decide, fun x hx => ?_⟩
            rw [mul9] at hx
            have : x = c := by simpa using hx
            rw [this]; exact hc2
          · exact ⟨_, e, by decide, by decide⟩
        exact fun τ σ H x y a Q q => rd_addS (by show 1 + t.cps.size ≤ sizeLine; exact Nat.le_trans (by omega : 1 + t.cps.size ≤ 1000) (by decide)) τ σ H x y a Q fun v H' d hd a' => q v H' d ⟨_, hd, (nameS_of hc2 ht hx).1, (nameS_of hc2 ht hx).2⟩ a'
      · subst e1; subst e4
        refine hnx _ _ _ _ ⟨ls.eraseIdx k, fs ++ [s], some (.int i), some (sgD c), rfl, by rw [List.map_append]; rfl, ?_, ?_, fun s' hs' => ?_, fun c' hc' => f2 c' (List.mem_of_mem_eraseIdx hc'), ?_⟩ a4
        · rw [List.length_eraseIdx, if_pos hk]; omega
        · rw [List.length_append, l2]; rfl
        · rcases List.mem_append.mp hs' with e | e
          · exact f1 s' e
          · rw [List.mem_singleton.mp e]; exact e2
        · rw [List.map_append, List.map_cons, List.map_nil, e3]
          exact nodup_move hc nd
    · obtain ⟨ls, fs, x4, x5, rfl, rfl, l1, l2, f1, f2, nd⟩ := hI
      exact x_retCell a2 rfl fun a3 => hq ⟨n, fs, rfl, rfl, by rw [l2]; omega, f1, (List.nodup_append.mp nd).1⟩ a3
theorem max1_le {n z m : Int} (h : 0 ≤ z ∧ (1 ≤ z ∨ m = 0)) : 0 ≤ max n z ∧ (max n 1 ≤ max n z ∨ m = 0) := by
  refine ⟨Int.le_trans h.1 (Int.le_max_right ..), ?_⟩
  rcases h.2 with h | h
  · exact .inl (Int.max_le.mpr ⟨Int.le_max_left .., Int.le_trans h (Int.le_max_right ..)⟩)
  · exact .inr h
theorem min_le1 {n z m : Int} (h : 0 ≤ z ∧ (max n 1 ≤ z ∨ m = 0)) (h0 : 0 ≤ m) : min m (max n 1) ≤ min m z ∧ min m z ≤ m := by
  refine ⟨?_, Int.min_le_left ..⟩
  have h1 : 1 ≤ max n 1 := Int.le_max_right ..
  generalize max n 1 = M at h h1 ⊢
  obtain ⟨h2, h | h⟩ := h
  · omega
  · subst h
    omega
theorem perm_sorted {is fs ls : List Int} (hp : is.Perm fs) (hs : is.Pairwise (· ≤ ·)) (hn : (fs ++ ls).Nodup) : is.Pairwise (· < ·) := by
  have h1 : is.Nodup := hp.nodup_iff.mpr (List.nodup_append.mp hn).1
  have h2 : is.Pairwise (fun a b => a ≤ b ∧ a ≠ b) := List.pairwise_and_iff.mpr ⟨hs, h1⟩
  exact h2.imp fun ⟨a, b⟩ => by omega
include bi in
theorem ok__law_some (F : Fun K "_law_some" "_law_some" s__law_some f fd) (c__law_draw : C8.Cal P w K mg base 1 "_law_draw" (sp__law_draw K) []) (c__law_pick : C8.Cal P w K mg base 2 "_law_pick" (sp__law_pick K) []) : FnOk P w K mg base CX0 3 f fd ["deck", "many", "least"] (sp__law_some K) := by
  refine F.ok sc__law_some (fun vs H Q E h => ?_) (fun cdv A outer s H vs Q E hr h => ?_)
  · obtain ⟨dk, l, G, ds, h1, ⟨es, rfl, n, m, rfl, _⟩, _⟩ := h
    exact h1.length
  · have hu := hu_of hr
    obtain ⟨dk, l, G, es, ⟨m, n, rfl, hm1, hm2⟩, hlen, a, hq⟩ := dsp_start n__law_some h
    refine ⟨_, (pss_cons (ps_par (i := 3) (j := 4) (by rfl) sc__law_some.nd rfl rfl (by decide) rfl rfl (pa_cons (pe_listRg rfl (by rfl) (bi "list" (by decide +kernel)) (prg_1 (by rfl) (bi "range" (by decide +kernel)) (pv 1))) (pa_cons (pe_lst pa_nil) pa_nil)) (by rfl))
      (pss_cons (ps_for PassesOwn.never rfl (pi_range1 (by rfl) (bi "range" (by decide +kernel)) (pa_cons (pe_callB (id := "min") (call_min2 rfl) (by rfl) (bi "min" (by decide +kernel)) (by decide +kernel) (pa_cons (pv 1) (pa_cons (pe_callB (id := "max") (call_max2 rfl) (by rfl) (bi "max" (by decide +kernel)) (by decide +kernel) (pa_cons (pv 2) (pa_cons (C8.pe_c c__law_pick hr (by first | decide | omega) (by rfl) (pa_cons (pv 0) (pa_cons (pe_lst (pa_cons pe_int (pa_cons pe_int (pa_cons pe_int (pa_cons pe_int (pa_cons pe_int (pa_cons pe_int (pa_cons pe_int (pa_cons (pv 1) pa_nil))))))))) pa_nil))) pa_nil))) pa_nil))) pa_nil)) (pg_name (i := 5) sc__law_some.nd rfl (by first | exact (.inl rfl) | exact (.inr rfl)))
        (pss_one (ps_expr (pe_bm PySem.F.plainAttrs_list PySem.F.slot_list_append PySem.F.type_list_append mt_append (pv 4) (pa_cons (pe_bm PySem.F.plainAttrs_list PySem.F.slot_list_pop PySem.F.type_list_pop mt_popAt (pv 3) (pa_cons (C8.pe_c c__law_draw hr (by first | decide | omega) (by rfl) (pa_cons (pv 0) (pa_cons (pe_callB (id := "len") (r := rLenU K) u_len (by rfl) (bi "len" (by decide +kernel)) (by decide +kernel) (pa_cons (pv 3) pa_nil)) pa_nil))) pa_nil)) pa_nil)))))
      (pss_one (ps_ret (pe_callTy (T := "tuple") (r := rTupOf K) u_tuple (by rfl) (bi "tuple" (by decide +kernel)) (by decide +kernel) (pa_cons (pe_callB (id := "sorted") (r := rSortU2 K) u_sorted (by rfl) (bi "sorted" (by decide +kernel)) (by decide +kernel) (pa_cons (pv 4) pa_nil)) pa_nil)))))), ?_⟩
    refine y_par2 (R := fun d μ' => ∃ p, d = .raw (.ref p) ∧ μ' = [(p, .lst ((List.range m.toNat).map fun k : Nat => D.int (k : Int)))]) (R2' := fun _ μ1 d μ' => ∃ p, d = .raw (.ref p) ∧ μ' = (p, .lst []) :: μ1) a (xl_range (ed_var rfl) ⟨hm1, by omega⟩) (fun d1 μ1 _ => xl_nil) fun d1 μ1 d2 μ2 σ1 H1 hr1 hr2 a1 => ?_
    obtain ⟨pl, rfl, rfl⟩ := hr1
    obtain ⟨pf, rfl, rfl⟩ := hr2
    have hpick : ∀ (ρ : Ro) (μ : Mu), ρ[0]? = some (some (.raw (.ref dk))) → ρ[1]? = some (some (.int m)) → Ev (Bd K dk l 64 G H) (tCall (sp__law_pick K) [] C8.E0 (tCons (tVar 0) (tCons (tLst (tCons (tC (.int 2)) (tCons (tC (.int 2)) (tCons (tC (.int 3)) (tCons (tC (.int 2)) (tCons (tC (.int 2)) (tCons (tC (.int 3)) (tCons (tC (.int 1)) (tCons (tVar 1) tNil))))))))) tNil))) ρ μ (fun d => ∃ z : Int, d = .int z ∧ 0 ≤ z ∧ (1 ≤ z ∨ m = 0)) := fun ρ μ h0 h1 =>
      ed_d h0 (ead_cons (ed_lst (ead_cons ed_int (ead_cons ed_int (ead_cons ed_int (ead_cons ed_int (ead_cons ed_int (ead_cons ed_int (ead_cons ed_int (ead_cons (ed_var h1) ea_nil)))))))) (show 8 ≤ sizeLine by decide)) ea_nil) ⟨_, rfl, by simp, (show 8 ≤ 1000000 by decide)⟩ (by
        rintro e ⟨ds, e1, e2⟩
        cases e1
        simp only [List.mem_cons, List.not_mem_nil, or_false] at e2
        rcases e2 with e | e | e | e | e | e | e | e <;> refine ⟨_, e, ?_⟩ <;> omega)
    refine y_forRP (Pi := fun i => min m (max n 1) ≤ i ∧ i ≤ m) a1 (ev_cb (ea2P (ed_var rfl) (ev_cb (P := fun d => ∃ z : Int, d = .int z ∧ 0 ≤ z ∧ (max n 1 ≤ z ∨ m = 0)) (ea2P (ed_var rfl) (hpick _ _ rfl rfl)) fun ds hds => by
      obtain ⟨d, e1, z, e2, e3⟩ := hds
      subst e1; subst e2
      exact rc_max.imp fun d hd => ⟨max n z, hd, max1_le e3⟩)) fun ds hds => by
      obtain ⟨d, e1, z, e2, e3⟩ := hds
      subst e1; subst e2
      exact rc_min.imp fun d hd => ⟨min m z, hd, (min_le1 e3 hm1).1, (min_le1 e3 hm1).2⟩) (fun i hi => ⟨by omega, by omega⟩)
      (fun mm i ρ μ => ∃ (ls fs : List Int) (x5 : Option D), ρ = [some (.raw (.ref dk)), some (.int m), some (.int n), some (.raw (.ref pl)), some (.raw (.ref pf)), x5] ∧ μ = [(pf, .lst (fs.map .int)), (pl, .lst (ls.map .int))] ∧
        (ls.length : Int) = m - i ∧ fs.length = i ∧ (∀ x ∈ fs, 0 ≤ x ∧ x < m) ∧ (∀ x ∈ ls, 0 ≤ x ∧ x < m) ∧ (fs ++ ls).Nodup) (fun mm hmm => ⟨(List.range m.toNat).map fun k : Nat => (k : Int), [], none, rfl, by rw [List.map_map]; rfl, by rw [List.length_map, List.length_range]; omega, rfl, by simp, fun x hx => ?_, ?_⟩) (fun mm i ρ' μ' τ1 σ2 H2 Dn hmm hi hI a2 hnx hct hbk hrt => ?_) fun mm ρ' μ' σ2 H2 hmm hI a2 => ?_
    · obtain ⟨k, hk, rfl⟩ := List.mem_map.mp hx
      have := List.mem_range.mp hk
      omega
    · rw [List.nil_append]
      exact List.pairwise_map.mpr (List.nodup_range.imp fun {a b} h e => h (by omega))
    · obtain ⟨ls, fs, x5, rfl, rfl, l1, l2, f1, f2, nd⟩ := hI
      refine x_append (k := 0) (R := fun d μ' => ∃ k z, d = .int z ∧ ls[k]? = some z ∧ μ' = [(pf, .lst (fs.map .int)), (pl, .lst ((ls.eraseIdx k).map .int))]) a2 (o_var rfl) rfl (Xv.imp (xv_popAt (k := 1) (o_var rfl) rfl (ed_d rfl (ead_cons (ed_cb (ead_cons (ed_var rfl) ea_nil) (rc_lenC (k := 1) rfl)) ea_nil) ⟨_, rfl, by rw [List.length_map]; omega, by rw [List.length_map]; omega⟩ (by rintro e ⟨n, r, e1, rfl, h1, h2⟩; cases e1; exact ⟨r, rfl, h1, h2⟩)) (by rw [List.length_map]; omega)) fun d μ' ⟨k, hk, hkd, e⟩ => ?_) (fun d μ' ⟨_, _, _, _, e⟩ => by rw [e]; rfl) (by rw [List.length_map]; omega) fun d μ' H4 ⟨k, z, e1, e2, e3⟩ a4 => ?_
      · rw [List.length_map] at hk
        have hc := List.getElem?_eq_getElem hk
        rw [List.getElem?_map, hc] at hkd
        refine ⟨k, ls[k], (Option.some.inj hkd).symm, hc, ?_⟩
        rw [e]
        show [_, (pl, Cl.lst ((ls.map D.int).eraseIdx k))] = _
        rw [List.eraseIdx_eq_take_drop_succ, List.eraseIdx_eq_take_drop_succ, List.map_append, List.map_take, List.map_drop]
      · subst e1; subst e3
        have hk : k < ls.length := (List.getElem?_eq_some_iff.mp e2).1
        refine hnx _ _ _ _ ⟨ls.eraseIdx k, fs ++ [z], some (.int i), rfl, by rw [List.map_append]; rfl, ?_, ?_, fun s' hs' => ?_, fun c' hc' => f2 c' (List.mem_of_mem_eraseIdx hc'), nodup_move e2 nd⟩ a4
        · rw [List.length_eraseIdx, if_pos hk]; omega
        · rw [List.length_append, l2]; rfl
        · rcases List.mem_append.mp hs' with e | e
          · exact f1 s' e
          · rw [List.mem_singleton.mp e]; exact f2 z (List.mem_of_getElem? e2)
    · obtain ⟨ls, fs, x5, rfl, rfl, l1, l2, f1, f2, nd⟩ := hI
      refine x_ret a2 (ev_cb (ea1P (ev_cb (P := fun d => ∃ js : List Int, d = .lst (js.map .int) ∧ js.Perm fs ∧ js.Pairwise (· ≤ ·)) (ead_cons (ed_var rfl) ea_nil) fun ds e => by
        subst e
        exact rc_sortC (k := 0) rfl (by omega) fun js h1 h2 => ⟨js, rfl, h1, h2⟩)) fun ds hds => by
        obtain ⟨d, e1, js, e2, e3, e4⟩ := hds
        subst e1; subst e2
        exact rc_tupL.imp (P' := fun d => ∃ js : List Int, d = .tup (js.map .int) ∧ js.Perm fs ∧ js.Pairwise (· ≤ ·)) fun d hd => ⟨js, hd, e3, e4⟩) fun v H3 d hd a3 => ?_
      obtain ⟨js, e1, e2, e3⟩ := hd
      refine hq ⟨m, n, js, rfl, e1, perm_sorted e2 e3 nd, fun x hx => f1 x (e2.mem_iff.mp hx), ?_, ?_⟩ a3
      · rw [e2.length_eq, l2]; omega
      · rw [e2.length_eq, l2]; omega
end
end Cal


namespace Cal
open PySem PySem.Spec PyProof.Rows L2
abbrev s__law_placement : Stmt := topS 25
abbrev n__law_placement : List Str := ["deck", "sites", "clients", "registers", "kept", "some", "site", "name", "visits", "client", "names"]
theorem sc__law_placement : FnScope n__law_placement ["deck", "sites", "clients", "registers"] (defScope s__law_placement) := ⟨rfl, rfl, rfl, by decide +kernel, rfl, by decide +kernel, by decide +kernel⟩
/-! ### a placement -/
def PlD (s c r : Int) (e : D) : Prop := ∃ (kept : List (List Str)) (vis : List (List Int)), e = .tup [.tup (kept.map fun k => .tup (k.map .str)), .tup (vis.map fun v => .tup (v.map .int))] ∧ (kept.length : Int) = s ∧ (vis.length : Int) = c ∧
  (∀ k ∈ kept, sortedS k = true ∧ Names k ∧ (k.length : Int) ≤ r) ∧ ∀ v ∈ vis, v.Pairwise (· < ·) ∧ (∀ x ∈ v, 0 ≤ x ∧ x < s) ∧ min s 2 ≤ (v.length : Int) ∧ (v.length : Int) ≤ s
theorem Names.sub {ss rs : List Str} (h : rs.Sublist ss) (n : Names ss) : Names rs := ⟨fun s hs => n.1 s (h.subset hs), (h.map hdS).nodup n.2⟩
theorem Names.perm {ss rs : List Str} (h : rs.Perm ss) (n : Names ss) : Names rs := ⟨fun s hs => n.1 s (h.mem_iff.mp hs), (h.map hdS).nodup_iff.mpr n.2⟩
theorem atI_of {α : Type} {ds : List α} {x : Int} {d : α} (h0 : 0 ≤ x) (h : ds[x.toNat]? = some d) : atI ds x = some d := by
  have hl := (List.getElem?_eq_some_iff.mp h).1
  unfold atI ixN
  rw [if_pos h0, if_pos (by omega)]
  exact h
theorem take_succ {α : Type} {l : List α} {i : Nat} {x : α} (h : l[i]? = some x) : l.take (i + 1) = l.take i ++ [x] := by
  rw [List.take_add_one, h]; rfl
theorem ge_all {P : D → Prop} {n : Nat} {ds : List D} {α : Type} {f : α → D} {Q : α → Prop} (hl : ds.length = n) (h : ∀ (i : Nat) (d : D), ds[i]? = some d → ∃ a, d = f a ∧ Q a) : ∃ as : List α, ds = as.map f ∧ as.length = n ∧ ∀ a ∈ as, Q a := by
  induction ds generalizing n with
  | nil => exact ⟨[], rfl, by simpa using hl, fun a ha => by cases ha⟩
  | cons d r ih =>
    obtain ⟨a, e, q⟩ := h 0 d rfl
    obtain ⟨as, e1, e2, e3⟩ := ih rfl fun i d hd => h (i + 1) d (by simpa using hd)
    exact ⟨a :: as, by rw [e, e1]; rfl, by rw [List.length_cons, e2]; simpa using hl, fun b hb => by
      rcases List.mem_cons.mp hb with z | z
      · rw [z]; exact q
      · exact e3 b z⟩
section
variable {P : Program} {w : World} {K : PySem.W.Frag} {mg : Str → Option Value} {base : Heap} {f : Addr} {fd : FuncData}
abbrev BN3 : List Str := ["range", "sorted", "tuple"]
variable (bi : ∀ x, x ∈ BN3 → mg x = none)
abbrev sp__law_placement (K : PySem.W.Frag) : Sp := dsp K (fun es => ∃ s c r : Int, es = [.int s, .int c, .int r] ∧ (0 ≤ s ∧ s ≤ 60) ∧ (0 ≤ c ∧ c ≤ 60) ∧ 0 ≤ r ∧ r ≤ 26) (fun es e => ∃ s c r : Int, es = [.int s, .int c, .int r] ∧ PlD s c r e)
abbrev rowD (r : List Str) : List D := r.map D.str
include bi in
theorem ok__law_placement (F : Fun K "_law_placement" "_law_placement" s__law_placement f fd) (c__law_names : C8.Cal P w K mg base 3 "_law_names" (sp__law_names K) []) (c__law_some : C8.Cal P w K mg base 3 "_law_some" (sp__law_some K) []) : FnOk P w K mg base CX0 4 f fd ["deck", "sites", "clients", "registers"] (sp__law_placement K) := by
  refine F.ok sc__law_placement (fun vs H Q E h => ?_) (fun cdv A outer s H vs Q E hr h => ?_)
  · obtain ⟨dk, l, G, ds, h1, ⟨es, rfl, n, m, o, rfl, _⟩, _⟩ := h
    exact h1.length
  · have hu := hu_of hr
    obtain ⟨dk, l, G, es, ⟨ns, nc, nr, rfl, ⟨hs1, hs2⟩, ⟨hc1, hc2⟩, hr1, hr2⟩, hlen, a, hq⟩ := dsp_start n__law_placement h
    refine ⟨_, (pss_cons (ps_par (i := 4) (j := 5) (by rfl) sc__law_placement.nd rfl rfl (by decide) rfl rfl (pa_cons (pe_lc (own := [("site", 6)]) (g := gName 6) (tt := tYes) rfl sc__law_placement.nd (pi_range1 (by rfl) (bi "range" (by decide +kernel)) (pa_cons (pv 1) pa_nil)) (blkOk_by (N := n__law_placement) (sc := defScope s__law_placement) (by decide +kernel)) (fun _ _ _ _ _ => (pg_name (i := 6) sc__law_placement.nd rfl (by first | exact (.inl rfl) | exact (.inr rfl)))) (fun _ _ _ _ _ => pts_nil) (fun _ _ _ _ _ => (pe_lst pa_nil))) (pa_cons (C8.pe_c c__law_names hr (by first | decide | omega) (by rfl) (pa_cons (pv 0) (pa_cons (pv 3) pa_nil))) pa_nil)) (by rfl))
      (pss_cons (ps_for PassesOwn.never rfl (pi_list (pv 5)) (pg_name (i := 7) sc__law_placement.nd rfl (by first | exact (.inl rfl) | exact (.inr rfl)))
        (pss_one (ps_for PassesOwn.never rfl (pi_tup (C8.pe_c c__law_some hr (by first | decide | omega) (by rfl) (pa_cons (pv 0) (pa_cons (pv 1) (pa_cons pe_int pa_nil))))) (pg_name (i := 6) sc__law_placement.nd rfl (by first | exact (.inl rfl) | exact (.inr rfl)))
        (pss_one (ps_expr (pe_bm PySem.F.plainAttrs_list PySem.F.slot_list_append PySem.F.type_list_append mt_append (pe_ix (r := rIx K) ix_seq (pv 4) (pv 6) (fun _ _ => rfl)) (pa_cons (pv 7) pa_nil)))))))
      (pss_cons (ps_setLc (i := 8) (own := [("client", 9)]) (g := gName 9) (tt := tYes) rfl sc__law_placement.nd rfl rfl (sw_true rfl rfl rfl (by decide +kernel)) (pi_range1 (by rfl) (bi "range" (by decide +kernel)) (pa_cons (pv 2) pa_nil)) (blkOk_by (N := n__law_placement) (sc := defScope s__law_placement) (by decide +kernel)) (fun _ _ _ _ _ => (pg_name (i := 9) sc__law_placement.nd rfl (by first | exact (.inl rfl) | exact (.inr rfl)))) (fun _ _ _ _ _ => pts_nil) (fun _ _ _ _ _ => (C8.pe_c c__law_some hr (by first | decide | omega) (by rfl) (pa_cons (pv 0) (pa_cons (pv 1) (pa_cons pe_int pa_nil))))))
      (pss_one (ps_ret (pe_tup (pa_cons (pe_callTy (T := "tuple") (r := rTupOf K) u_tuple (by rfl) (bi "tuple" (by decide +kernel)) (by decide +kernel) (pa_cons (pe_lc (own := [("names", 10)]) (g := gName 10) (tt := tYes) rfl sc__law_placement.nd (pi_list (pv 4)) (blkOk_by (N := n__law_placement) (sc := defScope s__law_placement) (by decide +kernel)) (fun _ _ _ _ _ => (pg_name (i := 10) sc__law_placement.nd rfl (by first | exact (.inl rfl) | exact (.inr rfl)))) (fun _ _ _ _ _ => pts_nil) (fun _ _ _ _ _ => (pe_callTy (T := "tuple") (r := rTupOf K) u_tuple (by rfl) (bi "tuple" (by decide +kernel)) (by decide +kernel) (pa_cons (pe_callB (id := "sorted") (r := rSortU2 K) u_sorted (by rfl) (bi "sorted" (by decide +kernel)) (by decide +kernel) (pa_cons (pv 10) pa_nil)) pa_nil)))) pa_nil)) (pa_cons (pe_callTy (T := "tuple") (r := rTupOf K) u_tuple (by rfl) (bi "tuple" (by decide +kernel)) (by decide +kernel) (pa_cons (pv 8) pa_nil)) pa_nil)))))))), ?_⟩
    -- kept, some
    refine y_par2 (R := fun d μ' => ∃ (p : Addr) (ls : List Addr), ls.length = ns.toNat ∧ d = rr p ∧ μ' = (p, .lst (ls.map rr)) :: (rowsMu ls (ls.map fun _ => []) ++ [])) (R2' := fun _ μ1 d μ' => (∃ ss : List Str, d = .lst (rowD ss) ∧ (ss.length : Int) = nr ∧ Names ss) ∧ μ' = μ1) a (xl_rows (ead_cons (ed_var rfl) ea_nil) ⟨hs1, by omega⟩ (by decide)) (fun d1 μ1 _ => ed_d rfl (ead_cons (ed_var rfl) ea_nil) ⟨_, rfl, hr1, hr2⟩ (by rintro e ⟨n, ss, e1, e2, e3, e4⟩; cases e1; exact ⟨ss, e2, e3, e4⟩)) fun d1 μ1 d2 μ2 σ1 H1 hh1 hh2 a1 => ?_
    obtain ⟨pk, ls, hls, rfl, rfl⟩ := hh1
    obtain ⟨⟨ss, rfl, hss, hnm⟩, rfl⟩ := hh2
    -- for name in some
    refine y_forN a1 (ei_lst (ed_var rfl)) (fun i ρ μ => ∃ (rows : List (List Str)) (x6 x7 : Option D), ρ = [some (.raw (.ref dk)), some (.int ns), some (.int nc), some (.int nr), some (rr pk), some (.lst (rowD ss)), x6, x7, none, none, none] ∧ μ = (pk, .lst (ls.map rr)) :: (rowsMu ls (rows.map rowD) ++ []) ∧
      rows.length = ns.toNat ∧ ∀ r ∈ rows, r.Sublist (ss.take i)) ⟨ls.map fun _ => [], none, none, rfl, by rw [List.map_map]; rfl, by rw [List.length_map, hls], fun r hr => by
        obtain ⟨_, _, e⟩ := List.mem_map.mp hr
        rw [← e]; exact List.nil_sublist _⟩ (fun i ρ' μ' τ1 σ2 H2 Dn hi hI a2 hnx hct hbk hrt => ?_) fun ρ' μ' σ2 H2 hI a2 => ?_
    · obtain ⟨rows, x6, x7, rfl, rfl, hrl, hsub⟩ := hI
      have hi' : i < ss.length := by simpa using hi
      obtain ⟨nm, hnmi⟩ : ∃ nm, ss[i]? = some nm := ⟨ss[i], List.getElem?_eq_getElem hi'⟩
      have enm : (rowD ss).getD i .non = .str nm := by
        rw [List.getD_eq_getElem?_getD, List.getElem?_map, hnmi]; rfl
      rw [enm] at a2
      -- for site in _law_some(deck, sites, 1)
      refine x_forTP (Pd := fun ds => ∃ is : List Int, ds = is.map .int ∧ is.Pairwise (· < ·) ∧ ∀ x ∈ is, 0 ≤ x ∧ x < ns) a2 (ed_d rfl (ead_cons (ed_var rfl) (ead_cons ed_int ea_nil)) ⟨_, _, rfl, hs1, hs2⟩ (by rintro e ⟨m, n, is, e1, e2, e3, e4, e5⟩; cases e1; exact ⟨_, e2, is, rfl, e3, e4⟩))
        (fun ds j ρ μ => ∃ (rows : List (List Str)) (x6 : Option D), ρ = [some (.raw (.ref dk)), some (.int ns), some (.int nc), some (.int nr), some (rr pk), some (.lst (rowD ss)), x6, some (.str nm), none, none, none] ∧ μ = (pk, .lst (ls.map rr)) :: (rowsMu ls (rows.map rowD) ++ []) ∧
          rows.length = ns.toNat ∧ ∀ (k : Nat) (r : List Str), rows[k]? = some r → r.Sublist (ss.take i) ∨ ((.int (k : Int) : D) ∈ ds.take j ∧ ∃ r0, r = r0 ++ [nm] ∧ r0.Sublist (ss.take i))) (fun ds hds => ⟨rows, x6, rfl, rfl, hrl, fun k r hk => .inl (hsub r (List.mem_of_getElem? hk))⟩) (fun ds j ρ' μ' τ2 σ3 H3 Dn2 hds hj hI _ a3 hnx2 hct2 hbk2 hrt2 => ?_) fun ds ρ' μ' σ3 H3 hds hI a3 => ?_
      · obtain ⟨is, rfl, hpw, hbd⟩ := hds
        obtain ⟨rows2, x62, rfl, rfl, hrl2, hsub2⟩ := hI
        have hj' : j < is.length := by simpa using hj
        obtain ⟨x, hx⟩ : ∃ x, is[j]? = some x := ⟨is[j], List.getElem?_eq_getElem hj'⟩
        have ex : (is.map D.int).getD j .non = .int x := by
          rw [List.getD_eq_getElem?_getD, List.getElem?_map, hx]; rfl
        rw [ex] at a3
        obtain ⟨b1, b2⟩ := hbd x (List.mem_of_getElem? hx)
        have hxl : x.toNat < ls.length := by omega
        have hxr : x.toNat < rows2.length := by omega
        have el : ls[x.toNat]? = some ls[x.toNat] := List.getElem?_eq_getElem hxl
        have er : rows2[x.toNat]? = some rows2[x.toNat] := List.getElem?_eq_getElem hxr
        have hg := rowsMu_get el (show (rows2.map rowD)[x.toNat]? = some (rowD rows2[x.toNat]) by rw [List.getElem?_map, er]; rfl)
        have hgl := (List.getElem?_eq_some_iff.mp hg).1
        refine x_append (k := x.toNat + 1) (ds := rowD rows2[x.toNat]) (R := fun d μ' => d = .str nm ∧ μ' = (pk, .lst (ls.map rr)) :: (rowsMu ls (rows2.map rowD) ++ [])) a3 (ho_of (ed_op (ed_var rfl) (ed_var rfl) (rd_ixC (k := 0) rfl (atI_of b1 (by rw [List.getElem?_map, el]; rfl))))) (by rw [List.getElem?_cons_succ, List.getElem?_append_left hgl]; exact hg) (ed_var rfl) (fun d μ' ⟨_, e⟩ => by rw [e, List.getElem?_cons_succ, List.getElem?_append_left hgl]; exact hg) ?_ fun d μ' H4 ⟨e1, e2⟩ a4 => ?_
        · rw [List.length_map]
          have hk := hsub2 _ _ er
          have hlen2 : rows2[x.toNat].length ≤ ss.length + 1 := by
            rcases hk with h | ⟨_, r0, h1, h2⟩
            · have := h.length_le
              have := List.length_take_le i ss
              omega
            · have := h2.length_le
              have := List.length_take_le i ss
              rw [h1, List.length_append]
              show r0.length + 1 ≤ _
              omega
          omega
        · subst e1; subst e2
          refine hnx2 _ _ _ _ ⟨rows2.set x.toNat (rows2[x.toNat] ++ [nm]), some (.int x), rfl, ?_, by rw [List.length_set, hrl2], fun k r hk => ?_⟩ a4
          · rw [List.set_cons_succ, List.set_append_left _ _ hgl, rowsMu_set el, List.map_set]
            show (pk, Cl.lst (ls.map rr)) :: (rowsMu ls ((rows2.map rowD).set x.toNat (rowD rows2[x.toNat] ++ [D.str nm])) ++ []) = _
            rw [show rowD rows2[x.toNat] ++ [D.str nm] = rowD (rows2[x.toNat] ++ [nm]) by rw [rowD, rowD, List.map_append]; rfl]
          · have etk : (is.map D.int).take (j + 1) = (is.map D.int).take j ++ [.int x] := take_succ (by rw [List.getElem?_map, hx]; rfl)
            by_cases hkx : x.toNat = k
            · subst hkx
              rw [List.getElem?_set_self hxr] at hk
              have hr := Option.some.inj hk
              refine .inr ⟨by rw [etk]; refine List.mem_append_right _ ?_; rw [show ((x.toNat : Nat) : Int) = x by omega]; exact List.mem_singleton.mpr rfl, rows2[x.toNat], hr.symm, ?_⟩
              rcases hsub2 _ _ er with h | ⟨hm, _⟩
              · exact h
              · exfalso
                rw [show ((x.toNat : Nat) : Int) = x by omega, ← List.map_take] at hm
                obtain ⟨y, hy, e⟩ := List.mem_map.mp hm
                have e' : y = x := D.int.inj e
                subst e'
                obtain ⟨q, hq1, hq2⟩ := List.mem_take_iff_getElem.mp hy
                have hq3 : q < j := by omega
                have := List.pairwise_iff_getElem.mp hpw q j (by omega) hj' hq3
                have e2 : is[j] = y := (List.getElem?_eq_some_iff.mp hx).2
                omega
            · rw [List.getElem?_set_ne hkx] at hk
              rcases hsub2 _ _ hk with h | ⟨hm, h⟩
              · exact .inl h
              · exact .inr ⟨by rw [etk]; exact List.mem_append_left _ hm, h⟩
      · obtain ⟨is, rfl, hpw, hbd⟩ := hds
        obtain ⟨rows2, x62, rfl, rfl, hrl2, hsub2⟩ := hI
        refine hnx _ _ _ _ ⟨rows2, x62, some (.str nm), rfl, rfl, hrl2, fun r hr => ?_⟩ a3
        obtain ⟨k, hk⟩ := List.mem_iff_getElem?.mp hr
        rw [take_succ hnmi]
        rcases hsub2 k r hk with h | ⟨_, r0, h1, h2⟩
        · exact h.trans (List.sublist_append_left _ _)
        · rw [h1]; exact List.Sublist.append_right h2 _
    · obtain ⟨rows, x6, x7, rfl, rfl, hrl, hsub⟩ := hI
      -- all rows are told; visits
      have a3 := At.reslot (k := 4) (freezeAll (by rw [List.length_map, hls, hrl]) a2) rfl
      refine y_setV (P := fun d => ∃ vis : List (List Int), d = .lst (vis.map fun v => .tup (v.map .int)) ∧ vis.length = nc.toNat ∧ ∀ v ∈ vis, v.Pairwise (· < ·) ∧ (∀ x ∈ v, 0 ≤ x ∧ x < ns) ∧ min ns 2 ≤ (v.length : Int) ∧ (v.length : Int) ≤ ns) a3 (ev_lc0 (ei_rng1 (ead_cons (ed_var rfl) ea_nil) ⟨by omega, by omega⟩) (by decide) (by omega) (fun i d => ∃ v : List Int, d = .tup (v.map .int) ∧ v.Pairwise (· < ·) ∧ (∀ x ∈ v, 0 ≤ x ∧ x < ns) ∧ min ns 2 ≤ (v.length : Int) ∧ (v.length : Int) ≤ ns) (fun i hi cl => ed_d rfl (ead_cons (ed_var rfl) (ead_cons ed_int ea_nil)) ⟨_, _, rfl, hs1, hs2⟩ (by
          rintro e ⟨m, n, is, e1, e2, e3, e4, e5, e6⟩; cases e1; exact ⟨is, e2, e3, e4, e5, e6⟩)) fun ds hl hd => ?_) fun d σ4 H4 hd a4 => ?_
      · obtain ⟨as, e1, e2, e3⟩ := ge_all (P := fun _ => True) (f := fun v : List Int => D.tup (v.map .int)) hl hd
        exact ⟨as, by rw [e1], e2, e3⟩
      · obtain ⟨vis, rfl, hv1, hv2⟩ := hd
        refine x_ret a4 (ev_tup (P := PlD ns nc nr) (Ps := fun ds => ∃ kept : List (List Str), ds = [.tup (kept.map fun k => .tup (k.map .str)), .tup (vis.map fun v => .tup (v.map .int))] ∧ (kept.length : Int) = ns ∧ ∀ k ∈ kept, sortedS k = true ∧ Names k ∧ (k.length : Int) ≤ nr) (ea_cons (P := fun d => ∃ kept : List (List Str), d = .tup (kept.map fun k => .tup (k.map .str)) ∧ (kept.length : Int) = ns ∧ ∀ k ∈ kept, sortedS k = true ∧ Names k ∧ (k.length : Int) ≤ nr) ?_ fun d ⟨kept, e1, e2, e3⟩ => (ead_cons (ed_tupL (ed_var rfl)) ea_nil).imp fun ds e => ⟨kept, by rw [e, e1], e2, e3⟩) fun ds ⟨kept, e1, e2, e3⟩ => ⟨by rw [e1]; show 2 ≤ sizeLine; decide, kept, vis, by rw [e1], e2, by omega, e3, hv2⟩) fun v H5 d hd a5 => hq ⟨ns, nc, nr, rfl, hd⟩ a5
        refine ev_cb (ea1P (ev_lc0 (P := fun d => ∃ kept : List (List Str), d = .lst (kept.map fun k => .tup (k.map .str)) ∧ (kept.length : Int) = ns ∧ ∀ k ∈ kept, sortedS k = true ∧ Names k ∧ (k.length : Int) ≤ nr) (ei_lst (ds := rows.map fun r => .lst (rowD r)) (Ed.is (ed_var rfl) (by rw [List.map_map]; rfl))) (by decide) (by rw [List.length_map]; omega) (fun i d => ∃ k : List Str, d = .tup (k.map .str) ∧ sortedS k = true ∧ Names k ∧ (k.length : Int) ≤ nr) (fun i hi cl => ?_) fun ds hl hd => ?_)) fun ds hds => ?_
        · have hi' : i < rows.length := by simpa using hi
          have er : rows[i]? = some rows[i] := List.getElem?_eq_getElem hi'
          have hsb := hsub _ (List.mem_of_getElem? er)
          have hN : Names rows[i] := (hnm.sub (List.take_sublist _ _)).sub hsb
          have hle : (rows[i].length : Int) ≤ nr := by
            have := hsb.length_le
            have := List.length_take_le (rowD ss).length ss
            have : (ss.take (rowD ss).length).length ≤ ss.length := List.length_take_le' _ _
            omega
          refine ev_cb (ea1P (ev_cb (P := fun d => ∃ js : List Str, d = .lst (js.map .str) ∧ js.Perm rows[i] ∧ sortedS js = true) (ead_cons (d := .lst (rowD rows[i])) (Ed.is (ed_var rfl) ?_) ea_nil) fun ds e => ?_)) fun ds hds => ?_
          · rw [List.getD_eq_getElem?_getD, List.getElem?_map, er]; rfl
          · subst e
            exact rc_sortS (by omega) fun js h1 h2 => ⟨js, rfl, h1, h2⟩
          · obtain ⟨d, rfl, js, rfl, h1, h2⟩ := hds
            exact rc_tupL.imp fun d hd => ⟨js, hd, h2, hN.perm h1, by rw [h1.length_eq]; exact hle⟩
        · obtain ⟨as, e1, e2, e3⟩ := ge_all (P := fun _ => True) (f := fun v : List Str => D.tup (v.map .str)) hl hd
          rw [List.length_map] at e2
          exact ⟨as, by rw [e1], by omega, e3⟩
        · obtain ⟨d, rfl, kept, rfl, h1, h2⟩ := hds
          exact rc_tupL.imp fun d hd => ⟨kept, hd, h1, h2⟩
end
end Cal


namespace Cal
open PySem PySem.Spec PyProof.Rows L2
abbrev s__law_leaf : Stmt := topS 26
abbrev n__law_leaf : List Str := ["deck", "thing", "odd"]
theorem sc__law_leaf : FnScope n__law_leaf ["deck", "thing"] (defScope s__law_leaf) := ⟨rfl, rfl, rfl, by decide +kernel, rfl, by decide +kernel, by decide +kernel⟩
abbrev s__law_bent : Stmt := topS 27
abbrev n__law_bent : List Str := ["deck", "thing", "deep", "at"]
theorem sc__law_bent : FnScope n__law_bent ["deck", "thing", "deep"] (defScope s__law_bent) := ⟨rfl, rfl, rfl, by decide +kernel, rfl, by decide +kernel, by decide +kernel⟩
/-! ### a part put by another value -/
theorem leafT {ds : List D} (h : ptD (.tup ds) = true) : ThA (12 * wd (.tup ds) + 2000) (dep (.tup ds) + 2) [.lst ds, .tup ds.reverse, .tup (cutD ds (some 1) none), .tup (ds ++ cutD ds (some (-1)) none), .tup (ds ++ [.int 0]), .tup (cutD ds none (some (-1))), .tup [.tup ds], .tup (ds ++ [.tup []])] := by
  have h' : ptA ds = true := by simpa only [ptD] using h
  have hc : ∀ d ∈ ds, cl d = true := fun d hd => pt_cl (ptA_mem h' d hd)
  have hw : wd (.tup ds) = wdA ds + 3 := rfl
  have hd : dep (.tup ds) = depA ds + 1 := rfl
  have cu : ∀ lo hi, wdA (cutD ds lo hi) ≤ wdA ds ∧ depA (cutD ds lo hi) ≤ depA ds ∧ ∀ d ∈ cutD ds lo hi, cl d = true := fun lo hi => ⟨wdA_sub (cutD_sub ds lo hi), depA_sub fun d z => (cutD_sub ds lo hi).subset z, fun d z => hc d ((cutD_sub ds lo hi).subset z)⟩
  rw [hw, hd]
  refine ⟨.lst hc (by omega) (by omega), .tup (fun d z => hc d (List.mem_reverse.mp z)) (by rw [wdA_perm (List.reverse_perm ds)]; omega) (by have := depA_sub (as := ds.reverse) (bs := ds) fun d z => List.mem_reverse.mp z; omega), .tup (cu _ _).2.2 (by have := (cu (some 1) none).1; omega) (by have := (cu (some 1) none).2.1; omega), .tup (fun d z => ?_) (by have := (cu (some (-1)) none).1; rw [wdA_app]; omega) (by have := (cu (some (-1)) none).2.1; rw [depA_app]; omega),
    .tup (fun d z => ?_) (by rw [wdA_app]; show wdA ds + (210 + 2 + 0) + 3 ≤ _; omega) (by rw [depA_app]; show max (depA ds) (max 0 0) + 1 ≤ _; omega), .tup (cu _ _).2.2 (by have := (cu none (some (-1))).1; omega) (by have := (cu none (some (-1))).2.1; omega), .tup (fun d z => by rw [List.mem_singleton.mp z]; exact pt_cl h) (by show wdA ds + 3 + 2 + 0 + 3 ≤ _; omega) (by show max (depA ds + 1) 0 + 1 ≤ _; omega), .tup (fun d z => ?_) (by rw [wdA_app]; show wdA ds + (0 + 3 + 2 + 0) + 3 ≤ _; omega) (by rw [depA_app]; show max (depA ds) (max (0 + 1) 0) + 1 ≤ _; omega), True.intro⟩
  · rcases List.mem_append.mp z with y | y
    · exact hc d y
    · exact (cu _ _).2.2 d y
  · rcases List.mem_append.mp z with y | y
    · exact hc d y
    · rw [List.mem_singleton.mp y]; rfl
  · rcases List.mem_append.mp z with y | y
    · exact hc d y
    · rw [List.mem_singleton.mp y]; rfl
theorem leafS {s : Str} (h : ptD (.str s) = true) : ThA (12 * wd (.str s) + 2000) (dep (.str s) + 2) [.str (s ++ "z"), .str (cutS s none (some (-1))), .str (Txt.upper s), .str (s ++ " "), .lst [.str s], .str (Txt.mul s 11), .str "loop", .str "none"] := by
  obtain ⟨h1, h2⟩ := pt_str h
  have hw : wd (.str s) = 10 * s.length + 2 := rfl
  have hd : dep (.str s) = 0 := rfl
  have hb : ∀ c ∈ s.cps.toList, c < 1114112 := fun c hc => by have := h2 c hc; omega
  have ap : ∀ (t : Str), (∀ c ∈ t.cps.toList, c < 1114112) → t.length ≤ 1 → Th (12 * (10 * s.length + 2) + 2000) (0 + 2) (.str (s ++ t)) := fun t ht hl => .txt (fun c hc => (app_mem hc).elim (hb c) (ht c)) (by rw [strLen_append]; omega)
  rw [hw, hd]
  refine ⟨ap _ (by decide) (by decide), .txt (fun c hc => hb c (cutS_mem hc)) (by have := cutS_len s none (some (-1)); omega), (upper_th (n := 12 * (10 * s.length + 2) + 2000) (k := 0 + 2) (fun c hc => by have := h2 c hc; omega) (by omega)), ap _ (by decide) (by decide), .lst (fun d z => by rw [List.mem_singleton.mp z]; exact pt_cl h) (by show 10 * s.length + 2 + 2 + 0 + 3 ≤ _; omega) (by show max 0 0 + 1 ≤ _; omega), mul_th (m := 11) hb (by omega) (by decide), .txt (by decide) (by show 10 * 4 + 2 ≤ _; omega), .txt (by decide) (by show 10 * 4 + 2 ≤ _; omega), True.intro⟩
theorem leafI {i : Int} (h : ptD (.int i) = true) : ThA (12 * wd (.int i) + 2000) (dep (.int i) + 2) [.int (i + 1), .int (i - 1), .bl (decide (i = 1)), .str (toString i), .int (-i), .tup [.int i], .bl (decide (i = 0))] := by
  have hb := pt_int h
  have hi : ∀ j : Int, j.natAbs < 2000 → Th (12 * wd (.int i) + 2000) (dep (.int i) + 2) (.int j) := fun j hj => .clean (cl_int (Nat.lt_of_lt_of_le hj (by decide))) (by show 210 ≤ 12 * 210 + 2000; decide) (Nat.zero_le _)
  have hl : ∀ b : Bool, Th (12 * wd (.int i) + 2000) (dep (.int i) + 2) (.bl b) := fun b => .clean rfl (by show 5 ≤ 12 * 210 + 2000; decide) (Nat.zero_le _)
  exact ⟨hi _ (by omega), hi _ (by omega), hl _, intS_th (by omega) (by show 200 ≤ 12 * 210 + 2000; decide), hi _ (by omega), .tup (fun d z => by rw [List.mem_singleton.mp z]; exact pt_cl h) (by show 210 + 2 + 0 + 3 ≤ 12 * 210 + 2000; decide) (by show max 0 0 + 1 ≤ 0 + 2; decide), hl _, True.intro⟩
def odds : List D := [.non, .bl true, .bl false, .int 0, .int 1, .int 2, .int (-1), .int 9, .str "", .str "a", .tup [], .lst [], .dk [], .int (10 ^ 39), .tup [.tup []], .tup [.int 0]]
theorem leafO (n k : Nat) : ThA (n + 2000) (k + 2) odds := by
  have c1 : ∀ d, cl d = true → wd d ≤ 2000 → dep d ≤ 2 → Th (n + 2000) (k + 2) d := fun d h1 h2 h3 => .clean h1 (by omega) (by omega)
  refine ⟨c1 _ rfl (by decide) (by decide), c1 _ rfl (by decide) (by decide), c1 _ rfl (by decide) (by decide), c1 _ (cl_int (by decide)) (by decide) (by decide), c1 _ (cl_int (by decide)) (by decide) (by decide), c1 _ (cl_int (by decide)) (by decide) (by decide), c1 _ (cl_int (by decide)) (by decide) (by decide), c1 _ (cl_int (by decide)) (by decide) (by decide), c1 _ (cl_str (by decide)) (by decide) (by decide), c1 _ (cl_str (by decide)) (by decide) (by decide), c1 _ rfl (by decide) (by decide),
    .lst (fun d z => by simp at z) (by show 0 + 3 ≤ _; omega) (by show 0 + 1 ≤ _; omega), ⟨rfl, by show 2 ≤ _; omega, by show 1 ≤ _; omega, .inr rfl⟩, c1 _ (cl_int (by decide +kernel)) (by decide) (by decide), c1 _ rfl (by decide) (by decide), c1 _ rfl (by decide) (by decide), True.intro⟩
section
variable {P : Program} {w : World} {K : PySem.W.Frag} {mg : Str → Option Value} {base : Heap} {f : Addr} {fd : FuncData}
abbrev BN4 : List Str := ["int", "isinstance", "list", "str", "tuple"]
variable (bi : ∀ x, x ∈ BN4 → mg x = none)
abbrev sp__law_leaf (K : PySem.W.Frag) : Sp := dsp K (fun es => ∃ d, es = [d] ∧ ptD d = true ∧ wd d ≤ 100000) (fun es e => ∃ d, es = [d] ∧ Th (12 * wd d + 2000) (dep d + 2) e)
/-- isinstance and a draw -/
theorem et_draw {K : PySem.W.Frag} {dk l : Addr} {G0 H0 : Hp} {ρ : Ro} {μ : Mu} {ta : TE} {b : Bool} {E : XK} {j : Nat} {m : Int} (hm : 1 ≤ m ∧ m ≤ 1000000) (h : Ed (Bd K dk l 64 G0 H0) ta ρ μ (.bl b)) (hj : ρ[j]? = some (some (.raw (.ref dk)))) :
    Et (Bd K dk l 64 G0 H0) (tAnd (tB ta) (tTest (tOp (rI0 fun i j => .bl (decide (j < i))) (tCall (sp__law_draw K) [] E (tCons (tVar j) (tCons (tC (.int m)) tNil))) (tC (.int 0))))) ρ μ (fun c => c = true → b = true) := by
  refine et_and (Pa := fun c => c = b) (eb_B h) (fun e => et_test (P := fun d => ∃ c, d = .bl c) (ev_op (P1 := isIntD) (P2 := fun d => d = .int 0) (ed_d hj (ead_cons ed_int ea_nil) ⟨_, rfl, hm.1, hm.2⟩ (by rintro e ⟨n, r, e1, rfl, _⟩; exact ⟨_, rfl⟩)) ed_int fun d1 d2 ⟨i, e1⟩ e2 => ?_) fun d ⟨c, e1⟩ => ⟨c, e1, fun _ => e.symm⟩) fun _ z => by cases z
  subst e1; subst e2
  exact fun τ σ H x y a Q q => rd_gt τ σ H x y a Q fun v H' d hd a' => q v H' d ⟨_, hd⟩ a'
theorem pt_isI : ∀ {d : D}, ptD d = true → isI d = true → ∃ i, d = .int i
  | .int i, _, _ => ⟨i, rfl⟩
  | .bl _, h, _ => by simp [ptD] at h
  | .str _, _, h => by simp [isI] at h
  | .tup _, _, h => by simp [isI] at h
  | .non, h, _ => by simp [ptD] at h
  | .raw _, h, _ => by simp [ptD] at h
  | .lst _, h, _ => by simp [ptD] at h
  | .dk _, h, _ => by simp [ptD] at h
  | .dt _, h, _ => by simp [ptD] at h
theorem szL {n : Nat} (h : n ≤ 1000000) : n ≤ sizeLine := Nat.le_trans h (by decide)
theorem odds_ed {B : Bs} {ρ : Ro} {μ : Mu} : Ed B (tLst (tCons (tC .non) (tCons (tC (.bl true)) (tCons (tC (.bl false)) (tCons (tC (.int 0)) (tCons (tC (.int 1)) (tCons (tC (.int 2)) (tCons (tUn (rU fun i => .int (-i)) (tC (.int 1))) (tCons (tC (.int 9)) (tCons (tC (.str "")) (tCons (tC (.str "a")) (tCons (tTup tNil) (tCons (tLst tNil) (tCons tDNewK (tCons (tOp (rI CPow fun i j => .int (i ^ j.toNat)) (tC (.int 10)) (tC (.int 39)))
    (tCons (tTup (tCons (tTup tNil) tNil)) (tCons (tTup (tCons (tC (.int 0)) tNil)) tNil))))))))))))))))) ρ μ (.lst odds) :=
  ed_lst (ead_cons ed_non (ead_cons ed_bl (ead_cons ed_bl (ead_cons ed_int (ead_cons ed_int (ead_cons ed_int (ead_cons (ed_un ed_int ru_neg) (ead_cons ed_int (ead_cons ed_str (ead_cons ed_str (ead_cons (ed_tup ea_nil (by decide)) (ead_cons (ed_lst ea_nil (by decide)) (ead_cons ed_dnew (ead_cons (ed_op ed_int ed_int (rd_pow ⟨by decide, by decide, by decide⟩)) (ead_cons (ed_tup (ead_cons (ed_tup ea_nil (by decide)) ea_nil) (by decide)) (ead_cons (ed_tup (ead_cons ed_int ea_nil) (by decide)) ea_nil)))))))))))))))) (by decide)
include bi in
theorem ok__law_leaf (F : Fun K "_law_leaf" "_law_leaf" s__law_leaf f fd) (c__law_draw : C8.Cal P w K mg base 1 "_law_draw" (sp__law_draw K) []) (c__law_pick : C8.Cal P w K mg base 2 "_law_pick" (sp__law_pick K) []) : FnOk P w K mg base CX0 3 f fd ["deck", "thing"] (sp__law_leaf K) := by
  refine F.ok sc__law_leaf (fun vs H Q E h => ?_) (fun cdv A outer s H vs Q E hr h => ?_)
  · obtain ⟨dk, l, G, ds, h1, ⟨es, rfl, n, rfl, _⟩, _⟩ := h
    exact h1.length
  · have hu := hu_of hr
    obtain ⟨dk, l, G, es, ⟨d, rfl, hp, hw⟩, hlen, a, hq⟩ := dsp_start n__law_leaf h
    refine ⟨_, (pss_cons (ps_asg (pe_lst (pa_cons pe_non (pa_cons pe_bl (pa_cons pe_bl (pa_cons pe_int (pa_cons pe_int (pa_cons pe_int (pa_cons (pe_un u_neg pe_int) (pa_cons pe_int (pa_cons pe_str (pa_cons pe_str (pa_cons (pe_tup pa_nil) (pa_cons (pe_lst pa_nil) (pa_cons pe_dnewK (pa_cons (pe_op op_pow pe_int pe_int) (pa_cons (pe_tup (pa_cons (pe_tup pa_nil) pa_nil)) (pa_cons (pe_tup (pa_cons pe_int pa_nil)) pa_nil))))))))))))))))) (pg_name (i := 2) sc__law_leaf.nd rfl (by first | exact (.inl rfl) | exact (.inr rfl))))
      (pss_cons (ps_if (PW.pt (pw_and (pt_val (pe_callB (id := "isinstance") (r := rIsi K) call_isi (by rfl) (bi "isinstance" (by decide +kernel)) (by decide +kernel) (pa_cons (pv 1) (pa_cons (pe_bltn (v := .ty "tuple") (u := .type "tuple") (by rfl) (bi "tuple" (by decide +kernel)) (by decide +kernel) rfl) pa_nil)))) (pw_and1 (pt_cmpR op_gt (C8.pe_c c__law_draw hr (by first | decide | omega) (by rfl) (pa_cons (pv 0) (pa_cons pe_int pa_nil))) pe_int (nomark _))))) (pss_one (ps_ret (C8.pe_c c__law_pick hr (by first | decide | omega) (by rfl) (pa_cons (pv 0) (pa_cons (pe_lst (pa_cons (pe_callTy (T := "list") (r := rLstOf K) (u_list rfl) (by rfl) (bi "list" (by decide +kernel)) (by decide +kernel) (pa_cons (pv 1) pa_nil)) (pa_cons (pe_revT (pv 1)) (pa_cons (pe_slice (r := rSlU K) u_sl (pv 1) (po_some pe_int) po_none) (pa_cons (pe_op (r := rAddU K) u_add (pv 1) (pe_slice (r := rSlU K) u_sl (pv 1) (po_some (pe_un u_neg pe_int)) po_none)) (pa_cons (pe_op (r := rAddU K) u_add (pv 1) (pe_tup (pa_cons pe_int pa_nil))) (pa_cons (pe_slice (r := rSlU K) u_sl (pv 1) po_none (po_some (pe_un u_neg pe_int))) (pa_cons (pe_tup (pa_cons (pv 1) pa_nil)) (pa_cons (pe_op (r := rAddU K) u_add (pv 1) (pe_tup (pa_cons (pe_tup pa_nil) pa_nil))) pa_nil))))))))) pa_nil))))) pss_nil)
      (pss_cons (ps_if (PW.pt (pw_and (pt_val (pe_callB (id := "isinstance") (r := rIsi K) call_isi (by rfl) (bi "isinstance" (by decide +kernel)) (by decide +kernel) (pa_cons (pv 1) (pa_cons (pe_bltn (v := .ty "str") (u := .type "str") (by rfl) (bi "str" (by decide +kernel)) (by decide +kernel) rfl) pa_nil)))) (pw_and1 (pt_cmpR op_gt (C8.pe_c c__law_draw hr (by first | decide | omega) (by rfl) (pa_cons (pv 0) (pa_cons pe_int pa_nil))) pe_int (nomark _))))) (pss_one (ps_ret (C8.pe_c c__law_pick hr (by first | decide | omega) (by rfl) (pa_cons (pv 0) (pa_cons (pe_lst (pa_cons (pe_op (r := rAddU K) u_add (pv 1) pe_str) (pa_cons (pe_slice (r := rSlU K) u_sl (pv 1) po_none (po_some (pe_un u_neg pe_int))) (pa_cons (pe_upper (pv 1)) (pa_cons (pe_op (r := rAddU K) u_add (pv 1) pe_str) (pa_cons (pe_lst (pa_cons (pv 1) pa_nil)) (pa_cons (pe_op u_mul2 (pv 1) pe_int) (pa_cons pe_str (pa_cons pe_str pa_nil))))))))) pa_nil))))) pss_nil)
      (pss_cons (ps_if (PW.pt (pw_and (pt_val (pe_callB (id := "isinstance") (r := rIsi K) call_isi (by rfl) (bi "isinstance" (by decide +kernel)) (by decide +kernel) (pa_cons (pv 1) (pa_cons (pe_bltn (v := .ty "int") (u := .type "int") (by rfl) (bi "int" (by decide +kernel)) (by decide +kernel) rfl) pa_nil)))) (pw_and1 (pt_cmpR op_gt (C8.pe_c c__law_draw hr (by first | decide | omega) (by rfl) (pa_cons (pv 0) (pa_cons pe_int pa_nil))) pe_int (nomark _))))) (pss_one (ps_ret (C8.pe_c c__law_pick hr (by first | decide | omega) (by rfl) (pa_cons (pv 0) (pa_cons (pe_lst (pa_cons (pe_op (r := rAddU K) u_add (pv 1) pe_int) (pa_cons (pe_op op_sub (pv 1) pe_int) (pa_cons (pe_cmpR (r := rEqD K) (u_eq hr.units) (pv 1) pe_int (nomark _)) (pa_cons (pe_callTy (T := "str") call_str_int (by rfl) (bi "str" (by decide +kernel)) (by decide +kernel) (pa_cons (pv 1) pa_nil)) (pa_cons (pe_un u_neg (pv 1)) (pa_cons (pe_tup (pa_cons (pv 1) pa_nil)) (pa_cons (pe_cmpR (r := rEqD K) (u_eq hr.units) (pv 1) pe_int (nomark _)) pa_nil)))))))) pa_nil))))) pss_nil)
      (pss_one (ps_ret (C8.pe_c c__law_pick hr (by first | decide | omega) (by rfl) (pa_cons (pv 0) (pa_cons (pv 2) pa_nil))))))))), ?_⟩
    refine y_set a odds_ed fun σ1 H1 a1 => ?_
    refine y_if a1 (et_draw (m := 5) ⟨by decide, by decide⟩ (ed_isiT (ed_var rfl) (pt_ty hp)) rfl) (fun hb H2 a2 => ?_) fun _ H2 a2 => ?_
    · obtain ⟨ds, rfl⟩ := isT_eq (hb rfl)
      have hw' : wdA ds + 3 ≤ 100000 := hw
      have hl := wdA_len ds
      have hc : ∀ lo hi, (cutD ds lo hi).length ≤ ds.length := fun lo hi => (cutD_sub ds lo hi).length_le
      refine x_ret a2 (ed_d (P := Th (12 * wd (.tup ds) + 2000) (dep (.tup ds) + 2)) rfl (ead_cons (ed_lst (ead_cons (ed_lstT (ed_var rfl)) (ead_cons (ed_rev (ed_var rfl)) (ead_cons (ed_slT (ed_var rfl) (eo_some ed_int) eo_none) (ead_cons (ed_op (ed_var rfl) (ed_slT (ed_var rfl) (eo_some (ed_un ed_int ru_neg)) eo_none) (rd_addT (szL (by have := hc (some (-1)) none; omega)))) (ead_cons (ed_op (ed_var rfl) (ed_tup (ead_cons ed_int ea_nil) (by decide)) (rd_addT (szL (by show ds.length + 1 ≤ _; omega)))) (ead_cons (ed_slT (ed_var rfl) eo_none (eo_some (ed_un ed_int ru_neg))) (ead_cons (ed_tup (ead_cons (ed_var rfl) ea_nil) (by show 1 ≤ _; decide))
        (ead_cons (ed_op (ed_var rfl) (ed_tup (ead_cons (ed_tup ea_nil (by decide)) ea_nil) (by decide)) (rd_addT (szL (by show ds.length + 1 ≤ _; omega)))) ea_nil)))))))) (by show 8 ≤ _; decide)) ea_nil) ⟨_, rfl, by simp, by show 8 ≤ _; decide⟩ (by rintro e ⟨ds', e1, hm⟩; cases e1; exact (leafT hp).mem e hm)) fun v H' e he a' => hq ⟨_, rfl, he⟩ a'
    · refine y_if a2 (et_draw (m := 5) ⟨by decide, by decide⟩ (ed_isiS (ed_var rfl) (pt_ty hp)) rfl) (fun hb H3 a3 => ?_) fun _ H3 a3 => ?_
      · obtain ⟨s, rfl⟩ := isS_eq (hb rfl)
        have hl := (pt_str hp).1
        refine x_ret a3 (ed_d (P := Th (12 * wd (.str s) + 2000) (dep (.str s) + 2)) rfl (ead_cons (ed_lst (ead_cons (ed_op (ed_var rfl) ed_str (rd_addS (szL (by show s.length + 1 ≤ _; omega)))) (ead_cons (ed_slS (ed_var rfl) eo_none (eo_some (ed_un ed_int ru_neg)) (szL (by omega))) (ead_cons (ed_upper (ed_var rfl) (by omega)) (ead_cons (ed_op (ed_var rfl) ed_str (rd_addS (szL (by show s.length + 1 ≤ _; omega)))) (ead_cons (ed_lst (ead_cons (ed_var rfl) ea_nil) (by show 1 ≤ _; decide)) (ead_cons (ed_op (ed_var rfl) ed_int (rd_mulS2 (mul_ok hl))) (ead_cons ed_str (ead_cons ed_str ea_nil)))))))) (by show 8 ≤ _; decide)) ea_nil) ⟨_, rfl, by simp, by show 8 ≤ _; decide⟩ (by rintro e ⟨ds', e1, hm⟩; cases e1; exact (leafS hp).mem e hm)) fun v H' e he a' => hq ⟨_, rfl, he⟩ a'
      · refine y_if a3 (et_draw (m := 5) ⟨by decide, by decide⟩ (ed_isiI (ed_var rfl) (pt_ty hp)) rfl) (fun hb H4 a4 => ?_) fun _ H4 a4 => ?_
        · obtain ⟨i, rfl⟩ := pt_isI hp (hb rfl)
          have hi := pt_int hp
          refine x_ret a4 (ed_d (P := Th (12 * wd (.int i) + 2000) (dep (.int i) + 2)) rfl (ead_cons (ed_lst (ead_cons (ed_op (ed_var rfl) ed_int rd_addI) (ead_cons (ed_op (ed_var rfl) ed_int rd_sub) (ead_cons (ed_op (ed_var rfl) ed_int rd_eqI) (ead_cons (ed_cb (ead_cons (ed_var rfl) ea_nil) (rc_strI (by omega))) (ead_cons (ed_un (ed_var rfl) ru_neg) (ead_cons (ed_tup (ead_cons (ed_var rfl) ea_nil) (by show 1 ≤ _; decide)) (ead_cons (ed_op (ed_var rfl) ed_int rd_eqI) ea_nil))))))) (by show 7 ≤ _; decide)) ea_nil) ⟨_, rfl, by simp, by show 7 ≤ _; decide⟩ (by rintro e ⟨ds', e1, hm⟩; cases e1; exact (leafI hp).mem e hm)) fun v H' e he a' => hq ⟨_, rfl, he⟩ a'
        · refine x_ret a4 (ed_d (P := Th (12 * wd d + 2000) (dep d + 2)) rfl (ead_cons (ed_var rfl) ea_nil) ⟨_, rfl, by unfold odds; simp, by show 16 ≤ _; decide⟩ (by rintro e ⟨ds', e1, hm⟩; cases e1; exact (leafO _ _).mem e hm)) fun v H' e he a' => hq ⟨_, rfl, he⟩ a'
end
end Cal


namespace Cal
open PySem PySem.Spec PyProof.Rows L2
abbrev s__law_otherwise : Stmt := topS 28
abbrev n__law_otherwise : List Str := ["deck", "placement", "sites", "clients", "s", "way", "names", "some", "visits"]
theorem sc__law_otherwise : FnScope n__law_otherwise ["deck", "placement"] (defScope s__law_otherwise) := ⟨rfl, rfl, rfl, by decide +kernel, rfl, by decide +kernel, by decide +kernel⟩
theorem split_at {ds : List D} {i : Nat} (h : i < ds.length) : ds = ds.take i ++ [ds.getD i .non] ++ ds.drop (i + 1) := by
  have e := List.getElem_cons_drop h
  have e2 : ds.getD i .non = ds[i] := by rw [List.getD_eq_getElem?_getD, List.getElem?_eq_getElem h]; rfl
  rw [e2, List.append_assoc, List.singleton_append, e, List.take_append_drop]
theorem put_th {ds : List D} {i m : Nat} {j : Nat} {e : D} {n k : Nat} (h : i < ds.length) (hc : ∀ d ∈ ds, cl d = true) (he : Th m j e) (hw : wdA ds + m ≤ n + wd (ds.getD i .non)) (hn : 3 + wdA ds + m ≤ n + wd (ds.getD i .non)) (hk : max (depA ds) j + 1 ≤ k) : Th n k (.tup (ds.take i ++ [e] ++ ds.drop (i + 1))) := by
  have hs := split_at h
  have h1 : wdA ds = wdA (ds.take i) + (wd (ds.getD i .non) + 2) + wdA (ds.drop (i + 1)) := by
    conv => lhs; rw [hs]
    rw [wdA_app, wdA_app]
    show wdA (ds.take i) + (wd (ds.getD i .non) + 2 + 0) + wdA (ds.drop (i + 1)) = _
    omega
  have h2 := depA_sub (as := ds.take i) (bs := ds) fun d z => (List.take_sublist i ds).subset z
  have h3 := depA_sub (as := ds.drop (i + 1)) (bs := ds) fun d z => (List.drop_sublist (i + 1) ds).subset z
  exact .put (fun d z => hc d ((List.take_sublist i ds).subset z)) (fun d z => hc d ((List.drop_sublist (i + 1) ds).subset z)) he (by omega) (by omega)
section
variable {P : Program} {w : World} {K : PySem.W.Frag} {mg : Str → Option Value} {base : Heap} {f : Addr} {fd : FuncData}
abbrev BN5 : List Str := ["isinstance", "len", "list", "tuple"]
variable (bi : ∀ x, x ∈ BN5 → mg x = none)
abbrev sp__law_bent (n : Nat) (K : PySem.W.Frag) : Sp := dsp K (fun es => ∃ (d : D) (k : Int), es = [d, .int k] ∧ ptD d = true ∧ wd d ≤ 100000 ∧ dep d ≤ 60 ∧ dep d < n) (fun es e => ∃ (d : D) (k : Int), es = [d, .int k] ∧ Th (12 * wd d + 2000) (dep d + 2) e)
abbrev sp__law_otherwise (K : PySem.W.Frag) : Sp := dsp K (fun es => ∃ ss vs : List D, es = [.tup [.tup ss, .tup vs]] ∧ ptA ss = true ∧ ptA vs = true ∧ (∀ d ∈ ss, isT d = true) ∧ 1 ≤ ss.length ∧ ss.length ≤ 60 ∧ wdA ss + wdA vs ≤ 80000 ∧ depA ss ≤ 3 ∧ depA vs ≤ 3) (fun es e => Th 400000 10 e)
include bi in
theorem bent_step {n : Nat} (F : Fun K "_law_bent" "_law_bent" s__law_bent f fd) (c__law_draw : C8.Cal P w K mg base 1 "_law_draw" (sp__law_draw K) []) (c__law_leaf : C8.Cal P w K mg base 3 "_law_leaf" (sp__law_leaf K) []) (c__law_bent : C8.Cal P w K mg base (4 + n) "_law_bent" (sp__law_bent n K) []) :
    FnOk P w K mg base CX0 (4 + (n + 1)) f fd ["deck", "thing", "deep"] (sp__law_bent (n + 1) K) := by
  refine F.ok sc__law_bent (fun vs H Q E h => ?_) (fun cdv A outer s H vs Q E hr h => ?_)
  · obtain ⟨dk, l, G, ds, h1, ⟨es, rfl, d, k, rfl, _⟩, _⟩ := h
    exact h1.length
  · have hr : Room (4 + n) _ := hr
    have hu := hu_of hr
    obtain ⟨dk, l, G, es, ⟨d, k, rfl, hp, hw, hd6, hd⟩, hlen, a, hq⟩ := dsp_start n__law_bent h
    refine ⟨_, (pss_cons (ps_if (PW.pt (pw_and (pt_val (pe_callB (id := "isinstance") (r := rIsi K) call_isi (by rfl) (bi "isinstance" (by decide +kernel)) (by decide +kernel) (pa_cons (pv 1) (pa_cons (pe_bltn (v := .ty "tuple") (u := .type "tuple") (by rfl) (bi "tuple" (by decide +kernel)) (by decide +kernel) rfl) pa_nil)))) (pw_and (pt_cmpR (r := rNeD K) (u_ne hr.units) (pv 1) (pe_tup pa_nil) (nomark _)) (pw_and1 (PW.pt (pw_or (pt_cmpR op_gt (pv 2) pe_int (nomark _)) (pw_or1 (pt_cmpR op_gt (C8.pe_c c__law_draw hr (by first | decide | omega) (by rfl) (pa_cons (pv 0) (pa_cons pe_int pa_nil))) pe_int (nomark _))))))))) (pss_cons (ps_asg (C8.pe_c c__law_draw hr (by first | decide | omega) (by rfl) (pa_cons (pv 0) (pa_cons (pe_callB (id := "len") (r := rLenU K) u_len (by rfl) (bi "len" (by decide +kernel)) (by decide +kernel) (pa_cons (pv 1) pa_nil)) pa_nil))) (pg_name (i := 3) sc__law_bent.nd rfl (by first | exact (.inl rfl) | exact (.inr rfl))))
      (pss_one (ps_ret (pe_op (r := rAddU K) u_add (pe_op (r := rAddU K) u_add (pe_slice (r := rSlU K) u_sl (pv 1) po_none (po_some (pv 3))) (pe_tup (pa_cons (C8.pe_c c__law_bent hr (by first | decide | omega) (by rfl) (pa_cons (pv 0) (pa_cons (pe_ix (r := rIx K) ix_seq (pv 1) (pv 3) (fun _ _ => rfl)) (pa_cons (pe_op op_sub (pv 2) pe_int) pa_nil)))) pa_nil))) (pe_slice (r := rSlU K) u_sl (pv 1) (po_some (pe_op (r := rAddU K) u_add (pv 3) pe_int)) po_none))))) pss_nil)
      (pss_one (ps_ret (C8.pe_c c__law_leaf hr (by first | decide | omega) (by rfl) (pa_cons (pv 0) (pa_cons (pv 1) pa_nil)))))), ?_⟩
    refine y_if (Pb := fun c => c = true → isT d = true ∧ eqD d (.tup []) = false) a (et_and (Pa := fun c => c = isT d) (eb_B (ed_isiT (ed_var rfl) (pt_ty hp))) (fun e1 => et_and (Pa := fun c => c = !eqD d (.tup [])) (eb_test (ed_op (ed_var rfl) (ed_tup ea_nil (by decide)) (rd_neD (pt_plain d hp) rfl (by omega) (by decide)))) (fun e2 => et_or (Pa := fun _ => True) (et_test (P := fun d => ∃ b, d = .bl b) (Ed.ev (ed_op (ed_var rfl) ed_int rd_gt) ⟨_, rfl⟩) fun d ⟨b, e⟩ => ⟨b, e, True.intro⟩)
      (fun _ => et_test (P := fun d => ∃ c, d = .bl c) (ev_op (P1 := isIntD) (P2 := fun d => d = .int 0) (ed_d rfl (ead_cons ed_int ea_nil) ⟨_, rfl, by decide, by decide⟩ (by rintro e ⟨n, r, e1, rfl, _⟩; exact ⟨_, rfl⟩)) ed_int fun d1 d2 ⟨i, e1⟩ e2 => by
        subst e1; subst e2
        exact fun τ σ H x y a Q q => rd_gt τ σ H x y a Q fun v H' d hd a' => q v H' d ⟨_, hd⟩ a') fun d ⟨c, e⟩ => ⟨c, e, fun _ => ⟨e1.symm, by simpa using e2.symm⟩⟩) fun _ _ => ⟨e1.symm, by simpa using e2.symm⟩) fun _ z => by cases z) fun _ z => by cases z) (fun hb H1 a1 => ?_) fun _ H1 a1 => ?_
    · obtain ⟨h1, h2⟩ := hb rfl
      obtain ⟨ds, rfl⟩ := isT_eq h1
      have hc : ∀ d ∈ ds, cl d = true := cl_tup.mp (pt_cl hp)
      have hp' : ptA ds = true := by simpa only [ptD] using hp
      have hw' : wdA ds + 3 ≤ 100000 := hw
      have hd' : depA ds + 1 < n + 1 := hd
      have hd7 : depA ds + 1 ≤ 60 := hd6
      have hl := wdA_len ds
      have hne : ds ≠ [] := fun e => by rw [e] at h2; revert h2; decide
      have hpos : 0 < ds.length := List.length_pos_iff.mpr hne
      refine y_setV (P := fun e => ∃ r : Int, e = .int r ∧ 0 ≤ r ∧ r < ds.length) a1 (ed_d rfl (ead_cons (ed_lenT (ed_var rfl)) ea_nil) ⟨_, rfl, by omega, by omega⟩ (by rintro e ⟨n, r, e1, rfl, g1, g2⟩; cases e1; exact ⟨r, rfl, g1, g2⟩)) fun d2 σ2 H2 he2 a2 => ?_
      obtain ⟨r, rfl, r1, r2⟩ := he2
      have hr' : r.toNat < ds.length := by omega
      have hm : ds.getD r.toNat .non ∈ ds := List.mem_of_getElem? (getD_of hr')
      have hmw := wdA_mem hm
      have hmd := depA_mem hm
      have hdl : (ds.drop (r.toNat + 1)).length ≤ ds.length := (List.drop_sublist _ _).length_le
      have htl : (ds.take r.toNat).length ≤ ds.length := (List.take_sublist _ _).length_le
      refine x_ret a2 (ev_op (P := Th (12 * wd (.tup ds) + 2000) (dep (.tup ds) + 2)) (P1 := fun e => ∃ b, e = .tup (ds.take r.toNat ++ [b]) ∧ Th (12 * wd (ds.getD r.toNat .non) + 2000) (dep (ds.getD r.toNat .non) + 2) b) (P2 := fun e => e = .tup (ds.drop (r.toNat + 1))) (ev_op (P1 := fun e => e = .tup (ds.take r.toNat)) (P2 := fun e => ∃ b, e = .tup [b] ∧ Th (12 * wd (ds.getD r.toNat .non) + 2000) (dep (ds.getD r.toNat .non) + 2) b)
        (Ed.is (ed_slT (ed_var rfl) eo_none (eo_some (ed_var rfl))) (by rw [cutD_take ds r1])) (ev_tup (ea1P (ed_d (P := Th (12 * wd (ds.getD r.toNat .non) + 2000) (dep (ds.getD r.toNat .non) + 2)) rfl (ead_cons (ed_op (ed_var rfl) (ed_var rfl) (rd_ixT (atI_of r1 (getD_of hr')))) (ead_cons (ed_op (ed_var rfl) ed_int rd_sub) ea_nil)) ⟨_, _, rfl, ptA_mem hp' _ hm, by omega, by omega, by omega⟩ (by rintro e ⟨d', k', e1, ht⟩; cases e1; exact ht))) fun ds ⟨b, e, hb⟩ => ⟨by rw [e]; show 1 ≤ sizeLine; decide, b, by rw [e], hb⟩) fun d1 d2 e1 ⟨b, e2, hb⟩ => ?_)
        (Ed.is (ed_slT (ed_var rfl) (eo_some (ed_op (ed_var rfl) ed_int rd_addI)) eo_none) (by rw [cutD_drop ds (by omega), show (r + 1).toNat = r.toNat + 1 by omega])) fun d1 d2 ⟨b, e1, hb⟩ e2 => ?_) fun v H' d hd a' => hq ⟨_, _, rfl, hd⟩ a'
      · rw [e1, e2]
        exact (rd_addT (szL (by show (ds.take r.toNat).length + 1 ≤ _; omega))).imp fun e he => ⟨b, he, hb⟩
      · rw [e1, e2]
        refine (rd_addT (szL (by rw [List.length_append]; show (ds.take r.toNat).length + 1 + _ ≤ _; omega))).imp fun e he => ?_
        rw [he]
        have e1 : wd (.tup ds) = wdA ds + 3 := rfl
        have e2 : dep (.tup ds) = depA ds + 1 := rfl
        exact put_th hr' hc hb (by omega) (by omega) (by omega)
    · exact x_ret a1 (ed_d (P := Th (12 * wd d + 2000) (dep d + 2)) rfl (ead_cons (ed_var rfl) ea_nil) ⟨_, rfl, hp, hw⟩ (by rintro e ⟨d', e1, h⟩; cases e1; exact h)) fun v H' e he a' => hq ⟨_, _, rfl, he⟩ a'
theorem ok__law_bent (bi : ∀ x, x ∈ BN5 → mg x = none) (F : Fun K "_law_bent" "_law_bent" s__law_bent f fd) (hm : mg "_law_bent" = some (.ref f)) (hb : Binds K fd ["deck", "thing", "deep"] []) (c__law_draw : C8.Cal P w K mg base 1 "_law_draw" (sp__law_draw K) []) (c__law_leaf : C8.Cal P w K mg base 3 "_law_leaf" (sp__law_leaf K) []) : ∀ n, FnOk P w K mg base CX0 (4 + n) f fd ["deck", "thing", "deep"] (sp__law_bent n K)
  | 0 => ⟨fun vs H Q E h => (by obtain ⟨dk, l, G, ds, h1, ⟨es, rfl, d, k, rfl, _, _, _, z⟩, _⟩ := h; exact absurd z (Nat.not_lt_zero _)), fun A outer s H args us vs Q E hr e0 hb hv h => (by obtain ⟨dk, l, G, ds, h1, ⟨es, rfl, d, k, rfl, _, _, _, z⟩, _⟩ := h; exact absurd z (Nat.not_lt_zero _))⟩
  | n + 1 => bent_step bi F c__law_draw c__law_leaf ⟨f, fd, _, [], ok__law_bent bi F hm hb c__law_draw c__law_leaf n, hm, F.kp, hb, .nil⟩
theorem namesO {ns : List D} (hc : ∀ d ∈ ns, cl d = true) : ThA (2 * wdA ns + 500) (depA ns + 2) [.tup (ns ++ [.str "Z"]), .tup (ns ++ [.str "zzzzzzzzzzz"]), .tup (ns ++ [.str ""]), .tup ns.reverse, .tup (ns ++ cutD ns (some (-1)) none), .lst ns, .tup (ns ++ [.int 0]), .tup [.str "z9"], .str "ab", .non] := by
  have c1 : ∀ d, cl d = true → wd d ≤ 300 → dep d ≤ 1 → Th (2 * wdA ns + 500) (depA ns + 2) d := fun d h1 h2 h3 => .clean h1 (by omega) (by omega)
  have ap : ∀ d, cl d = true → wd d ≤ 300 → dep d = 0 → Th (2 * wdA ns + 500) (depA ns + 2) (.tup (ns ++ [d])) := fun d h1 h2 h3 => .tup (fun e z => by
    rcases List.mem_append.mp z with y | y
    · exact hc e y
    · rw [List.mem_singleton.mp y]; exact h1) (by rw [wdA_app]; show wdA ns + (wd d + 2 + 0) + 3 ≤ _; omega) (by rw [depA_app]; show max (depA ns) (max (dep d) 0) + 1 ≤ _; omega)
  have cu := wdA_sub (cutD_sub ns (some (-1)) none)
  have cd := depA_sub (as := cutD ns (some (-1)) none) (bs := ns) fun d z => (cutD_sub ns _ _).subset z
  refine ⟨ap _ (cl_str (by decide)) (by decide) rfl, ap _ (cl_str (by decide)) (by decide) rfl, ap _ (cl_str (by decide)) (by decide) rfl, .tup (fun d z => hc d (List.mem_reverse.mp z)) (by rw [wdA_perm (List.reverse_perm ns)]; omega) (by have := depA_sub (as := ns.reverse) (bs := ns) fun d z => List.mem_reverse.mp z; omega), .tup (fun e z => ?_) (by rw [wdA_app]; omega) (by rw [depA_app]; omega), .lst hc (by omega) (by omega), ap _ (cl_int (by decide)) (by decide) rfl, c1 _ (cl_tup.mpr fun d z => by rw [List.mem_singleton.mp z]; exact cl_str (by decide)) (by decide) (by decide), c1 _ (cl_str (by decide)) (by decide) (by decide), c1 _ rfl (by decide) (by decide), True.intro⟩
  rcases List.mem_append.mp z with y | y
  · exact hc e y
  · exact hc e ((cutD_sub ns _ _).subset y)
theorem visitsO {n : Int} (h : n.natAbs < 1000) : ThA 1000 1 [.tup [.int 0], .tup [], .tup [.int 0, .int n], .tup [.int 1, .int 0], .tup [.int 0, .int 0], .tup [.int (-1), .int 0], .tup [.bl false, .int 1], .tup [.int 0, .bl true], .lst [.int 0, .int 1], .tup [.int 0, .int 1, .int 1], .non, .tup [.str "0", .str "1"]] := by
  have ci : ∀ i : Int, i.natAbs < 1000 → cl (.int i) = true := fun i hi => cl_int (Nat.lt_of_lt_of_le hi (by decide))
  have t2 : ∀ a b : D, cl a = true → cl b = true → wd a ≤ 300 → wd b ≤ 300 → dep a = 0 → dep b = 0 → Th 1000 1 (.tup [a, b]) := fun a b ha hb wa wb da db => .tup (fun d z => by
    rcases List.mem_cons.mp z with y | y
    · rw [y]; exact ha
    · rw [List.mem_singleton.mp y]; exact hb) (by show wd a + 2 + (wd b + 2 + 0) + 3 ≤ 1000; omega) (by show max (dep a) (max (dep b) 0) + 1 ≤ 1; omega)
  have w0 : ∀ i : Int, wd (.int i) ≤ 300 := fun i => by show 210 ≤ 300; decide
  exact ⟨.tup (fun d z => by rw [List.mem_singleton.mp z]; exact ci _ (by decide)) (by decide) (by decide), .tup (fun d z => by simp at z) (by decide) (by decide), t2 _ _ (ci _ (by decide)) (ci _ h) (w0 _) (w0 _) rfl rfl, t2 _ _ (ci _ (by decide)) (ci _ (by decide)) (w0 _) (w0 _) rfl rfl, t2 _ _ (ci _ (by decide)) (ci _ (by decide)) (w0 _) (w0 _) rfl rfl, t2 _ _ (ci _ (by decide)) (ci _ (by decide)) (w0 _) (w0 _) rfl rfl,
    t2 _ _ rfl (ci _ (by decide)) (by decide) (w0 _) rfl rfl, t2 _ _ (ci _ (by decide)) rfl (w0 _) (by decide) rfl rfl, .lst (fun d z => by
      rcases List.mem_cons.mp z with y | y
      · rw [y]; exact ci _ (by decide)
      · rw [List.mem_singleton.mp y]; exact ci _ (by decide)) (by decide) (by decide), .tup (fun d z => by
      rcases List.mem_cons.mp z with y | y
      · rw [y]; exact ci _ (by decide)
      · rcases List.mem_cons.mp y with y | y
        · rw [y]; exact ci _ (by decide)
        · rw [List.mem_singleton.mp y]; exact ci _ (by decide)) (by decide) (by decide), .clean rfl (by decide) (by decide), t2 _ _ (cl_str (by decide)) (cl_str (by decide)) (by decide) (by decide) rfl rfl, True.intro⟩
theorem otherO {ss vs : List D} (hs : ∀ d ∈ ss, cl d = true) (hv : ∀ d ∈ vs, cl d = true) (hw : wdA ss + wdA vs ≤ 80000) (h1 : depA ss ≤ 3) (h2 : depA vs ≤ 3) : ThA 400000 10 [.tup [.tup ss], .tup ([.tup ss, .tup vs] ++ [.tup []]), .lst [.tup ss, .tup vs], .tup [.tup vs, .tup ss], .tup [.tup ss, .lst vs], .tup [.lst ss, .tup vs], .tup ss] := by
  have cs : cl (.tup ss) = true := cl_tup.mpr hs
  have cv : cl (.tup vs) = true := cl_tup.mpr hv
  have ws : wd (.tup ss) = wdA ss + 3 := rfl
  have wv : wd (.tup vs) = wdA vs + 3 := rfl
  have ds : dep (.tup ss) = depA ss + 1 := rfl
  have dv : dep (.tup vs) = depA vs + 1 := rfl
  have m2 : ∀ a b : D, cl a = true → cl b = true → ∀ d ∈ [a, b], cl d = true := fun a b ha hb d z => by
    rcases List.mem_cons.mp z with y | y
    · rw [y]; exact ha
    · rw [List.mem_singleton.mp y]; exact hb
  refine ⟨.tup (fun d z => by rw [List.mem_singleton.mp z]; exact cs) (by show wd (.tup ss) + 2 + 0 + 3 ≤ _; omega) (by show max (dep (.tup ss)) 0 + 1 ≤ _; omega), .tup (fun d z => ?_) (by show wd (.tup ss) + 2 + (wd (.tup vs) + 2 + (0 + 3 + 2 + 0)) + 3 ≤ _; omega) (by show max (dep (.tup ss)) (max (dep (.tup vs)) (max (0 + 1) 0)) + 1 ≤ _; omega), .lst (m2 _ _ cs cv) (by show wd (.tup ss) + 2 + (wd (.tup vs) + 2 + 0) + 3 ≤ _; omega) (by show max (dep (.tup ss)) (max (dep (.tup vs)) 0) + 1 ≤ _; omega), .tup (m2 _ _ cv cs) (by show wd (.tup vs) + 2 + (wd (.tup ss) + 2 + 0) + 3 ≤ _; omega) (by show max (dep (.tup vs)) (max (dep (.tup ss)) 0) + 1 ≤ _; omega),
    .put (as := [.tup ss]) (bs := []) (m := 80003) (j := 4) (fun d z => by rw [List.mem_singleton.mp z]; exact cs) (fun d z => by simp at z) (.lst hv (by omega) (by omega)) (by show wd (.tup ss) + 2 + 0 + _ + 0 + 3 ≤ _; omega) (by show max (max (dep (.tup ss)) 0) (max 4 0) + 1 ≤ _; omega), .put (as := []) (bs := [.tup vs]) (m := 80003) (j := 4) (fun d z => by simp at z) (fun d z => by rw [List.mem_singleton.mp z]; exact cv) (.lst hs (by omega) (by omega)) (by show 0 + _ + (wd (.tup vs) + 2 + 0) + 3 ≤ _; omega) (by show max 0 (max 4 (max (dep (.tup vs)) 0)) + 1 ≤ _; omega), .tup hs (by omega) (by omega), True.intro⟩
  rcases List.mem_append.mp z with y | y
  · exact m2 _ _ cs cv d y
  · rw [List.mem_singleton.mp y]; rfl
include bi in
theorem ok__law_otherwise (F : Fun K "_law_otherwise" "_law_otherwise" s__law_otherwise f fd) (c__law_draw : C8.Cal P w K mg base 1 "_law_draw" (sp__law_draw K) []) (c__law_pick : C8.Cal P w K mg base 2 "_law_pick" (sp__law_pick K) []) : FnOk P w K mg base CX0 3 f fd ["deck", "placement"] (sp__law_otherwise K) := by
  refine F.ok sc__law_otherwise (fun vs H Q E h => ?_) (fun cdv A outer s H vs Q E hr h => ?_)
  · obtain ⟨dk, l, G, ds, h1, ⟨es, rfl, ss, vs', rfl, _⟩, _⟩ := h
    exact h1.length
  · have hu := hu_of hr
    obtain ⟨dk, l, G, es, ⟨ss, cs, rfl, ps, pv', tt, l1, l2, hw, g1, g2⟩, hlen, a, hq⟩ := dsp_start n__law_otherwise h
    have hs : ∀ d ∈ ss, cl d = true := fun d z => pt_cl (ptA_mem ps d z)
    have hv : ∀ d ∈ cs, cl d = true := fun d z => pt_cl (ptA_mem pv' d z)
    have ll := wdA_len ss
    have lv := wdA_len cs
    have cv : cl (.tup cs) = true := cl_tup.mpr hv
    have cs' : cl (.tup ss) = true := cl_tup.mpr hs
    refine ⟨_, (pss_cons (ps_asg (pv 1) (pg_tup rfl (pgs_cons (pg_name (i := 2) sc__law_otherwise.nd rfl (by first | exact (.inl rfl) | exact (.inr rfl))) (pgs_cons (pg_name (i := 3) sc__law_otherwise.nd rfl (by first | exact (.inl rfl) | exact (.inr rfl))) pgs_nil))))
      (pss_cons (ps_par (i := 4) (j := 5) (by rfl) sc__law_otherwise.nd rfl rfl (by decide) rfl rfl (pa_cons (C8.pe_c c__law_draw hr (by first | decide | omega) (by rfl) (pa_cons (pv 0) (pa_cons (pe_callB (id := "len") (r := rLenU K) u_len (by rfl) (bi "len" (by decide +kernel)) (by decide +kernel) (pa_cons (pv 2) pa_nil)) pa_nil))) (pa_cons (C8.pe_c c__law_draw hr (by first | decide | omega) (by rfl) (pa_cons (pv 0) (pa_cons pe_int pa_nil))) pa_nil)) (by rfl))
      (pss_cons (ps_asg (pe_ix (r := rIx K) ix_seq (pv 2) (pv 4) (fun _ _ => rfl)) (pg_name (i := 6) sc__law_otherwise.nd rfl (by first | exact (.inl rfl) | exact (.inr rfl))))
      (pss_cons (ps_if (pt_cmpR u_lt (pv 5) pe_int (nomark _)) (pss_cons (ps_asg (pe_lst (pa_cons (pe_op (r := rAddU K) u_add (pv 6) (pe_tup (pa_cons pe_str pa_nil))) (pa_cons (pe_op (r := rAddU K) u_add (pv 6) (pe_tup (pa_cons pe_str pa_nil))) (pa_cons (pe_op (r := rAddU K) u_add (pv 6) (pe_tup (pa_cons pe_str pa_nil))) (pa_cons (pe_revT (pv 6)) (pa_cons (pe_op (r := rAddU K) u_add (pv 6) (pe_slice (r := rSlU K) u_sl (pv 6) (po_some (pe_un u_neg pe_int)) po_none)) (pa_cons (pe_callTy (T := "list") (r := rLstOf K) (u_list rfl) (by rfl) (bi "list" (by decide +kernel)) (by decide +kernel) (pa_cons (pv 6) pa_nil)) (pa_cons (pe_op (r := rAddU K) u_add (pv 6) (pe_tup (pa_cons pe_int pa_nil))) (pa_cons (pe_tup (pa_cons pe_str pa_nil)) (pa_cons pe_str (pa_cons pe_non pa_nil))))))))))) (pg_name (i := 7) sc__law_otherwise.nd rfl (by first | exact (.inl rfl) | exact (.inr rfl))))
      (pss_one (ps_ret (pe_tup (pa_cons (pe_op (r := rAddU K) u_add (pe_op (r := rAddU K) u_add (pe_slice (r := rSlU K) u_sl (pv 2) po_none (po_some (pv 4))) (pe_tup (pa_cons (C8.pe_c c__law_pick hr (by first | decide | omega) (by rfl) (pa_cons (pv 0) (pa_cons (pv 7) pa_nil))) pa_nil))) (pe_slice (r := rSlU K) u_sl (pv 2) (po_some (pe_op (r := rAddU K) u_add (pv 4) pe_int)) po_none)) (pa_cons (pv 3) pa_nil)))))) pss_nil)
      (pss_cons (ps_if (pt_cmpR u_lt (pv 5) pe_int (nomark _)) (pss_cons (ps_asg (C8.pe_c c__law_pick hr (by first | decide | omega) (by rfl) (pa_cons (pv 0) (pa_cons (pe_lst (pa_cons (pe_tup (pa_cons pe_int pa_nil)) (pa_cons (pe_tup pa_nil) (pa_cons (pe_tup (pa_cons pe_int (pa_cons (pe_callB (id := "len") (r := rLenU K) u_len (by rfl) (bi "len" (by decide +kernel)) (by decide +kernel) (pa_cons (pv 2) pa_nil)) pa_nil))) (pa_cons (pe_tup (pa_cons pe_int (pa_cons pe_int pa_nil))) (pa_cons (pe_tup (pa_cons pe_int (pa_cons pe_int pa_nil))) (pa_cons (pe_tup (pa_cons (pe_un u_neg pe_int) (pa_cons pe_int pa_nil))) (pa_cons (pe_tup (pa_cons pe_bl (pa_cons pe_int pa_nil))) (pa_cons (pe_tup (pa_cons pe_int (pa_cons pe_bl pa_nil))) (pa_cons (pe_lst (pa_cons pe_int (pa_cons pe_int pa_nil))) (pa_cons (pe_tup (pa_cons pe_int (pa_cons pe_int (pa_cons pe_int pa_nil)))) (pa_cons pe_non (pa_cons (pe_tup (pa_cons pe_str (pa_cons pe_str pa_nil))) pa_nil))))))))))))) pa_nil))) (pg_name (i := 8) sc__law_otherwise.nd rfl (by first | exact (.inl rfl) | exact (.inr rfl))))
      (pss_one (ps_ret (pe_tup (pa_cons (pv 2) (pa_cons (pe_op (r := rAddU K) u_add (pe_op (r := rAddU K) u_add (pe_slice (r := rSlU K) u_sl (pv 3) po_none (po_some pe_int)) (pe_tup (pa_cons (pv 8) pa_nil))) (pe_slice (r := rSlU K) u_sl (pv 3) (po_some pe_int) po_none)) pa_nil)))))) pss_nil)
      (pss_one (ps_ret (C8.pe_c c__law_pick hr (by first | decide | omega) (by rfl) (pa_cons (pv 0) (pa_cons (pe_lst (pa_cons (pe_tup (pa_cons (pv 2) pa_nil)) (pa_cons (pe_op (r := rAddU K) u_add (pv 1) (pe_tup (pa_cons (pe_tup pa_nil) pa_nil))) (pa_cons (pe_callTy (T := "list") (r := rLstOf K) (u_list rfl) (by rfl) (bi "list" (by decide +kernel)) (by decide +kernel) (pa_cons (pv 1) pa_nil)) (pa_cons (pe_tup (pa_cons (pv 3) (pa_cons (pv 2) pa_nil))) (pa_cons (pe_tup (pa_cons (pv 2) (pa_cons (pe_callTy (T := "list") (r := rLstOf K) (u_list rfl) (by rfl) (bi "list" (by decide +kernel)) (by decide +kernel) (pa_cons (pv 3) pa_nil)) pa_nil))) (pa_cons (pe_tup (pa_cons (pe_callTy (T := "list") (r := rLstOf K) (u_list rfl) (by rfl) (bi "list" (by decide +kernel)) (by decide +kernel) (pa_cons (pv 2) pa_nil)) (pa_cons (pv 3) pa_nil))) (pa_cons (pv 2) pa_nil)))))))) pa_nil)))))))))), ?_⟩
    refine y_asgG a (ed_var rfl) gd_tup2 fun σ1 H1 a1 => ?_
    refine y_par (Ps := fun d1 d2 => ∃ r m : Int, d1 = .int r ∧ d2 = .int m ∧ 0 ≤ r ∧ r < ss.length) a1 (ea_cons (P := fun d => ∃ r : Int, d = .int r ∧ 0 ≤ r ∧ r < ss.length) (ed_d rfl (ead_cons (ed_lenT (ed_var rfl)) ea_nil) ⟨_, rfl, by omega, by omega⟩ (by rintro e ⟨n, r, e1, rfl, g1, g2⟩; cases e1; exact ⟨r, rfl, g1, g2⟩)) fun d1 ⟨r, e1, g1, g2⟩ => (ea1P (P := isIntD) (ed_d rfl (ead_cons ed_int ea_nil) ⟨_, rfl, by decide, by decide⟩ (by rintro e ⟨n, r, e1, rfl, _⟩; exact ⟨_, rfl⟩))).imp fun ds ⟨d2, e2, m, e3⟩ => ⟨d1, d2, by rw [e2], r, m, e1, e3, g1, g2⟩) fun d1 d2 σ2 H2 ⟨r, m, e1, e2, r1, r2⟩ a2 => ?_
    subst e1; subst e2
    have hr' : r.toNat < ss.length := by omega
    have hm : ss.getD r.toNat .non ∈ ss := List.mem_of_getElem? (getD_of hr')
    obtain ⟨ns, hns⟩ := isT_eq (tt _ hm)
    have hmw := wdA_mem hm
    have hmd := depA_mem hm
    have hnc : ∀ d ∈ ns, cl d = true := cl_tup.mp (by rw [← hns]; exact hs _ hm)
    have wn : wd (ss.getD r.toNat .non) = wdA ns + 3 := by rw [hns]; rfl
    have dn : dep (ss.getD r.toNat .non) = depA ns + 1 := by rw [hns]; rfl
    have ln := wdA_len ns
    have hdl : (ss.drop (r.toNat + 1)).length ≤ ss.length := (List.drop_sublist _ _).length_le
    have htl : (ss.take r.toNat).length ≤ ss.length := (List.take_sublist _ _).length_le
    have hcl := (cutD_sub ns (some (-1)) none).length_le
    refine y_set a2 (Ed.is (ed_op (ed_var rfl) (ed_var rfl) (rd_ixT (atI_of r1 (getD_of hr')))) hns) fun σ3 H3 a3 => ?_
    refine y_if (Pb := fun _ => True) a3 (et_test (P := fun d => ∃ b, d = .bl b) (Ed.ev (ed_op (ed_var rfl) ed_int rd_ltI) ⟨_, rfl⟩) fun d ⟨b, e⟩ => ⟨b, e, True.intro⟩) (fun _ H4 a4 => ?_) fun _ H4 a4 => ?_
    · refine y_set a4 (ed_lst (ead_cons (ed_op (ed_var rfl) (ed_tup (ead_cons ed_str ea_nil) (by decide)) (rd_addT (szL (by show ns.length + 1 ≤ _; omega)))) (ead_cons (ed_op (ed_var rfl) (ed_tup (ead_cons ed_str ea_nil) (by decide)) (rd_addT (szL (by show ns.length + 1 ≤ _; omega)))) (ead_cons (ed_op (ed_var rfl) (ed_tup (ead_cons ed_str ea_nil) (by decide)) (rd_addT (szL (by show ns.length + 1 ≤ _; omega)))) (ead_cons (ed_rev (ed_var rfl)) (ead_cons (ed_op (ed_var rfl) (ed_slT (ed_var rfl) (eo_some (ed_un ed_int ru_neg)) eo_none) (rd_addT (szL (by omega)))) (ead_cons (ed_lstT (ed_var rfl)) (ead_cons (ed_op (ed_var rfl) (ed_tup (ead_cons ed_int ea_nil) (by decide)) (rd_addT (szL (by show ns.length + 1 ≤ _; omega))))
        (ead_cons (ed_tup (ead_cons ed_str ea_nil) (by decide)) (ead_cons ed_str (ead_cons ed_non ea_nil)))))))))) (by show 10 ≤ _; decide)) fun σ5 H5 a5 => ?_
      refine x_ret a5 (ev_tup (P := Th 400000 10) (Ps := fun ds => ∃ e, ds = [e, .tup cs] ∧ Th 300000 8 e) (ea_cons (P := Th 300000 8) (ev_op (P1 := fun e => ∃ b, e = .tup (ss.take r.toNat ++ [b]) ∧ Th (2 * wdA ns + 500) (depA ns + 2) b) (P2 := fun e => e = .tup (ss.drop (r.toNat + 1))) (ev_op (P1 := fun e => e = .tup (ss.take r.toNat)) (P2 := fun e => ∃ b, e = .tup [b] ∧ Th (2 * wdA ns + 500) (depA ns + 2) b) (Ed.is (ed_slT (ed_var rfl) eo_none (eo_some (ed_var rfl))) (by rw [cutD_take ss r1]))
          (ev_tup (ea1P (ed_d (P := Th (2 * wdA ns + 500) (depA ns + 2)) rfl (ead_cons (ed_var rfl) ea_nil) ⟨_, rfl, by simp, by show 10 ≤ _; decide⟩ (by rintro e ⟨ds', e1, hm⟩; cases e1; exact (namesO hnc).mem e hm))) fun ds ⟨b, e, hb⟩ => ⟨by rw [e]; show 1 ≤ sizeLine; decide, b, by rw [e], hb⟩) fun d1 d2 e1 ⟨b, e2, hb⟩ => ?_) (Ed.is (ed_slT (ed_var rfl) (eo_some (ed_op (ed_var rfl) ed_int rd_addI)) eo_none) (by rw [cutD_drop ss (by omega), show (r + 1).toNat = r.toNat + 1 by omega])) fun d1 d2 ⟨b, e1, hb⟩ e2 => ?_)
          fun e he => (ead_cons (ed_var rfl) ea_nil).imp fun ds e2 => ⟨e, by rw [e2], he⟩) fun ds ⟨e, e1, he⟩ => ?_) fun v H' d hd a' => hq hd a'
      · rw [e1, e2]
        exact (rd_addT (szL (by show (ss.take r.toNat).length + 1 ≤ _; omega))).imp fun e he => ⟨b, he, hb⟩
      · rw [e1, e2]
        refine (rd_addT (szL (by rw [List.length_append]; show (ss.take r.toNat).length + 1 + _ ≤ _; omega))).imp fun e he => ?_
        rw [he]
        exact put_th hr' hs hb (by omega) (by omega) (by omega)
      · rw [e1]
        refine ⟨by show 2 ≤ sizeLine; decide, .put (as := []) (bs := [.tup cs]) (fun d z => by simp at z) (fun d z => by rw [List.mem_singleton.mp z]; exact cv) he (by show 0 + (300000 + 2) + (wdA cs + 3 + 2 + 0) + 3 ≤ _; omega) (by show max 0 (max 8 (max (depA cs + 1) 0)) + 1 ≤ _; omega)⟩
    · refine y_if (Pb := fun _ => True) a4 (et_test (P := fun d => ∃ b, d = .bl b) (Ed.ev (ed_op (ed_var rfl) ed_int rd_ltI) ⟨_, rfl⟩) fun d ⟨b, e⟩ => ⟨b, e, True.intro⟩) (fun _ H5 a5 => ?_) fun _ H5 a5 => ?_
      · refine y_setV (P := Th 1000 1) a5 (ed_d rfl (ead_cons (ed_lst (ead_cons (ed_tup (ead_cons ed_int ea_nil) (by decide)) (ead_cons (ed_tup ea_nil (by decide)) (ead_cons (ed_tup (ead_cons ed_int (ead_cons (ed_lenT (ed_var rfl)) ea_nil)) (by show 2 ≤ _; decide)) (ead_cons (ed_tup (ead_cons ed_int (ead_cons ed_int ea_nil)) (by decide)) (ead_cons (ed_tup (ead_cons ed_int (ead_cons ed_int ea_nil)) (by decide)) (ead_cons (ed_tup (ead_cons (ed_un ed_int ru_neg) (ead_cons ed_int ea_nil)) (by decide)) (ead_cons (ed_tup (ead_cons ed_bl (ead_cons ed_int ea_nil)) (by decide)) (ead_cons (ed_tup (ead_cons ed_int (ead_cons ed_bl ea_nil)) (by decide)) (ead_cons (ed_lst (ead_cons ed_int (ead_cons ed_int ea_nil)) (by decide))
          (ead_cons (ed_tup (ead_cons ed_int (ead_cons ed_int (ead_cons ed_int ea_nil))) (by decide)) (ead_cons ed_non (ead_cons (ed_tup (ead_cons ed_str (ead_cons ed_str ea_nil)) (by decide)) ea_nil)))))))))))) (by show 12 ≤ _; decide)) ea_nil) ⟨_, rfl, by simp, by show 12 ≤ _; decide⟩ (by rintro e ⟨ds', e1, hm⟩; cases e1; exact (visitsO (by omega)).mem e hm)) fun b σ6 H6 hb a6 => ?_
        have t1 : cutD cs none (some 1) = cs.take 1 := cutD_take cs (by decide)
        have t2 : cutD cs (some 1) none = cs.drop 1 := cutD_drop cs (by decide)
        have tl := (List.take_sublist 1 cs).length_le
        have dl := (List.drop_sublist 1 cs).length_le
        have ww : wdA (cs.take 1) + wdA (cs.drop 1) = wdA cs := by rw [← wdA_app, List.take_append_drop]
        refine x_ret a6 (ev_tup (P := Th 400000 10) (Ps := fun ds => ∃ e, ds = [.tup ss, e] ∧ Th 300000 8 e) (ea_cons (P := fun d => d = .tup ss) (ed_var rfl) fun e0 he0 => (ea1P (P := Th 300000 8) (ev_op (P1 := fun e => e = .tup (cs.take 1 ++ [b])) (P2 := fun e => e = .tup (cs.drop 1)) (ed_op (Ed.is (ed_slT (ed_var rfl) eo_none (eo_some ed_int)) (by rw [t1])) (ed_tup (ead_cons (ed_var rfl) ea_nil) (by show 1 ≤ _; decide)) (rd_addT (szL (by show (cs.take 1).length + 1 ≤ _; omega)))) (Ed.is (ed_slT (ed_var rfl) (eo_some ed_int) eo_none) (by rw [t2])) fun d1 d2 e1 e2 => ?_)).imp fun ds ⟨e, e1, he⟩ => ⟨e, by rw [e1, he0], he⟩) fun ds ⟨e, e1, he⟩ => ?_) fun v H' d hd a' => hq hd a'
        · rw [e1, e2]
          refine (rd_addT (szL (by rw [List.length_append]; show (cs.take 1).length + 1 + _ ≤ _; omega))).imp fun e he => ?_
          rw [he]
          have q1 := depA_sub (as := cs.take 1) (bs := cs) fun d z => (List.take_sublist 1 cs).subset z
          have q2 := depA_sub (as := cs.drop 1) (bs := cs) fun d z => (List.drop_sublist 1 cs).subset z
          exact .put (fun d z => hv d ((List.take_sublist 1 cs).subset z)) (fun d z => hv d ((List.drop_sublist 1 cs).subset z)) hb (by omega) (by omega)
        · rw [e1]
          refine ⟨by show 2 ≤ sizeLine; decide, .put (as := [.tup ss]) (bs := []) (fun d z => by rw [List.mem_singleton.mp z]; exact cs') (fun d z => by simp at z) he (by show wdA ss + 3 + 2 + 0 + (300000 + 2) + 0 + 3 ≤ _; omega) (by show max (max (depA ss + 1) 0) (max 8 0) + 1 ≤ _; omega)⟩
      · refine x_ret a5 (ed_d (P := Th 400000 10) rfl (ead_cons (ed_lst (ead_cons (ed_tup (ead_cons (ed_var rfl) ea_nil) (by show 1 ≤ _; decide)) (ead_cons (ed_op (ed_var rfl) (ed_tup (ead_cons (ed_tup ea_nil (by decide)) ea_nil) (by decide)) (rd_addT (by show 3 ≤ _; decide))) (ead_cons (ed_lstT (ed_var rfl)) (ead_cons (ed_tup (ead_cons (ed_var rfl) (ead_cons (ed_var rfl) ea_nil)) (by show 2 ≤ _; decide)) (ead_cons (ed_tup (ead_cons (ed_var rfl) (ead_cons (ed_lstT (ed_var rfl)) ea_nil)) (by show 2 ≤ _; decide)) (ead_cons (ed_tup (ead_cons (ed_lstT (ed_var rfl)) (ead_cons (ed_var rfl) ea_nil)) (by show 2 ≤ _; decide)) (ead_cons (ed_var rfl) ea_nil))))))) (by show 7 ≤ _; decide)) ea_nil) ⟨_, rfl, by simp, by show 7 ≤ _; decide⟩ (by rintro e ⟨ds', e1, hm⟩; cases e1; exact (otherO hs hv hw g1 g2).mem e hm)) fun v H' e he a' => hq he a'
end
end Cal


namespace Cal
open PySem PySem.Spec PyProof.Rows L2
abbrev sp__law_deck (K : PySem.W.Frag) : Sp := fun vs H Q E => ∃ (a : Addr) (ns : List Int), vs = [.ref a] ∧ SqL K H a (ns.map V.int) ∧ ns.length ≤ 63 ∧ ∀ dk l H', Same H H' → H dk = none → H l = none → dk ≠ l → DkI dk l 64 H' → Q (.ref dk) H'
/-- the tuples of a heap -/
def tupsOf (H : Hp) : Hp := fun b => match H b with | some (.tup vs) => some (.tup vs) | _ => none
theorem tupsOf_sub {H : Hp} : Same (tupsOf H) H := fun b o e => by
  unfold tupsOf at e
  split at e
  · rename_i vs h; rw [h]; exact e
  · cases e
theorem tupsOf_is {H : Hp} {b : Addr} {o : HO} (e : tupsOf H b = some o) : ∃ vs, o = .tup vs := by
  unfold tupsOf at e
  split at e
  · exact ⟨_, (Option.some.inj e).symm⟩
  · cases e
theorem tupsOf_tup {H : Hp} {b : Addr} {vs : List V} (e : H b = some (.tup vs)) : tupsOf H b = some (.tup vs) := by
  unfold tupsOf; rw [e]
abbrev Bz (K : PySem.W.Frag) (H : Hp) : Bs := ⟨K, fun _ => True, [], fun _ _ _ _ => True.intro, tupsOf H, H⟩
theorem At.zero {K : PySem.W.Frag} {H : Hp} {ρ : Ro} {σ : L2.St} (hl : ρ.length = σ.length) (h : ∀ (i : Nat) (d : D), ρ[i]? = some (some d) → ∃ v, σ[i]? = some (some v) ∧ d = .raw v) : At (Bz K H) ρ [] [] σ H :=
  ⟨tupsOf H, tupsOf_sub, True.intro, fun b hb => (nomatch hb), fun b vs e => tupsOf_tup e, fun b o e _ => e, fun b o e => .inr e, hl, fun i d e => let ⟨v, h1, h2⟩ := h i d e; ⟨v, h1, by rw [h2]; rfl⟩, fun q hq => (nomatch hq), List.nodup_nil, fun q hq => (nomatch hq)⟩
theorem At.same {K : PySem.W.Frag} {H H' : Hp} {ρ : Ro} {μ : Mu} {τ : List (V × D)} {σ : L2.St} (a : At (Bz K H) ρ μ τ σ H') : Same H H' := by
  obtain ⟨G, g⟩ := a
  exact fun b o e => g.base b o e fun z => nomatch z
section
variable {K : PySem.W.Frag} {H0 : Hp} {ρ : Ro} {μ : Mu} {a : Addr} {ns : List Int} {te : TE} {j : Nat} {B : Bs} {ds : List D}
theorem ed_cutScript (hS : SqL K H0 a (ns.map V.int)) (hl : ns.length ≤ 63) (h : ρ[j]? = some (some (.raw (.ref a)))) : Ed (Bz K H0) (tSl (rSlU K) (tVar j) tNoPart (tPart (tC (.int 63)))) ρ μ (.lst (ns.map D.int)) := Ev.mk fun τ σ H A Q q => by
  obtain ⟨v, h1, h2⟩ := A.var h
  obtain ⟨G, g, hv⟩ := h2.top
  rw [show v = V.ref a from hv] at h1
  refine ⟨_, h1, 63, rfl, .inr (.inl ⟨a, ns.map V.int, rfl, (At.same A).seq hS, fun p hp => q _ _ _ rfl (g.newLst hp ?_)⟩)⟩
  have e : cutV (ns.map V.int) none (some 63) = ns.map V.int := by
    unfold cutV
    rw [show HT.sIx (ns.map V.int).length (ns.map V.int).length (some 63) = min 63 (ns.map V.int).length from HT.sIx_nat _ _ 63, HT.sIx_none, List.drop_zero, Nat.sub_zero, Nat.min_eq_right (by rw [List.length_map]; exact hl), List.take_length]
  rw [e]
  exact DtA.of_ints ns
theorem rc_lstL : RC B (rLstOf B.K) ρ μ [.lst ds] (fun e => e = .lst ds) := fun τ σ H xs hl a Q q => by
  obtain ⟨G, g, h⟩ := a.args hl
  obtain ⟨v, rfl, p, vs, rfl, e, k⟩ := one_arg h
  exact .inl ⟨p, vs, rfl, .inl (.inl (.inl (g.sub _ _ e))), fun l hl => q _ _ _ rfl (g.newLst hl k)⟩
theorem ed_revI (h : Ed B te ρ μ (.lst (ns.map D.int))) : Ed B (tRevL B.K te) ρ μ (.lst (ns.reverse.map D.int)) := Ev.mk fun τ σ H a Q q => h.go a fun v H1 d hd a1 => by
  subst hd
  obtain ⟨G, g, p, vs, rfl, e, k⟩ := id a1.top
  refine ⟨p, vs, rfl, .inl (.inl (g.sub _ _ e)), fun p' hp' => q _ _ _ rfl (g.newLst hp' ?_)⟩
  rw [k.ints, ← List.map_reverse]
  exact DtA.of_ints ns.reverse
end
section
variable {P : Program} {w : World} {K : PySem.W.Frag} {mg : Str → Option Value} {base : Heap} {f : Addr} {fd : FuncData}
abbrev BN7 : List Str := ["int", "list"]
variable (bi : ∀ x, x ∈ BN7 → mg x = none)
include bi in
theorem ok__law_deck (F : Fun K "_law_deck" "_law_deck" s__law_deck f fd) : FnOk P w K mg base CX0 1 f fd ["script"] (sp__law_deck K) := by
  refine F.ok sc__law_deck (fun vs H Q E h => ?_) (fun cdv A outer s H vs Q E hr h => ?_)
  · obtain ⟨a, ns, rfl, _⟩ := h
    rfl
  · have hu := hu_of hr
    obtain ⟨a, ns, rfl, hS, hl, hq⟩ := h
    refine ⟨_, (pss_cons (ps_asg pe_int (pg_name (i := 1) sc__law_deck.nd rfl (by first | exact (.inl rfl) | exact (.inr rfl))))
      (pss_cons (ps_for PassesOwn.never rfl (pi_list (pe_slice (r := rSlU K) u_sl (pv 0) po_none (po_some pe_int))) (pg_name (i := 2) sc__law_deck.nd rfl (by first | exact (.inl rfl) | exact (.inr rfl)))
        (pss_one (ps_asg (pe_op op_mod (pe_callTy (T := "int") call_int1 (by rfl) (bi "int" (by decide +kernel)) (by decide +kernel) (pa_cons (pe_op (r := rAddU K) u_add (pe_op (r := rAddU K) u_add (pe_op u_mul2 (pv 1) pe_int) (pe_op op_mod (pe_callTy (T := "int") call_int1 (by rfl) (bi "int" (by decide +kernel)) (by decide +kernel) (pa_cons (pv 2) pa_nil)) pe_int)) pe_int) pa_nil)) pe_int) (pg_name (i := 1) sc__law_deck.nd rfl (by first | exact (.inl rfl) | exact (.inr rfl))))))
      (pss_one (ps_ret (pe_disp (pps_cons pe_str (pe_revL (pe_callTy (T := "list") (r := rLstOf K) (u_list rfl) (by rfl) (bi "list" (by decide +kernel)) (by decide +kernel) (pa_cons (pe_slice (r := rSlU K) u_sl (pv 0) po_none (po_some pe_int)) pa_nil))) (pps_cons pe_str (pv 1) (pps_cons pe_str pe_int pps_nil))) (by rfl) (by rfl) (fun z => by cases z) (by decide)))))), ?_⟩
    have a0 : At (Bz K H) [some (.raw (.ref a)), none, none] [] [] (start n__law_deck [.ref a]) H := At.zero rfl fun i d e => by
      match i, e with
      | 0, e => exact ⟨.ref a, rfl, (Option.some.inj (Option.some.inj e)).symm⟩
      | 1, e => cases e
      | 2, e => cases e
    refine y_set a0 ed_int fun σ1 H1 a1 => ?_
    refine y_forN a1 (ei_lst (ed_cutScript hS hl rfl)) (fun i ρ μ => ∃ (m : Int) (c : Option D), ρ = [some (.raw (.ref a)), some (.int m), c] ∧ μ = []) ⟨_, none, rfl, rfl⟩ (fun i ρ' μ' τ1 σ2 H2 Dn hi hI a2 hnx hct hbk hrt => ?_) fun ρ' μ' σ2 H2 hI a2 => ?_
    · obtain ⟨m, c, rfl, rfl⟩ := hI
      have hi' : i < ns.length := by simpa using hi
      have ex : (ns.map D.int).getD i .non = .int ns[i] := by
        rw [List.getD_eq_getElem?_getD, List.getElem?_map, List.getElem?_eq_getElem hi']; rfl
      rw [ex] at a2
      refine x_set a2 (ed_op (ed_cb (ead_cons (ed_op (ed_op (ed_op (ed_var rfl) ed_int (rd_mulI2 (.inr ⟨by decide, by decide⟩))) (ed_op (ed_cb (ead_cons (ed_var rfl) ea_nil) rc_intI) ed_int (rd_mod (by decide))) rd_addI) ed_int rd_addI) ea_nil) rc_intI) ed_int (rd_mod (by decide))) fun σ3 H3 a3 => hnx _ _ _ _ ⟨_, _, rfl, rfl⟩ a3
    · obtain ⟨m, c, rfl, rfl⟩ := hI
      -- the object: left, mixed, draws
      intro p hp
      obtain ⟨a3, _⟩ := At.newCell (c := .dk []) (o := .dK []) a2 hp fun G _ => ⟨[], upd_same, rfl⟩
      have hpn : H p = none := by
        cases e : H p with
        | none => rfl
        | some o => rw [At.same a2 p o e] at hp; cases hp
      simp only [tPairs]
      simp only [tC]
      show tRevL K (tCB (rLstOf K) (tCons (tSl (rSlU K) (tVar 0) tNoPart (tPart (tC (.int 63)))) tNil)) σ2 (upd H2 p (HO.dK [])) _
      refine (ed_revI (B := Bz K H) (ed_cb (ead_cons (ed_cutScript (j := 0) hS hl rfl) ea_nil) rc_lstL)).go a3 fun v H3 d hd a4 => ?_
      subst hd
      obtain ⟨v2, g1, g2⟩ := At.var (i := 1) a4 rfl
      obtain ⟨G, g, hv2⟩ := id g2.top
      rw [show v2 = V.int m from hv2] at g1
      obtain ⟨G4, g4, l, vs, rfl, e4, k4⟩ := id a4.top
      have hvs := k4.ints
      subst hvs
      obtain ⟨n1, n2, n3, kvs, c1, c2⟩ := g4.cells _ (List.mem_cons_self ..)
      have hk : kvs = [] := c2
      subst hk
      have hl4 : H l = none := by
        rcases g4.ext l _ e4 with z | z
        · exact z
        · obtain ⟨vs', z'⟩ := tupsOf_is z
          cases z'
      have hne : p ≠ l := fun z => by
        have n1' : G4 p = none := n1
        rw [z, e4] at n1'; cases n1'
      show tVar 1 σ2 H3 _
      refine ⟨_, g1, ⟨c1, [(kL, .ref l), (kM, .int m), (kD, .int 0)], rfl, by show 3 ≤ 15; decide, ?_⟩⟩
      refine hq p l _ (fun b o e => ?_) hpn hl4 hne ⟨ns.reverse, m, 0, ?_, ?_, by rw [List.length_reverse]; omega⟩
      · rw [upd_ne (fun z => by rw [z, hpn] at e; cases e)]
        exact At.same a4 b o e
      · rw [upd_same, dkv_merge]
      · rw [upd_ne hne.symm]
        exact g4.sub _ _ e4
end
end Cal


namespace Cal
open PySem PySem.Spec PyProof.Rows L2
/-! ### texts compared; calls by keywords alone -/
section
variable {X : Cx}
def rEqS : R2 := fun x y H Q => ∃ a b : Str, x = .str a ∧ y = .str b ∧ Q (.bl (a == b)) H
def rNeS : R2 := fun x y H Q => ∃ a b : Str, x = .str a ∧ y = .str b ∧ Q (.bl !(a == b)) H
theorem op_eqS : OpR X (compareOp .Eq) rEqS := by
  intro pins s σ H x y v u Q I rx ry h
  obtain ⟨a, b, rfl, rfl, q⟩ := h
  obtain ⟨t, rfl⟩ := rx
  obtain ⟨t', rfl⟩ := ry
  exact SeqAt.RcAt.str_str a t b t' _ _ _ _ ⟨.bl (a == b), H, I, rfl, q⟩
theorem op_neS : OpR X (compareOp .NotEq) rNeS := by
  intro pins s σ H x y v u Q I rx ry h
  obtain ⟨a, b, rfl, rfl, q⟩ := h
  obtain ⟨t, rfl⟩ := rx
  obtain ⟨t', rfl⟩ := ry
  exact SeqAt.RcNeAt.str_str a t b t' _ _ _ _ ⟨.bl !(a == b), H, I, rfl, q⟩
end
/-- a def that may be called by its name with these keywords, gV puts them in the parameters' order -/
structure CalW (P : Program) (w : World) (K : PySem.W.Frag) (mg : Str → Option Value) (base : Heap) (k : Nat) (x : Str) (ks : List Str) (gV : List V → List V → List V) (sp : Sp) : Prop where
  ex : ∃ (f : Addr) (fd : FuncData) (ps : List Str) (g : List Value → List Value → List Value), FnOk P w K mg base CX0 k f fd ps sp ∧ mg x = some (.ref f) ∧ PySem.W.keepIn K (.ref f) = true ∧ KBinds K fd ps ks g gV
section
variable {X : Cx} {k j : Nat} {x : Str} {p pos : Pos} {kws : List Keyword} {ks : List Str} {sp : Sp} {tk : TA} {gV : List V → List V → List V}
def tCallW (sp : Sp) (gV : List V → List V → List V) (tk : TA) : TE := fun σ H Q => tk σ H fun zs H1 => sp (gV [] zs) H1 Q C8.E0
theorem pe_ck (c : CalW X.prog X.w X.K X.mg X.base k x ks gV sp) (hr : Room j X.A) (hk : k ≤ j) (hg : Gl X x) (hkw : PK X kws tk) (hall : (backToKw pos (keywordEach kws X.env)).all (·.1.isSome) = true := by rfl) (hks : (backToKw pos (keywordEach kws X.env)).filterMap (·.1) = ks := by rfl)
    (hdb : (x == ("__debug__" : Str)) = false := by decide) (hpl : ((backTo pos (starEach [] X.env)).any (·.1) || (backToKw pos (keywordEach kws X.env)).any (·.1.isNone)) = false := by rfl) : PE X (.Call (.Name x p) [] kws pos) (tCallW sp gV tk) := by
  obtain ⟨f, fd, ps, g, F, hm, kp, b⟩ := c.ex
  refine ⟨fun pins s σ H Q I h => wpAny_Call_Name_kw (ld_glob I hg hm ?_ hdb)⟩
  refine PySem.W.callWith_KW0 (h₀ := X.base) I.ok.mod.kin kp hall (thn (hkw.run pos pins s σ H _ I h) fun ws s2 ⟨zs, H2, I2, rz, q2⟩ => ⟨I2.kIn, ?_⟩) hpl
  rw [hks]
  exact run_fnk (us := []) (vs := []) F (hr.mono hk) b C8.pass0 I2 .nil rz q2
end
section
variable {B : Bs} {ρ : Ro} {μ : Mu} {s t : Str} {ds : List D} {d : D}
theorem rd_neS : RD B rNeS ρ μ (.str s) (.str t) (fun e => e = .bl !(s == t)) := rd_flat (fun _ => rfl) fun G H x y _ a b Q q => ⟨s, t, a, b, q⟩
theorem rd_eqS : RD B rEqS ρ μ (.str s) (.str t) (fun e => e = .bl (s == t)) := rd_flat (fun _ => rfl) fun G H x y _ a b Q q => ⟨s, t, a, b, q⟩
theorem ed_pw {pre : List D → Prop} {post : List D → D → Prop} {t : TA} {gV : List V → List V → List V} (hgV : ∀ zs, gV [] zs = zs) (h : Ea B t ρ μ (fun l => l = ds)) (hpre : pre ds) (hpost : ∀ e, post ds e → e = d) : Ed B (tCallW (psp B.K pre post) gV t) ρ μ d := by
  have e := ed_p (B := B) (E := C8.E0) (d := d) h hpre hpost
  have e2 : tCallW (psp B.K pre post) gV t = tCall (psp B.K pre post) [] C8.E0 t := by
    unfold tCallW tCall
    funext σ H Q
    congr 1
    funext zs H1
    rw [hgV, List.append_nil]
  rw [e2]; exact e
end
end Cal


namespace Cal
open PySem PySem.Spec PyProof.Rows L2
abbrev s_law : Stmt := topS 29
abbrev n_law : List Str := ["script", "deck", "turn", "many", "placement", "things", "go", "at", "thing", "due", "text", "told"]
theorem sc_law : FnScope n_law ["script"] (defScope s_law) := ⟨rfl, rfl, rfl, by decide +kernel, rfl, by decide +kernel, by decide +kernel⟩
/-! ### a drawn placement is made of parts -/
theorem pl_facts {s c r : Int} {e : D} (h : PlD s c r e) (hs : 1 ≤ s ∧ s ≤ 7) (hc : 0 ≤ c ∧ c ≤ 3) (hr : r ≤ 13) : ∃ ss vs : List D, e = .tup [.tup ss, .tup vs] ∧ ptA ss = true ∧ ptA vs = true ∧ (∀ d ∈ ss, isT d = true) ∧ 1 ≤ ss.length ∧ ss.length ≤ 60 ∧ wdA ss ≤ 9500 ∧ wdA vs ≤ 4500 ∧ depA ss ≤ 1 ∧ depA vs ≤ 1 := by
  obtain ⟨kept, vis, rfl, l1, l2, hk, hv⟩ := h
  have nm : ∀ k ∈ kept, ∀ s ∈ k, s.length ≤ 10 ∧ ptD (.str s) = true := fun k hk' s hs' => by
    obtain ⟨_, hn, _⟩ := hk k hk'
    obtain ⟨_, h2, h3⟩ := hn.1 s hs'
    refine ⟨h2, ?_⟩
    show (decide (s.length ≤ 10) && s.cps.toList.all fun c => decide (97 ≤ c) && decide (c ≤ 122)) = true
    have h2' : s.length ≤ 10 := h2
    rw [decide_eq_true h2', Bool.true_and]
    exact List.all_eq_true.mpr fun c hc' => by
      have := h3 c hc'
      rw [decide_eq_true this.1, decide_eq_true this.2]; rfl
  refine ⟨_, _, rfl, ptA_all fun d hd => ?_, ptA_all fun d hd => ?_, fun d hd => ?_, by rw [List.length_map]; omega, by rw [List.length_map]; omega, ?_, ?_, depA_le fun d hd => ?_, depA_le fun d hd => ?_⟩
  · obtain ⟨k, hk', rfl⟩ := List.mem_map.mp hd
    refine ptA_all fun d hd => ?_
    obtain ⟨s, hs', rfl⟩ := List.mem_map.mp hd
    exact (nm k hk' s hs').2
  · obtain ⟨v, hv', rfl⟩ := List.mem_map.mp hd
    refine ptA_all fun d hd => ?_
    obtain ⟨x, hx, rfl⟩ := List.mem_map.mp hd
    have := (hv v hv').2.1 x hx
    show (decide (0 ≤ x) && decide (x < 1000)) = true
    rw [decide_eq_true this.1, decide_eq_true (show x < 1000 by omega)]; rfl
  · obtain ⟨k, hk', rfl⟩ := List.mem_map.mp hd
    rfl
  · refine Nat.le_trans (wdA_le (n := 1355) fun d hd => ?_) ?_
    · obtain ⟨k, hk', rfl⟩ := List.mem_map.mp hd
      have h1 : wdA (k.map D.str) ≤ (k.map D.str).length * (102 + 2) := wdA_le fun d hd => by
        obtain ⟨s, hs', rfl⟩ := List.mem_map.mp hd
        have := (nm k hk' s hs').1
        show 10 * s.length + 2 ≤ 102
        omega
      rw [List.length_map] at h1
      have := (hk k hk').2.2
      show wdA (k.map D.str) + 3 ≤ 1355
      omega
    · rw [List.length_map]; omega
  · refine Nat.le_trans (wdA_le (n := 1487) fun d hd => ?_) ?_
    · obtain ⟨v, hv', rfl⟩ := List.mem_map.mp hd
      have h1 : wdA (v.map D.int) ≤ (v.map D.int).length * (210 + 2) := wdA_le fun d hd => by
        obtain ⟨x, _, rfl⟩ := List.mem_map.mp hd
        exact Nat.le_refl _
      rw [List.length_map] at h1
      have := (hv v hv').2.2.2
      show wdA (v.map D.int) + 3 ≤ 1487
      omega
    · rw [List.length_map]; omega
  · obtain ⟨k, hk', rfl⟩ := List.mem_map.mp hd
    have : depA (k.map D.str) ≤ 0 := depA_le fun d hd => by
      obtain ⟨s, _, rfl⟩ := List.mem_map.mp hd
      exact Nat.le_refl _
    show depA (k.map D.str) + 1 ≤ 1
    omega
  · obtain ⟨v, hv', rfl⟩ := List.mem_map.mp hd
    have : depA (v.map D.int) ≤ 0 := depA_le fun d hd => by
      obtain ⟨s, _, rfl⟩ := List.mem_map.mp hd
      exact Nat.le_refl _
    show depA (v.map D.int) + 1 ≤ 1
    omega
def few : List D := [.tup [.tup [], .tup []], .tup [.tup [], .tup [.tup [.int 0, .int 1]]], .tup [.tup [.tup []], .tup []], .tup [.tup [.tup [.str "a"]], .tup []]]
theorem few_th : ThA 400000 10 few := by
  have c1 : ∀ d, cl d = true → wd d ≤ 2000 → dep d ≤ 4 → Th 400000 10 d := fun d h1 h2 h3 => .clean h1 (by omega) (by omega)
  exact ⟨c1 _ rfl (by decide) (by decide), c1 _ (by decide +kernel) (by decide) (by decide), c1 _ rfl (by decide) (by decide), c1 _ (by decide +kernel) (by decide) (by decide), True.intro⟩
theorem few_ed {B : Bs} {ρ : Ro} {μ : Mu} : Ed B (tLst (tCons (tTup (tCons (tTup tNil) (tCons (tTup tNil) tNil))) (tCons (tTup (tCons (tTup tNil) (tCons (tTup (tCons (tTup (tCons (tC (.int 0)) (tCons (tC (.int 1)) tNil))) tNil)) tNil))) (tCons (tTup (tCons (tTup (tCons (tTup tNil) tNil)) (tCons (tTup tNil) tNil))) (tCons (tTup (tCons (tTup (tCons (tTup (tCons (tC (.str "a")) tNil)) tNil)) (tCons (tTup tNil) tNil))) tNil))))) ρ μ (.lst few) :=
  ed_lst (ead_cons (ed_tup (ead_cons (ed_tup ea_nil (by decide)) (ead_cons (ed_tup ea_nil (by decide)) ea_nil)) (by decide)) (ead_cons (ed_tup (ead_cons (ed_tup ea_nil (by decide)) (ead_cons (ed_tup (ead_cons (ed_tup (ead_cons ed_int (ead_cons ed_int ea_nil)) (by decide)) ea_nil) (by decide)) ea_nil)) (by decide)) (ead_cons (ed_tup (ead_cons (ed_tup (ead_cons (ed_tup ea_nil (by decide)) ea_nil) (by decide)) (ead_cons (ed_tup ea_nil (by decide)) ea_nil)) (by decide)) (ead_cons (ed_tup (ead_cons (ed_tup (ead_cons (ed_tup (ead_cons ed_str ea_nil) (by decide)) ea_nil) (by decide)) (ead_cons (ed_tup ea_nil (by decide)) ea_nil)) (by decide)) ea_nil)))) (by decide)
def Ths (ts : List D) (n : Nat) : Prop := ts.length = n ∧ ∀ t ∈ ts, Th 400000 10 t
theorem Ths.app {as bs : List D} {m n : Nat} (h : Ths as m) (k : Ths bs n) : Ths (as ++ bs) (m + n) := ⟨by rw [List.length_append, h.1, k.1], fun t ht => (List.mem_append.mp ht).elim (h.2 t) (k.2 t)⟩
theorem At.deck {K : PySem.W.Frag} {dk l : Addr} {H : Hp} {ρ : Ro} {σ : L2.St} (hl : ρ.length = σ.length) (h : ∀ (i : Nat) (d : D), ρ[i]? = some (some d) → ∃ v, σ[i]? = some (some v) ∧ d = .raw v) (hI : DkI dk l 64 H) : At (Bd K dk l 64 (tupsOf H) H) ρ [] [] σ H :=
  ⟨tupsOf H, tupsOf_sub, hI, fun b hb => ⟨(by
    cases e : tupsOf H b with
    | none => rfl
    | some o =>
      obtain ⟨vs, rfl⟩ := tupsOf_is e
      exact absurd (tupsOf_sub b _ e) ((DkI.ent hI b hb).2 vs)), DkI.ent hI b hb⟩, fun b vs e => tupsOf_tup e, fun b o e _ => e, fun b o e => .inr e, hl, fun i d e => let ⟨v, h1, h2⟩ := h i d e; ⟨v, h1, by rw [h2]; rfl⟩, fun q hq => (nomatch hq), List.nodup_nil, fun q hq => (nomatch hq)⟩
section
variable {P : Program} {w : World} {K : PySem.W.Frag} {mg : Str → Option Value} {base : Heap} {f : Addr} {fd : FuncData}
abbrev BN8 : List Str := ["enumerate", "int", "range", "repr"]
variable (bi : ∀ x, x ∈ BN8 → mg x = none)
include bi in
theorem run_law {s₁ : Shared} {H : Hp} {a : Addr} {ns : List Int} (F : Fun K "law" "law" s_law f fd) (hb : BindsTo s₁ fd ⟨[.ref a], []⟩ [("script", .ref a)]) (hl : ns.length ≤ 63) (e0 : Env0 P w K mg base callerA [] s₁ H) (hS : SqL K H a (ns.map V.int))
    (c__law_deck : C8.Cal P w K mg base 1 "_law_deck" (sp__law_deck K) []) (c__law_draw : C8.Cal P w K mg base 1 "_law_draw" (sp__law_draw K) []) (c__law_pick : C8.Cal P w K mg base 2 "_law_pick" (sp__law_pick K) []) (c__law_placement : C8.Cal P w K mg base 4 "_law_placement" (sp__law_placement K) []) (c__law_otherwise : C8.Cal P w K mg base 3 "_law_otherwise" (sp__law_otherwise K) []) (c__law_bent : C8.Cal P w K mg base 15 "_law_bent" (sp__law_bent 11 K) [])
    (c__law_is_placement : C8.Cal P w K mg base 2 "_law_is_placement" (sp_is_placement K) []) (c_is_placement : C8.Cal P w K mg base 6 "is_placement" (sp_is_placement K) []) (k_is_placement : CalW P w K mg base 6 "is_placement" ["thing"] (fun vs zs => vs ++ zs) (sp_is_placement K)) :
    codeAny (model P w) callerA (.call (.ref f) ⟨[.ref a], []⟩) (CR CX0 [] P w H s₁ (fun v _ => v = .bl true) fun _ _ _ => False) s₁ := by
  obtain ⟨oc, od, kV, doc, pm, an, cdv, ct, osl, rfl, lk, hcd⟩ := F.ex
  refine run_of (k := 20) (ps := ["script"]) (us := [.ref a]) (vs := [.ref a]) lk hcd sc_law rfl ⟨rfl, by decide, by decide⟩ e0 hb (.cons rfl .nil) ?_
  have hr : Room 20 (callerA.deeper (envOfC "law" (defScope s_law) s₁.heap.objs.size f cdv)) := Room.deeper (k := 20) ⟨rfl, by decide, by decide⟩ _
  have hg : (callerA.deeper (envOfC "law" (defScope s_law) s₁.heap.objs.size f cdv)).guards = some [] := rfl
  have hu := hu_of hr
  suffices hh : ∃ t, PSs (cxOf CX0 P w K mg base n_law "law" (defScope s_law) f cdv callerA [] s₁ H fun _ _ _ => False).nox (defBody s_law) t ∧ t { nx := fun _ _ => V.non = .bl true, rt := fun v _ => v = .bl true } (start n_law [.ref a]) H from let ⟨t, h1, h2⟩ := hh; ⟨t, h1.nox, h2⟩
  refine ⟨_, (pss_cons (ps_asg (C8.pe_c c__law_deck hr (by first | decide | omega) (by rfl) (pa_cons (pv 0) pa_nil)) (pg_name (i := 1) sc_law.nd rfl (by first | exact (.inl rfl) | exact (.inr rfl))))
      (pss_cons (ps_for PassesOwn.never rfl (pi_range1 (by rfl) (bi "range" (by decide +kernel)) (pa_cons pe_int pa_nil)) (pg_name (i := 2) sc_law.nd rfl (by first | exact (.inl rfl) | exact (.inr rfl)))
        (pss_cons (ps_asg (C8.pe_c c__law_pick hr (by first | decide | omega) (by rfl) (pa_cons (pv 1) (pa_cons (pe_lst (pa_cons pe_int (pa_cons pe_int (pa_cons pe_int (pa_cons pe_int (pa_cons pe_int (pa_cons pe_int pa_nil))))))) pa_nil))) (pg_name (i := 3) sc_law.nd rfl (by first | exact (.inl rfl) | exact (.inr rfl))))
      (pss_cons (ps_asg (C8.pe_c c__law_placement hr (by first | decide | omega) (by rfl) (pa_cons (pv 1) (pa_cons (pv 3) (pa_cons (pe_ifExp (pt_cmpR op_gt (pv 3) pe_int (nomark _)) (C8.pe_c c__law_draw hr (by first | decide | omega) (by rfl) (pa_cons (pv 1) (pa_cons pe_int pa_nil))) pe_int) (pa_cons (C8.pe_c c__law_pick hr (by first | decide | omega) (by rfl) (pa_cons (pv 1) (pa_cons (pe_lst (pa_cons pe_int (pa_cons pe_int (pa_cons pe_int (pa_cons pe_int (pa_cons pe_int pa_nil)))))) pa_nil))) pa_nil))))) (pg_name (i := 4) sc_law.nd rfl (by first | exact (.inl rfl) | exact (.inr rfl))))
      (pss_cons (ps_asg (pe_lst (pa_cons (pv 4) (pa_cons (C8.pe_c c__law_pick hr (by first | decide | omega) (by rfl) (pa_cons (pv 1) (pa_cons (pe_lst (pa_cons (pe_tup (pa_cons (pe_tup pa_nil) (pa_cons (pe_tup pa_nil) pa_nil))) (pa_cons (pe_tup (pa_cons (pe_tup pa_nil) (pa_cons (pe_tup (pa_cons (pe_tup (pa_cons pe_int (pa_cons pe_int pa_nil))) pa_nil)) pa_nil))) (pa_cons (pe_tup (pa_cons (pe_tup (pa_cons (pe_tup pa_nil) pa_nil)) (pa_cons (pe_tup pa_nil) pa_nil))) (pa_cons (pe_tup (pa_cons (pe_tup (pa_cons (pe_tup (pa_cons pe_str pa_nil)) pa_nil)) (pa_cons (pe_tup pa_nil) pa_nil))) pa_nil))))) pa_nil))) pa_nil))) (pg_name (i := 5) sc_law.nd rfl (by first | exact (.inl rfl) | exact (.inr rfl))))
      (pss_cons (ps_asg (pe_op (r := rAddU K) u_add (pe_op (r := rAddU K) u_add (pv 5) (pe_lc (own := [("go", 6)]) (g := gName 6) (tt := tYes) rfl sc_law.nd (pi_range1 (by rfl) (bi "range" (by decide +kernel)) (pa_cons pe_int pa_nil)) (blkOk_by (N := n_law) (sc := defScope s_law) (by decide +kernel)) (fun _ _ _ _ _ => (pg_name (i := 6) sc_law.nd rfl (by first | exact (.inl rfl) | exact (.inr rfl)))) (fun _ _ _ _ _ => pts_nil) (fun _ _ _ _ _ => (C8.pe_c c__law_otherwise hr (by first | decide | omega) (by rfl) (pa_cons (pv 1) (pa_cons (pv 4) pa_nil)))))) (pe_lc (own := [("go", 6)]) (g := gName 6) (tt := tYes) rfl sc_law.nd (pi_range1 (by rfl) (bi "range" (by decide +kernel)) (pa_cons pe_int pa_nil)) (blkOk_by (N := n_law) (sc := defScope s_law) (by decide +kernel)) (fun _ _ _ _ _ => (pg_name (i := 6) sc_law.nd rfl (by first | exact (.inl rfl) | exact (.inr rfl)))) (fun _ _ _ _ _ => pts_nil) (fun _ _ _ _ _ => (C8.pe_c c__law_bent hr (by first | decide | omega) (by rfl) (pa_cons (pv 1) (pa_cons (pv 4) (pa_cons (C8.pe_c c__law_draw hr (by first | decide | omega) (by rfl) (pa_cons (pv 1) (pa_cons pe_int pa_nil))) pa_nil))))))) (pg_name (i := 5) sc_law.nd rfl (by first | exact (.inl rfl) | exact (.inr rfl))))
      (pss_one (ps_for PassesOwn.never rfl (pi_enum (by rfl) (bi "enumerate" (by decide +kernel)) (pa_cons (pv 5) pa_nil)) (pg_tup rfl (pgs_cons (pg_name (i := 7) sc_law.nd rfl (by first | exact (.inl rfl) | exact (.inr rfl))) (pgs_cons (pg_name (i := 8) sc_law.nd rfl (by first | exact (.inl rfl) | exact (.inr rfl))) pgs_nil)))
        (pss_cons (ps_par (i := 9) (j := 10) (by rfl) sc_law.nd rfl rfl (by decide) rfl rfl (pa_cons (C8.pe_c c__law_is_placement hr (by first | decide | omega) (by rfl) (pa_cons (pv 8) pa_nil)) (pa_cons (pe_callB (id := "repr") (r := rRp K) (u_repr hg hr.units) (by rfl) (bi "repr" (by decide +kernel)) (by decide +kernel) (pa_cons (pv 8) pa_nil)) pa_nil)) (by rfl))
      (pss_cons (ps_asg (pe_ifExp (pt_cmpR op_gt (pe_op op_mod (pe_callTy (T := "int") call_int1 (by rfl) (bi "int" (by decide +kernel)) (by decide +kernel) (pa_cons (pv 7) pa_nil)) pe_int) pe_int (nomark _)) (C8.pe_c c_is_placement hr (by first | decide | omega) (by rfl) (pa_cons (pv 8) pa_nil)) (pe_ck k_is_placement hr (by first | decide | omega) (by rfl) (pk_cons (pv 8) pk_nil))) (pg_name (i := 11) sc_law.nd rfl (by first | exact (.inl rfl) | exact (.inr rfl))))
      (pss_one (ps_if (PW.pt (pw_or (pt_cmpR op_neS (pe_callB (id := "repr") (r := rRp K) (u_repr hg hr.units) (by rfl) (bi "repr" (by decide +kernel)) (by decide +kernel) (pa_cons (pv 11) pa_nil)) (pe_callB (id := "repr") (r := rRp K) (u_repr hg hr.units) (by rfl) (bi "repr" (by decide +kernel)) (by decide +kernel) (pa_cons (pv 9) pa_nil)) (nomark _)) (pw_or1 (pt_cmpR op_neS (pe_callB (id := "repr") (r := rRp K) (u_repr hg hr.units) (by rfl) (bi "repr" (by decide +kernel)) (by decide +kernel) (pa_cons (pv 8) pa_nil)) (pv 10) (nomark _))))) (pss_one (ps_ret pe_bl)) pss_nil)))))))))))
      (pss_one (ps_ret pe_bl)))), ?_⟩
  -- the deck
  refine ⟨.ref a, rfl, a, ns, rfl, hS, hl, fun dk l H1 hs hdk hll hne hI => ?_⟩
  have a1 : At (Bd K dk l 64 (tupsOf H1) H1) [none, some (.raw (.ref dk)), none, none, none, none, none, none, none, none, none, none] [] [] ((start n_law [.ref a]).set 1 (some (.ref dk))) H1 := At.deck rfl (fun i d e => by
    match i, e with
    | 0, e => cases e
    | 1, e => exact ⟨.ref dk, rfl, (Option.some.inj (Option.some.inj e)).symm⟩
    | i + 2, e =>
      have : ([none, none, none, none, none, none, none, none, none, none] : Ro)[i]? = some (some d) := by simpa using e
      have := List.mem_of_getElem? this
      simp at this) hI
  refine y_forN a1 (ei_rng1 (ead_cons ed_int ea_nil) ⟨by decide, by decide⟩) (fun i ρ μ => ∃ x2 x3 x4 x5 x6 x7 x8 x9 x10 x11 : Option D, ρ = [none, some (.raw (.ref dk)), x2, x3, x4, x5, x6, x7, x8, x9, x10, x11] ∧ μ = []) ⟨_, _, _, _, _, _, _, _, _, _, rfl, rfl⟩ (fun i ρ' μ' τ1 σ2 H2 Dn hi hI a2 hnx hct hbk hrt => ?_) fun ρ' μ' σ2 H2 hI a2 => ?_
  · obtain ⟨x2, x3, x4, x5, x6, x7, x8, x9, x10, x11, rfl, rfl⟩ := hI
    -- many
    refine y_setV (P := fun d => ∃ m : Int, d = .int m ∧ 1 ≤ m ∧ m ≤ 7) a2 (ed_d rfl (ead_cons (ed_lst (ead_cons ed_int (ead_cons ed_int (ead_cons ed_int (ead_cons ed_int (ead_cons ed_int (ead_cons ed_int ea_nil)))))) (by decide)) ea_nil) ⟨_, rfl, by simp, by show 6 ≤ _; decide⟩ (by
      rintro e ⟨ds, e1, hm⟩
      cases e1
      simp only [List.mem_cons, List.mem_nil_iff, or_false] at hm
      rcases hm with rfl | rfl | rfl | rfl | rfl | rfl <;> exact ⟨_, rfl, by decide, by decide⟩)) fun d σ3 H3 hd a3 => ?_
    obtain ⟨m, rfl, hm1, hm2⟩ := hd
    -- placement
    refine y_setV (P := fun e => ∃ s c r : Int, PlD s c r e ∧ (1 ≤ s ∧ s ≤ 7) ∧ (0 ≤ c ∧ c ≤ 3) ∧ r ≤ 13) a3 (ev_d (Ps := fun es => ∃ c r : Int, es = [.int m, .int c, .int r] ∧ (0 ≤ c ∧ c ≤ 3) ∧ 0 ≤ r ∧ r ≤ 13) (ea_deck rfl (ea_cons (P := fun d => d = .int m) (ed_var rfl) fun d1 e1 => (ea_cons (P := fun d => ∃ c : Int, d = .int c ∧ 0 ≤ c ∧ c ≤ 3) (Ps := fun es => ∃ c r : Int, es = [.int c, .int r] ∧ (0 ≤ c ∧ c ≤ 3) ∧ 0 ≤ r ∧ r ≤ 13)
        (ev_if (Pb := fun _ => True) (et_test (P := fun d => ∃ b, d = .bl b) (Ed.ev (ed_op (ed_var rfl) ed_int rd_gt) ⟨_, rfl⟩) fun d ⟨b, e⟩ => ⟨b, e, True.intro⟩) (fun _ => ed_d rfl (ead_cons ed_int ea_nil) ⟨_, rfl, by decide, by decide⟩ (by rintro e ⟨n, r, e1, rfl, g1, g2⟩; cases e1; exact ⟨r, rfl, g1, by omega⟩)) fun _ => Ed.ev ed_int ⟨0, rfl, by decide, by decide⟩)
        fun d2 ⟨c, e2, c1, c2⟩ => (ea1P (P := fun d => ∃ r : Int, d = .int r ∧ 0 ≤ r ∧ r ≤ 13) (ed_d rfl (ead_cons (ed_lst (ead_cons ed_int (ead_cons ed_int (ead_cons ed_int (ead_cons ed_int (ead_cons ed_int ea_nil))))) (by decide)) ea_nil) ⟨_, rfl, by simp, by show 5 ≤ _; decide⟩ (by
          rintro e ⟨ds, e1, hm⟩
          cases e1
          simp only [List.mem_cons, List.mem_nil_iff, or_false] at hm
          rcases hm with rfl | rfl | rfl | rfl | rfl <;> exact ⟨_, rfl, by decide, by decide⟩))).imp fun ds ⟨d3, e3, r, e4, r1, r2⟩ => ⟨c, r, by rw [e3, e2, e4], ⟨c1, c2⟩, r1, r2⟩).imp fun ds ⟨c, r, e2, hc, hr⟩ => ⟨c, r, by rw [e2, e1], hc, hr⟩))
      (fun es ⟨c, r, e1, hc, hr1, hr2⟩ => ⟨m, c, r, e1, ⟨by omega, by omega⟩, ⟨hc.1, by omega⟩, hr1, by omega⟩) fun es e ⟨c, r, e1, hc, hr1, hr2⟩ ⟨s', c', r', e2, hp⟩ => by
        rw [e1] at e2
        cases e2
        exact ⟨_, _, _, hp, ⟨hm1, hm2⟩, hc, hr2⟩) fun d σ4 H4 hd a4 => ?_
    obtain ⟨s, c, r, hp, hs1, hc1, hr1⟩ := hd
    obtain ⟨ss, cs, rfl, ps, pc, tt, l1, l2, w1, w2, d1, d2⟩ := pl_facts hp hs1 hc1 hr1
    have hpt : ptD (.tup [.tup ss, .tup cs]) = true := by simp [ptD, ptA, ps, pc]
    have hpw : wd (.tup [.tup ss, .tup cs]) ≤ 15000 := by show wdA ss + 3 + 2 + (wdA cs + 3 + 2 + 0) + 3 ≤ 15000; omega
    have hpd : dep (.tup [.tup ss, .tup cs]) ≤ 3 := by show max (depA ss + 1) (max (depA cs + 1) 0) + 1 ≤ 3; omega
    have hpT : Th 400000 10 (.tup [.tup ss, .tup cs]) := .clean (pt_cl hpt) (by omega) (by omega)
    -- things
    refine y_setV (P := fun d => ∃ ts, d = .lst ts ∧ Ths ts 2) a4 (ev_lst (Ps := fun ds => Ths ds 2) (ea_cons (P := fun d => d = .tup [.tup ss, .tup cs]) (ed_var rfl) fun d1 e1 => (ea1P (P := Th 400000 10) (ed_d rfl (ead_cons few_ed ea_nil) ⟨_, rfl, by unfold few; simp, by show 4 ≤ _; decide⟩ (by rintro e ⟨ds, e1, hm⟩; cases e1; exact few_th.mem e hm))).imp fun ds ⟨d2, e2, h2⟩ => ⟨by rw [e2]; rfl, fun t ht => by
        rw [e2] at ht
        rcases List.mem_cons.mp ht with z | z
        · rw [z, e1]; exact hpT
        · rw [List.mem_singleton.mp z]; exact h2⟩) fun ds hds => ⟨by rw [hds.1]; decide, ds, rfl, hds⟩) fun d σ5 H5 hd a5 => ?_
    obtain ⟨ts, rfl, hts⟩ := hd
    refine y_setV (P := fun d => ∃ ts, d = .lst ts ∧ Ths ts 10) a5 (ev_op (P1 := fun d => ∃ ts, d = .lst ts ∧ Ths ts 6) (P2 := fun d => ∃ ts, d = .lst ts ∧ Ths ts 4) (ev_op (P1 := fun d => d = .lst ts) (P2 := fun d => ∃ ts, d = .lst ts ∧ Ths ts 4) (ed_var rfl)
        (ev_lc0 (ei_rng1 (ead_cons ed_int ea_nil) ⟨by decide, by decide⟩) (by decide) (by decide) (fun _ e => Th 400000 10 e) (fun i hi cl => ed_d rfl (ead_cons (ed_var rfl) ea_nil) ⟨ss, cs, rfl, ps, pc, tt, l1, l2, by omega, by omega, by omega⟩ fun e he => he) fun ds h1 h2 => ⟨ds, rfl, h1, fun t ht => by
          obtain ⟨i, hi⟩ := List.mem_iff_getElem?.mp ht
          exact h2 i t hi⟩) fun e1 e2 h1 ⟨ts2, h2, h3⟩ => ?_)
        (ev_lc0 (ei_rng1 (ead_cons ed_int ea_nil) ⟨by decide, by decide⟩) (by decide) (by decide) (fun _ e => Th 400000 10 e) (fun i hi cl => ev_d (Ps := fun es => ∃ k : Int, es = [.tup [.tup ss, .tup cs], .int k]) (ea_deck rfl (ea_cons (P := fun d => d = .tup [.tup ss, .tup cs]) (ed_var rfl) fun d1 e1 => (ea1P (P := isIntD) (ed_d rfl (ead_cons ed_int ea_nil) ⟨_, rfl, by decide, by decide⟩ (by rintro e ⟨n, r, e1, rfl, _⟩; exact ⟨_, rfl⟩))).imp fun ds ⟨d2, e2, k, e3⟩ => ⟨k, by rw [e2, e1, e3]⟩)) (fun es ⟨k, e1⟩ => ⟨_, k, e1, hpt, by omega, by omega, by omega⟩) fun es e ⟨k, e1⟩ ⟨d', k', e2, h⟩ => by
            rw [e1] at e2
            cases e2
            exact h.mono (by omega) (by omega)) fun ds h1 h2 => ⟨ds, rfl, h1, fun t ht => by
          obtain ⟨i, hi⟩ := List.mem_iff_getElem?.mp ht
          exact h2 i t hi⟩) fun e1 e2 ⟨ts1, h1, h1'⟩ ⟨ts2, h2, h2'⟩ => ?_) fun d σ6 H6 hd a6 => ?_
    · subst h1; subst h2
      exact (rd_addL (szL (by rw [hts.1, h3.1]; decide))).imp fun e he => ⟨_, he, hts.app h3⟩
    · subst h1; subst h2
      exact (rd_addL (szL (by rw [h1'.1, h2'.1]; decide))).imp fun e he => ⟨_, he, h1'.app h2'⟩
    · obtain ⟨us, rfl, hus⟩ := hd
      -- for at, thing in enumerate(things)
      refine x_for (js := [7, 8]) a6 (ei_enumL (ead_cons (ed_var rfl) ea_nil)) (fun _ ρ μ => ∃ x7 x8 x9 x10 x11 : Option D, ρ = [none, some (.raw (.ref dk)), some (.int i), some (.int m), some (.tup [.tup ss, .tup cs]), some (.lst us), x6, x7, x8, x9, x10, x11] ∧ μ = []) ⟨_, _, _, _, _, rfl, rfl⟩ (fun j ρ' μ' τ2 σ7 H7 v Dn2 hj hI hsub a7 hnx2 hct2 hbk2 hrt2 => ?_) fun ρ' μ' σ7 H7 hI a7 => ?_
      · obtain ⟨x7, x8, x9, x10, x11, rfl, rfl⟩ := hI
        refine gd_tup2 (k := 7) (l := 8) τ2 σ7 H7 v a7 _ fun σ8 a8 _ _ => ?_
        have ht : Th 400000 10 (us.getD j .non) := hus.2 _ (List.mem_of_getElem? (getD_of hj))
        have hsm : Sm (us.getD j .non) := sm_of ht.ok (Nat.le_trans ht.w (by decide))
        have rp : ∀ {B : Bs} {ρ : Ro} {μ : Mu} {te : TE}, Ed B te ρ μ (us.getD j .non) → Ed B (tCB (rRp B.K) (tCons te tNil)) ρ μ (.str (py (us.getD j .non)).shown) := fun h => ed_cb (ead_cons h ea_nil) (rc_rp ht.ok ht.nn (Nat.le_trans ht.w (by decide)) (Nat.le_trans ht.dp (by decide)))
        have rb : ∀ {B : Bs} {ρ : Ro} {μ : Mu} {te : TE} {b : Bool}, Ed B te ρ μ (.bl b) → Ed B (tCB (rRp B.K) (tCons te tNil)) ρ μ (.str (py (.bl b)).shown) := fun h => ed_cb (ead_cons h ea_nil) (rc_rp rfl (.inl rfl) (by show 5 ≤ _; decide) (by show 0 ≤ _; decide))
        refine y_par (Ps := fun d1 d2 => d1 = .bl (isPl (us.getD j .non)) ∧ d2 = .str (py (us.getD j .non)).shown) a8 (ea_cons (P := fun d => d = .bl (isPl (us.getD j .non))) (ed_p (ead_cons (ed_var rfl) ea_nil) ⟨_, rfl, hsm⟩ (by rintro e ⟨d', e1, rfl⟩; cases e1; rfl)) fun d1 e1 => (ea1P (rp (ed_var rfl))).imp fun ds ⟨d2, e2, e3⟩ => ⟨d1, d2, by rw [e2], e1, e3⟩) fun d1 d2 σ9 H9 ⟨e1, e2⟩ a9 => ?_
        subst e1; subst e2
        refine y_set (d := .bl (isPl (us.getD j .non))) a9 (ed_if (eb_test (ed_op (ed_op (ed_cb (ead_cons (ed_var rfl) ea_nil) rc_intI) ed_int (rd_mod (by decide))) ed_int rd_gt)) (fun _ => ed_p (ead_cons (ed_var rfl) ea_nil) ⟨_, rfl, hsm⟩ (by rintro e ⟨d', e1, rfl⟩; cases e1; rfl)) fun _ => ed_pw (fun _ => rfl) (ead_cons (ed_var rfl) ea_nil) ⟨_, rfl, hsm⟩ (by rintro e ⟨d', e1, rfl⟩; cases e1; rfl)) fun σ10 H10 a10 => ?_
        refine x_ifb a10 (eb_or (eb_test (ed_op (rb (ed_var rfl)) (rb (ed_var rfl)) rd_neS)) fun _ => eb_test (ed_op (rp (ed_var rfl)) (ed_var rfl) rd_neS)) (fun hb H11 a11 => ?_) fun hb H11 a11 => x_next ?_
        · rw [beq_self_eq_true, beq_self_eq_true] at hb
          cases hb
        · exact hnx2 _ _ _ _ ⟨_, _, _, _, _, rfl, rfl⟩ a11
      · obtain ⟨x7, x8, x9, x10, x11, rfl, rfl⟩ := hI
        exact hnx _ _ _ _ ⟨_, _, _, _, _, _, _, _, _, _, rfl, rfl⟩ a7
  · obtain ⟨x2, x3, x4, x5, x6, x7, x8, x9, x10, x11, rfl, rfl⟩ := hI
    exact x_ret a2 ed_bl fun v H3 d hd a3 => by
      subst hd
      obtain ⟨G, g, hv⟩ := a3.top
      exact hv
end
end Cal


namespace Cal
open PySem PySem.Spec PyProof.Rows L2
/-! ### keywords in the order that turns the parameters round -/
theorem KB2 {K : PySem.W.Frag} {fd : FuncData} {p q : Str}
    (h0 : ∀ (s : Shared) a b, BindsTo s fd ⟨[a, b], []⟩ [(p, a), (q, b)]) (h1 : ∀ (s : Shared) a b, BindsTo s fd ⟨[a], [(q, b)]⟩ [(p, a), (q, b)]) (h2 : ∀ (s : Shared) a b, BindsTo s fd ⟨[], [(q, b), (p, a)]⟩ [(p, a), (q, b)]) :
    KBinds K fd [p, q] [q, p] (fun us ws => us ++ ws.reverse) (fun vs zs => vs ++ zs.reverse) :=
  ⟨fun s us ws _ hl => match us, ws, hl with
    | [a, b], [], _ => h0 s a b
    | [a], [b], _ => h1 s a b
    | [], [b, a], _ => h2 s a b
    | [], [], hl => by simp at hl
    | [], [_], hl => by simp at hl
    | [], _ :: _ :: _ :: _, hl => by simp at hl
    | [_], [], hl => by simp at hl
    | [_], _ :: _ :: _, hl => by simp at hl
    | [_, _], _ :: _, hl => by simp at hl
    | _ :: _ :: _ :: _, _, hl => by simp at hl, fun r z => Vals.append r (Vals.reverse z)⟩
theorem KB3 {K : PySem.W.Frag} {fd : FuncData} {p q r : Str}
    (h0 : ∀ (s : Shared) a b c, BindsTo s fd ⟨[a, b, c], []⟩ [(p, a), (q, b), (r, c)]) (h1 : ∀ (s : Shared) a b c, BindsTo s fd ⟨[a, b], [(r, c)]⟩ [(p, a), (q, b), (r, c)])
    (h2 : ∀ (s : Shared) a b c, BindsTo s fd ⟨[a], [(r, c), (q, b)]⟩ [(p, a), (q, b), (r, c)]) (h3 : ∀ (s : Shared) a b c, BindsTo s fd ⟨[], [(r, c), (q, b), (p, a)]⟩ [(p, a), (q, b), (r, c)]) :
    KBinds K fd [p, q, r] [r, q, p] (fun us ws => us ++ ws.reverse) (fun vs zs => vs ++ zs.reverse) :=
  ⟨fun s us ws _ hl => match us, ws, hl with
    | [a, b, c], [], _ => h0 s a b c
    | [a, b], [c], _ => h1 s a b c
    | [a], [c, b], _ => h2 s a b c
    | [], [c, b, a], _ => h3 s a b c
    | [], [], hl => by simp at hl
    | [], [_], hl => by simp at hl
    | [], [_, _], hl => by simp at hl
    | [], _ :: _ :: _ :: _ :: _, hl => by simp at hl
    | [_], [], hl => by simp at hl
    | [_], [_], hl => by simp at hl
    | [_], _ :: _ :: _ :: _, hl => by simp at hl
    | [_, _], [], hl => by simp at hl
    | [_, _], _ :: _ :: _, hl => by simp at hl
    | [_, _, _], _ :: _, hl => by simp at hl
    | _ :: _ :: _ :: _ :: _, _, hl => by simp at hl, fun r z => Vals.append r (Vals.reverse z)⟩
end Cal


namespace Cal
open PySem PySem.Spec PyProof.Rows L2
section
abbrev BA : List Str := ["all", "bool", "enumerate", "int", "isinstance", "len", "list", "max", "min", "range", "repr", "sorted", "str", "tuple", "zip"]
theorem all_mk {P : Program} {w : World} {K : PySem.W.Frag} {h : Heap} {mg : Str → Option Value} {fa : Addr} (X : K.In h) (G : h.Ns mainGlobals mg) (hfa : mg "law" = some (.ref fa))
    {f0 : Addr} {od0 an0 : Option Addr} {sl0 : Array (Option Value)} {oc0 kV0 dc0 pm0 cd0 ct0 : Value}
    (a0 : PySem.W.nsIn K mainGlobals "is_integer" = some (some (.ref f0))) (l0 : K.lookup f0 = some ⟨oc0, od0, .func (PySem.W.fnOf "is_integer" "is_integer" (defArgs s_is_integer) (defBody s_is_integer) (defScope s_is_integer) .none kV0 dc0 pm0 an0 cd0 ct0), sl0⟩) (c0 : PySem.W.codeIn K cd0 "is_integer" = true) (k0 : PySem.W.keepIn K (.ref f0) = true)
    {f1 : Addr} {od1 an1 : Option Addr} {sl1 : Array (Option Value)} {oc1 kV1 dc1 pm1 cd1 ct1 : Value}
    (a1 : PySem.W.nsIn K mainGlobals "is_below" = some (some (.ref f1))) (l1 : K.lookup f1 = some ⟨oc1, od1, .func (PySem.W.fnOf "is_below" "is_below" (defArgs s_is_below) (defBody s_is_below) (defScope s_is_below) .none kV1 dc1 pm1 an1 cd1 ct1), sl1⟩) (c1 : PySem.W.codeIn K cd1 "is_below" = true) (k1 : PySem.W.keepIn K (.ref f1) = true)
    {f2 : Addr} {od2 an2 : Option Addr} {sl2 : Array (Option Value)} {oc2 kV2 dc2 pm2 cd2 ct2 : Value}
    (a2 : PySem.W.nsIn K mainGlobals "is_name" = some (some (.ref f2))) (l2 : K.lookup f2 = some ⟨oc2, od2, .func (PySem.W.fnOf "is_name" "is_name" (defArgs s_is_name) (defBody s_is_name) (defScope s_is_name) .none kV2 dc2 pm2 an2 cd2 ct2), sl2⟩) (c2 : PySem.W.codeIn K cd2 "is_name" = true) (k2 : PySem.W.keepIn K (.ref f2) = true)
    {f3 : Addr} {od3 an3 : Option Addr} {sl3 : Array (Option Value)} {oc3 kV3 dc3 pm3 cd3 ct3 : Value}
    (a3 : PySem.W.nsIn K mainGlobals "is_tuple_of" = some (some (.ref f3))) (l3 : K.lookup f3 = some ⟨oc3, od3, .func (PySem.W.fnOf "is_tuple_of" "is_tuple_of" (defArgs s_is_tuple_of) (defBody s_is_tuple_of) (defScope s_is_tuple_of) .none kV3 dc3 pm3 an3 cd3 ct3), sl3⟩) (c3 : PySem.W.codeIn K cd3 "is_tuple_of" = true) (k3 : PySem.W.keepIn K (.ref f3) = true)
    {f4 : Addr} {od4 an4 : Option Addr} {sl4 : Array (Option Value)} {oc4 kV4 dc4 pm4 cd4 ct4 : Value}
    (a4 : PySem.W.nsIn K mainGlobals "is_ascending" = some (some (.ref f4))) (l4 : K.lookup f4 = some ⟨oc4, od4, .func (PySem.W.fnOf "is_ascending" "is_ascending" (defArgs s_is_ascending) (defBody s_is_ascending) (defScope s_is_ascending) .none kV4 dc4 pm4 an4 cd4 ct4), sl4⟩) (c4 : PySem.W.codeIn K cd4 "is_ascending" = true) (k4 : PySem.W.keepIn K (.ref f4) = true)
    {f5 : Addr} {od5 an5 : Option Addr} {sl5 : Array (Option Value)} {oc5 kV5 dc5 pm5 cd5 ct5 : Value}
    (a5 : PySem.W.nsIn K mainGlobals "are_names_ascending" = some (some (.ref f5))) (l5 : K.lookup f5 = some ⟨oc5, od5, .func (PySem.W.fnOf "are_names_ascending" "are_names_ascending" (defArgs s_are_names_ascending) (defBody s_are_names_ascending) (defScope s_are_names_ascending) .none kV5 dc5 pm5 an5 cd5 ct5), sl5⟩) (c5 : PySem.W.codeIn K cd5 "are_names_ascending" = true) (k5 : PySem.W.keepIn K (.ref f5) = true)
    {f6 : Addr} {od6 an6 : Option Addr} {sl6 : Array (Option Value)} {oc6 kV6 dc6 pm6 cd6 ct6 : Value}
    (a6 : PySem.W.nsIn K mainGlobals "are_below" = some (some (.ref f6))) (l6 : K.lookup f6 = some ⟨oc6, od6, .func (PySem.W.fnOf "are_below" "are_below" (defArgs s_are_below) (defBody s_are_below) (defScope s_are_below) .none kV6 dc6 pm6 an6 cd6 ct6), sl6⟩) (c6 : PySem.W.codeIn K cd6 "are_below" = true) (k6 : PySem.W.keepIn K (.ref f6) = true)
    {f7 : Addr} {od7 an7 : Option Addr} {sl7 : Array (Option Value)} {oc7 kV7 dc7 pm7 cd7 ct7 : Value}
    (a7 : PySem.W.nsIn K mainGlobals "are_below_ascending" = some (some (.ref f7))) (l7 : K.lookup f7 = some ⟨oc7, od7, .func (PySem.W.fnOf "are_below_ascending" "are_below_ascending" (defArgs s_are_below_ascending) (defBody s_are_below_ascending) (defScope s_are_below_ascending) .none kV7 dc7 pm7 an7 cd7 ct7), sl7⟩) (c7 : PySem.W.codeIn K cd7 "are_below_ascending" = true) (k7 : PySem.W.keepIn K (.ref f7) = true)
    {f8 : Addr} {od8 an8 : Option Addr} {sl8 : Array (Option Value)} {oc8 kV8 dc8 pm8 cd8 ct8 : Value}
    (a8 : PySem.W.nsIn K mainGlobals "are_clients" = some (some (.ref f8))) (l8 : K.lookup f8 = some ⟨oc8, od8, .func (PySem.W.fnOf "are_clients" "are_clients" (defArgs s_are_clients) (defBody s_are_clients) (defScope s_are_clients) .none kV8 dc8 pm8 an8 cd8 ct8), sl8⟩) (c8 : PySem.W.codeIn K cd8 "are_clients" = true) (k8 : PySem.W.keepIn K (.ref f8) = true)
    {f9 : Addr} {od9 an9 : Option Addr} {sl9 : Array (Option Value)} {oc9 kV9 dc9 pm9 cd9 ct9 : Value}
    (a9 : PySem.W.nsIn K mainGlobals "is_placement" = some (some (.ref f9))) (l9 : K.lookup f9 = some ⟨oc9, od9, .func (PySem.W.fnOf "is_placement" "is_placement" (defArgs s_is_placement) (defBody s_is_placement) (defScope s_is_placement) .none kV9 dc9 pm9 an9 cd9 ct9), sl9⟩) (c9 : PySem.W.codeIn K cd9 "is_placement" = true) (k9 : PySem.W.keepIn K (.ref f9) = true)
    {f10 : Addr} {od10 an10 : Option Addr} {sl10 : Array (Option Value)} {oc10 kV10 dc10 pm10 cd10 ct10 : Value}
    (a10 : PySem.W.nsIn K mainGlobals "_law_deck" = some (some (.ref f10))) (l10 : K.lookup f10 = some ⟨oc10, od10, .func (PySem.W.fnOf "_law_deck" "_law_deck" (defArgs s__law_deck) (defBody s__law_deck) (defScope s__law_deck) .none kV10 dc10 pm10 an10 cd10 ct10), sl10⟩) (c10 : PySem.W.codeIn K cd10 "_law_deck" = true) (k10 : PySem.W.keepIn K (.ref f10) = true)
    {f11 : Addr} {od11 an11 : Option Addr} {sl11 : Array (Option Value)} {oc11 kV11 dc11 pm11 cd11 ct11 : Value}
    (a11 : PySem.W.nsIn K mainGlobals "_law_draw" = some (some (.ref f11))) (l11 : K.lookup f11 = some ⟨oc11, od11, .func (PySem.W.fnOf "_law_draw" "_law_draw" (defArgs s__law_draw) (defBody s__law_draw) (defScope s__law_draw) .none kV11 dc11 pm11 an11 cd11 ct11), sl11⟩) (c11 : PySem.W.codeIn K cd11 "_law_draw" = true) (k11 : PySem.W.keepIn K (.ref f11) = true)
    {f12 : Addr} {od12 an12 : Option Addr} {sl12 : Array (Option Value)} {oc12 kV12 dc12 pm12 cd12 ct12 : Value}
    (a12 : PySem.W.nsIn K mainGlobals "_law_pick" = some (some (.ref f12))) (l12 : K.lookup f12 = some ⟨oc12, od12, .func (PySem.W.fnOf "_law_pick" "_law_pick" (defArgs s__law_pick) (defBody s__law_pick) (defScope s__law_pick) .none kV12 dc12 pm12 an12 cd12 ct12), sl12⟩) (c12 : PySem.W.codeIn K cd12 "_law_pick" = true) (k12 : PySem.W.keepIn K (.ref f12) = true)
    {f13 : Addr} {od13 an13 : Option Addr} {sl13 : Array (Option Value)} {oc13 kV13 dc13 pm13 cd13 ct13 : Value}
    (a13 : PySem.W.nsIn K mainGlobals "_law_is_int" = some (some (.ref f13))) (l13 : K.lookup f13 = some ⟨oc13, od13, .func (PySem.W.fnOf "_law_is_int" "_law_is_int" (defArgs s__law_is_int) (defBody s__law_is_int) (defScope s__law_is_int) .none kV13 dc13 pm13 an13 cd13 ct13), sl13⟩) (c13 : PySem.W.codeIn K cd13 "_law_is_int" = true) (k13 : PySem.W.keepIn K (.ref f13) = true)
    {f14 : Addr} {od14 an14 : Option Addr} {sl14 : Array (Option Value)} {oc14 kV14 dc14 pm14 cd14 ct14 : Value}
    (a14 : PySem.W.nsIn K mainGlobals "_law_is_tuple" = some (some (.ref f14))) (l14 : K.lookup f14 = some ⟨oc14, od14, .func (PySem.W.fnOf "_law_is_tuple" "_law_is_tuple" (defArgs s__law_is_tuple) (defBody s__law_is_tuple) (defScope s__law_is_tuple) .none kV14 dc14 pm14 an14 cd14 ct14), sl14⟩) (c14 : PySem.W.codeIn K cd14 "_law_is_tuple" = true) (k14 : PySem.W.keepIn K (.ref f14) = true)
    {f15 : Addr} {od15 an15 : Option Addr} {sl15 : Array (Option Value)} {oc15 kV15 dc15 pm15 cd15 ct15 : Value}
    (a15 : PySem.W.nsIn K mainGlobals "_law_is_name" = some (some (.ref f15))) (l15 : K.lookup f15 = some ⟨oc15, od15, .func (PySem.W.fnOf "_law_is_name" "_law_is_name" (defArgs s__law_is_name) (defBody s__law_is_name) (defScope s__law_is_name) .none kV15 dc15 pm15 an15 cd15 ct15), sl15⟩) (c15 : PySem.W.codeIn K cd15 "_law_is_name" = true) (k15 : PySem.W.keepIn K (.ref f15) = true)
    {f16 : Addr} {od16 an16 : Option Addr} {sl16 : Array (Option Value)} {oc16 kV16 dc16 pm16 cd16 ct16 : Value}
    (a16 : PySem.W.nsIn K mainGlobals "_law_are_ascending" = some (some (.ref f16))) (l16 : K.lookup f16 = some ⟨oc16, od16, .func (PySem.W.fnOf "_law_are_ascending" "_law_are_ascending" (defArgs s__law_are_ascending) (defBody s__law_are_ascending) (defScope s__law_are_ascending) .none kV16 dc16 pm16 an16 cd16 ct16), sl16⟩) (c16 : PySem.W.codeIn K cd16 "_law_are_ascending" = true) (k16 : PySem.W.keepIn K (.ref f16) = true)
    {f17 : Addr} {od17 an17 : Option Addr} {sl17 : Array (Option Value)} {oc17 kV17 dc17 pm17 cd17 ct17 : Value}
    (a17 : PySem.W.nsIn K mainGlobals "_law_is_placement" = some (some (.ref f17))) (l17 : K.lookup f17 = some ⟨oc17, od17, .func (PySem.W.fnOf "_law_is_placement" "_law_is_placement" (defArgs s__law_is_placement) (defBody s__law_is_placement) (defScope s__law_is_placement) .none kV17 dc17 pm17 an17 cd17 ct17), sl17⟩) (c17 : PySem.W.codeIn K cd17 "_law_is_placement" = true) (k17 : PySem.W.keepIn K (.ref f17) = true)
    {f18 : Addr} {od18 an18 : Option Addr} {sl18 : Array (Option Value)} {oc18 kV18 dc18 pm18 cd18 ct18 : Value}
    (a18 : PySem.W.nsIn K mainGlobals "_law_names" = some (some (.ref f18))) (l18 : K.lookup f18 = some ⟨oc18, od18, .func (PySem.W.fnOf "_law_names" "_law_names" (defArgs s__law_names) (defBody s__law_names) (defScope s__law_names) .none kV18 dc18 pm18 an18 cd18 ct18), sl18⟩) (c18 : PySem.W.codeIn K cd18 "_law_names" = true) (k18 : PySem.W.keepIn K (.ref f18) = true)
    {f19 : Addr} {od19 an19 : Option Addr} {sl19 : Array (Option Value)} {oc19 kV19 dc19 pm19 cd19 ct19 : Value}
    (a19 : PySem.W.nsIn K mainGlobals "_law_some" = some (some (.ref f19))) (l19 : K.lookup f19 = some ⟨oc19, od19, .func (PySem.W.fnOf "_law_some" "_law_some" (defArgs s__law_some) (defBody s__law_some) (defScope s__law_some) .none kV19 dc19 pm19 an19 cd19 ct19), sl19⟩) (c19 : PySem.W.codeIn K cd19 "_law_some" = true) (k19 : PySem.W.keepIn K (.ref f19) = true)
    {f20 : Addr} {od20 an20 : Option Addr} {sl20 : Array (Option Value)} {oc20 kV20 dc20 pm20 cd20 ct20 : Value}
    (a20 : PySem.W.nsIn K mainGlobals "_law_placement" = some (some (.ref f20))) (l20 : K.lookup f20 = some ⟨oc20, od20, .func (PySem.W.fnOf "_law_placement" "_law_placement" (defArgs s__law_placement) (defBody s__law_placement) (defScope s__law_placement) .none kV20 dc20 pm20 an20 cd20 ct20), sl20⟩) (c20 : PySem.W.codeIn K cd20 "_law_placement" = true) (k20 : PySem.W.keepIn K (.ref f20) = true)
    {f21 : Addr} {od21 an21 : Option Addr} {sl21 : Array (Option Value)} {oc21 kV21 dc21 pm21 cd21 ct21 : Value}
    (a21 : PySem.W.nsIn K mainGlobals "_law_leaf" = some (some (.ref f21))) (l21 : K.lookup f21 = some ⟨oc21, od21, .func (PySem.W.fnOf "_law_leaf" "_law_leaf" (defArgs s__law_leaf) (defBody s__law_leaf) (defScope s__law_leaf) .none kV21 dc21 pm21 an21 cd21 ct21), sl21⟩) (c21 : PySem.W.codeIn K cd21 "_law_leaf" = true) (k21 : PySem.W.keepIn K (.ref f21) = true)
    {f22 : Addr} {od22 an22 : Option Addr} {sl22 : Array (Option Value)} {oc22 kV22 dc22 pm22 cd22 ct22 : Value}
    (a22 : PySem.W.nsIn K mainGlobals "_law_bent" = some (some (.ref f22))) (l22 : K.lookup f22 = some ⟨oc22, od22, .func (PySem.W.fnOf "_law_bent" "_law_bent" (defArgs s__law_bent) (defBody s__law_bent) (defScope s__law_bent) .none kV22 dc22 pm22 an22 cd22 ct22), sl22⟩) (c22 : PySem.W.codeIn K cd22 "_law_bent" = true) (k22 : PySem.W.keepIn K (.ref f22) = true)
    {f23 : Addr} {od23 an23 : Option Addr} {sl23 : Array (Option Value)} {oc23 kV23 dc23 pm23 cd23 ct23 : Value}
    (a23 : PySem.W.nsIn K mainGlobals "_law_otherwise" = some (some (.ref f23))) (l23 : K.lookup f23 = some ⟨oc23, od23, .func (PySem.W.fnOf "_law_otherwise" "_law_otherwise" (defArgs s__law_otherwise) (defBody s__law_otherwise) (defScope s__law_otherwise) .none kV23 dc23 pm23 an23 cd23 ct23), sl23⟩) (c23 : PySem.W.codeIn K cd23 "_law_otherwise" = true) (k23 : PySem.W.keepIn K (.ref f23) = true)
    {f24 : Addr} {od24 an24 : Option Addr} {sl24 : Array (Option Value)} {oc24 kV24 dc24 pm24 cd24 ct24 : Value}
    (a24 : PySem.W.nsIn K mainGlobals "law" = some (some (.ref f24))) (l24 : K.lookup f24 = some ⟨oc24, od24, .func (PySem.W.fnOf "law" "law" (defArgs s_law) (defBody s_law) (defScope s_law) .none kV24 dc24 pm24 an24 cd24 ct24), sl24⟩) (c24 : PySem.W.codeIn K cd24 "law" = true) (k24 : PySem.W.keepIn K (.ref f24) = true)
    (z0 : PySem.W.nsIn K mainGlobals "all" = some none)
    (z1 : PySem.W.nsIn K mainGlobals "bool" = some none)
    (z2 : PySem.W.nsIn K mainGlobals "enumerate" = some none)
    (z3 : PySem.W.nsIn K mainGlobals "int" = some none)
    (z4 : PySem.W.nsIn K mainGlobals "isinstance" = some none)
    (z5 : PySem.W.nsIn K mainGlobals "len" = some none)
    (z6 : PySem.W.nsIn K mainGlobals "list" = some none)
    (z7 : PySem.W.nsIn K mainGlobals "max" = some none)
    (z8 : PySem.W.nsIn K mainGlobals "min" = some none)
    (z9 : PySem.W.nsIn K mainGlobals "range" = some none)
    (z10 : PySem.W.nsIn K mainGlobals "repr" = some none)
    (z11 : PySem.W.nsIn K mainGlobals "sorted" = some none)
    (z12 : PySem.W.nsIn K mainGlobals "str" = some none)
    (z13 : PySem.W.nsIn K mainGlobals "tuple" = some none)
    (z14 : PySem.W.nsIn K mainGlobals "zip" = some none)
    {t_FEWEST_VISITED : Tok} (gFEWEST_VISITED : PySem.W.nsIn K mainGlobals "FEWEST_VISITED" = some (some (.int 2 t_FEWEST_VISITED)))
    {t_LONGEST_NAME : Tok} (gLONGEST_NAME : PySem.W.nsIn K mainGlobals "LONGEST_NAME" = some (some (.int 10 t_LONGEST_NAME)))
    {base : Heap} {s₁ : Shared} {H : Hp} {a : Addr} {ns : List Int} (hl : ns.length ≤ 63) (e0 : Env0 P w K mg base callerA [] s₁ H) (hS : SqL K H a (ns.map V.int)) :
    codeAny (model P w) callerA (.call (.ref fa) ⟨[.ref a], []⟩) (CR CX0 [] P w H s₁ (fun v _ => v = .bl true) fun _ _ _ => False) s₁ := by
  have e := hfa.symm.trans (PySem.W.mg_of X G a24)
  cases e
  have bA : ∀ x, x ∈ BA → mg x = none := fun x hx => by
    simp only [BA, List.mem_cons, List.mem_nil_iff, or_false] at hx
    rcases hx with rfl | rfl | rfl | rfl | rfl | rfl | rfl | rfl | rfl | rfl | rfl | rfl | rfl | rfl | rfl
    · exact PySem.W.mg_none_of X G z0
    · exact PySem.W.mg_none_of X G z1
    · exact PySem.W.mg_none_of X G z2
    · exact PySem.W.mg_none_of X G z3
    · exact PySem.W.mg_none_of X G z4
    · exact PySem.W.mg_none_of X G z5
    · exact PySem.W.mg_none_of X G z6
    · exact PySem.W.mg_none_of X G z7
    · exact PySem.W.mg_none_of X G z8
    · exact PySem.W.mg_none_of X G z9
    · exact PySem.W.mg_none_of X G z10
    · exact PySem.W.mg_none_of X G z11
    · exact PySem.W.mg_none_of X G z12
    · exact PySem.W.mg_none_of X G z13
    · exact PySem.W.mg_none_of X G z14
  have bBN1 : ∀ x, x ∈ BN1 → mg x = none := fun x hx => bA x ((by decide +kernel : ∀ y ∈ BN1, y ∈ BA) x hx)
  have bBN : ∀ x, x ∈ BN → mg x = none := fun x hx => bA x ((by decide +kernel : ∀ y ∈ BN, y ∈ BA) x hx)
  have bBN2 : ∀ x, x ∈ BN2 → mg x = none := fun x hx => bA x ((by decide +kernel : ∀ y ∈ BN2, y ∈ BA) x hx)
  have bBN3 : ∀ x, x ∈ BN3 → mg x = none := fun x hx => bA x ((by decide +kernel : ∀ y ∈ BN3, y ∈ BA) x hx)
  have bBN4 : ∀ x, x ∈ BN4 → mg x = none := fun x hx => bA x ((by decide +kernel : ∀ y ∈ BN4, y ∈ BA) x hx)
  have bBN5 : ∀ x, x ∈ BN5 → mg x = none := fun x hx => bA x ((by decide +kernel : ∀ y ∈ BN5, y ∈ BA) x hx)
  have bBN6 : ∀ x, x ∈ BN6 → mg x = none := fun x hx => bA x ((by decide +kernel : ∀ y ∈ BN6, y ∈ BA) x hx)
  have bBN7 : ∀ x, x ∈ BN7 → mg x = none := fun x hx => bA x ((by decide +kernel : ∀ y ∈ BN7, y ∈ BA) x hx)
  have bBN8 : ∀ x, x ∈ BN8 → mg x = none := fun x hx => bA x ((by decide +kernel : ∀ y ∈ BN8, y ∈ BA) x hx)
  have F0 := fun_mk (st := s_is_integer) l0 c0 k0
  have m0 := PySem.W.mg_of X G a0
  have B0 := F0.binds (ps := ["thing"]) fun _ _ _ _ _ _ us hl => match us, hl with | [_], _ => rfl
  have F1 := fun_mk (st := s_is_below) l1 c1 k1
  have m1 := PySem.W.mg_of X G a1
  have B1 := F1.binds (ps := ["thing", "limit"]) fun _ _ _ _ _ _ us hl => match us, hl with | [_, _], _ => rfl
  have F2 := fun_mk (st := s_is_name) l2 c2 k2
  have m2 := PySem.W.mg_of X G a2
  have B2 := F2.binds (ps := ["thing"]) fun _ _ _ _ _ _ us hl => match us, hl with | [_], _ => rfl
  have F3 := fun_mk (st := s_is_tuple_of) l3 c3 k3
  have m3 := PySem.W.mg_of X G a3
  have B3 := F3.binds (ps := ["thing", "length"]) fun _ _ _ _ _ _ us hl => match us, hl with | [_, _], _ => rfl
  have F4 := fun_mk (st := s_is_ascending) l4 c4 k4
  have m4 := PySem.W.mg_of X G a4
  have B4 := F4.binds (ps := ["items"]) fun _ _ _ _ _ _ us hl => match us, hl with | [_], _ => rfl
  have F5 := fun_mk (st := s_are_names_ascending) l5 c5 k5
  have m5 := PySem.W.mg_of X G a5
  have B5 := F5.binds (ps := ["thing"]) fun _ _ _ _ _ _ us hl => match us, hl with | [_], _ => rfl
  have F6 := fun_mk (st := s_are_below) l6 c6 k6
  have m6 := PySem.W.mg_of X G a6
  have B6 := F6.binds (ps := ["thing", "limit"]) fun _ _ _ _ _ _ us hl => match us, hl with | [_, _], _ => rfl
  have F7 := fun_mk (st := s_are_below_ascending) l7 c7 k7
  have m7 := PySem.W.mg_of X G a7
  have B7 := F7.binds (ps := ["thing", "limit"]) fun _ _ _ _ _ _ us hl => match us, hl with | [_, _], _ => rfl
  have F8 := fun_mk (st := s_are_clients) l8 c8 k8
  have m8 := PySem.W.mg_of X G a8
  have B8 := F8.binds (ps := ["clients", "count"]) fun _ _ _ _ _ _ us hl => match us, hl with | [_, _], _ => rfl
  have F9 := fun_mk (st := s_is_placement) l9 c9 k9
  have m9 := PySem.W.mg_of X G a9
  have B9 := F9.binds (ps := ["thing"]) fun _ _ _ _ _ _ us hl => match us, hl with | [_], _ => rfl
  have F10 := fun_mk (st := s__law_deck) l10 c10 k10
  have m10 := PySem.W.mg_of X G a10
  have B10 := F10.binds (ps := ["script"]) fun _ _ _ _ _ _ us hl => match us, hl with | [_], _ => rfl
  have F11 := fun_mk (st := s__law_draw) l11 c11 k11
  have m11 := PySem.W.mg_of X G a11
  have B11 := F11.binds (ps := ["deck", "many"]) fun _ _ _ _ _ _ us hl => match us, hl with | [_, _], _ => rfl
  have F12 := fun_mk (st := s__law_pick) l12 c12 k12
  have m12 := PySem.W.mg_of X G a12
  have B12 := F12.binds (ps := ["deck", "some"]) fun _ _ _ _ _ _ us hl => match us, hl with | [_, _], _ => rfl
  have F13 := fun_mk (st := s__law_is_int) l13 c13 k13
  have m13 := PySem.W.mg_of X G a13
  have B13 := F13.binds (ps := ["thing", "low", "high"]) fun _ _ _ _ _ _ us hl => match us, hl with | [_, _, _], _ => rfl
  have F14 := fun_mk (st := s__law_is_tuple) l14 c14 k14
  have m14 := PySem.W.mg_of X G a14
  have B14 := F14.binds (ps := ["thing", "many"]) fun _ _ _ _ _ _ us hl => match us, hl with | [_, _], _ => rfl
  have F15 := fun_mk (st := s__law_is_name) l15 c15 k15
  have m15 := PySem.W.mg_of X G a15
  have B15 := F15.binds (ps := ["thing"]) fun _ _ _ _ _ _ us hl => match us, hl with | [_], _ => rfl
  have F16 := fun_mk (st := s__law_are_ascending) l16 c16 k16
  have m16 := PySem.W.mg_of X G a16
  have B16 := F16.binds (ps := ["thing"]) fun _ _ _ _ _ _ us hl => match us, hl with | [_], _ => rfl
  have F17 := fun_mk (st := s__law_is_placement) l17 c17 k17
  have m17 := PySem.W.mg_of X G a17
  have B17 := F17.binds (ps := ["thing"]) fun _ _ _ _ _ _ us hl => match us, hl with | [_], _ => rfl
  have F18 := fun_mk (st := s__law_names) l18 c18 k18
  have m18 := PySem.W.mg_of X G a18
  have B18 := F18.binds (ps := ["deck", "many"]) fun _ _ _ _ _ _ us hl => match us, hl with | [_, _], _ => rfl
  have F19 := fun_mk (st := s__law_some) l19 c19 k19
  have m19 := PySem.W.mg_of X G a19
  have B19 := F19.binds (ps := ["deck", "many", "least"]) fun _ _ _ _ _ _ us hl => match us, hl with | [_, _, _], _ => rfl
  have F20 := fun_mk (st := s__law_placement) l20 c20 k20
  have m20 := PySem.W.mg_of X G a20
  have B20 := F20.binds (ps := ["deck", "sites", "clients", "registers"]) fun _ _ _ _ _ _ us hl => match us, hl with | [_, _, _, _], _ => rfl
  have F21 := fun_mk (st := s__law_leaf) l21 c21 k21
  have m21 := PySem.W.mg_of X G a21
  have B21 := F21.binds (ps := ["deck", "thing"]) fun _ _ _ _ _ _ us hl => match us, hl with | [_, _], _ => rfl
  have F22 := fun_mk (st := s__law_bent) l22 c22 k22
  have m22 := PySem.W.mg_of X G a22
  have B22 := F22.binds (ps := ["deck", "thing", "deep"]) fun _ _ _ _ _ _ us hl => match us, hl with | [_, _, _], _ => rfl
  have F23 := fun_mk (st := s__law_otherwise) l23 c23 k23
  have m23 := PySem.W.mg_of X G a23
  have B23 := F23.binds (ps := ["deck", "placement"]) fun _ _ _ _ _ _ us hl => match us, hl with | [_, _], _ => rfl
  have F24 := fun_mk (st := s_law) l24 c24 k24
  have m24 := PySem.W.mg_of X G a24
  have g_FEWEST_VISITED : ∃ u, mg "FEWEST_VISITED" = some u ∧ L2.RelV (V.int 2) u := ⟨_, PySem.W.mg_of X G gFEWEST_VISITED, t_FEWEST_VISITED, rfl⟩
  have g_LONGEST_NAME : ∃ u, mg "LONGEST_NAME" = some u ∧ L2.RelV (V.int 10) u := ⟨_, PySem.W.mg_of X G gLONGEST_NAME, t_LONGEST_NAME, rfl⟩
  have o_is_integer := ok_is_integer (P := P) (w := w) (base := base) bBN1 F0 
  have c_is_integer : C8.Cal P w K mg base _ "is_integer" _ [] := ⟨f0, _, _, [], o_is_integer, m0, F0.kp, B0, .nil⟩
  have o_is_below := ok_is_below (P := P) (w := w) (base := base) bBN1 F1 c_is_integer
  have c_is_below : C8.Cal P w K mg base _ "is_below" _ [] := ⟨f1, _, _, [], o_is_below, m1, F1.kp, B1, .nil⟩
  have o_is_name := ok_is_name (P := P) (w := w) (base := base) bBN1 g_LONGEST_NAME F2 
  have c_is_name : C8.Cal P w K mg base _ "is_name" _ [] := ⟨f2, _, _, [], o_is_name, m2, F2.kp, B2, .nil⟩
  have o_is_tuple_of := ok_is_tuple_of (P := P) (w := w) (base := base) bBN1 F3 
  have c_is_tuple_of : C8.Cal P w K mg base _ "is_tuple_of" _ [] := ⟨f3, _, _, [], o_is_tuple_of, m3, F3.kp, B3, .nil⟩
  have o_is_ascending := ok_is_ascending (P := P) (w := w) (base := base) bBN1 F4 
  have c_is_ascending : C8.Cal P w K mg base _ "is_ascending" _ [] := ⟨f4, _, _, [], o_is_ascending, m4, F4.kp, B4, .nil⟩
  have o_are_names_ascending := ok_are_names_ascending (P := P) (w := w) (base := base) bBN1 F5 c_is_name c_is_ascending
  have c_are_names_ascending : C8.Cal P w K mg base _ "are_names_ascending" _ [] := ⟨f5, _, _, [], o_are_names_ascending, m5, F5.kp, B5, .nil⟩
  have o_are_below := ok_are_below (P := P) (w := w) (base := base) bBN1 F6 c_is_below
  have c_are_below : C8.Cal P w K mg base _ "are_below" _ [] := ⟨f6, _, _, [], o_are_below, m6, F6.kp, B6, .nil⟩
  have o_are_below_ascending := ok_are_below_ascending (P := P) (w := w) (base := base)  F7 c_are_below c_is_ascending
  have c_are_below_ascending : C8.Cal P w K mg base _ "are_below_ascending" _ [] := ⟨f7, _, _, [], o_are_below_ascending, m7, F7.kp, B7, .nil⟩
  have o_are_clients := ok_are_clients (P := P) (w := w) (base := base) bBN1 g_FEWEST_VISITED F8 c_are_below_ascending
  have c_are_clients : C8.Cal P w K mg base _ "are_clients" _ [] := ⟨f8, _, _, [], o_are_clients, m8, F8.kp, B8, .nil⟩
  have o_is_placement := ok_is_placement (P := P) (w := w) (base := base) bBN1 F9 c_is_tuple_of c_are_names_ascending c_are_clients
  have c_is_placement : C8.Cal P w K mg base _ "is_placement" _ [] := ⟨f9, _, _, [], o_is_placement, m9, F9.kp, B9, .nil⟩
  have o__law_deck := ok__law_deck (P := P) (w := w) (base := base) bBN7 F10 
  have c__law_deck : C8.Cal P w K mg base _ "_law_deck" _ [] := ⟨f10, _, _, [], o__law_deck, m10, F10.kp, B10, .nil⟩
  have o__law_draw := ok__law_draw (P := P) (w := w) (base := base) bBN F11 
  have c__law_draw : C8.Cal P w K mg base _ "_law_draw" _ [] := ⟨f11, _, _, [], o__law_draw, m11, F11.kp, B11, .nil⟩
  have o__law_pick := ok__law_pick (P := P) (w := w) (base := base) bBN F12 c__law_draw
  have c__law_pick : C8.Cal P w K mg base _ "_law_pick" _ [] := ⟨f12, _, _, [], o__law_pick, m12, F12.kp, B12, .nil⟩
  have o__law_is_int := ok__law_is_int (P := P) (w := w) (base := base) bBN6 F13 
  have c__law_is_int : C8.Cal P w K mg base _ "_law_is_int" _ [] := ⟨f13, _, _, [], o__law_is_int, m13, F13.kp, B13, .nil⟩
  have o__law_is_tuple := ok__law_is_tuple (P := P) (w := w) (base := base) bBN6 F14 
  have c__law_is_tuple : C8.Cal P w K mg base _ "_law_is_tuple" _ [] := ⟨f14, _, _, [], o__law_is_tuple, m14, F14.kp, B14, .nil⟩
  have o__law_is_name := ok__law_is_name (P := P) (w := w) (base := base) bBN6 F15 
  have c__law_is_name : C8.Cal P w K mg base _ "_law_is_name" _ [] := ⟨f15, _, _, [], o__law_is_name, m15, F15.kp, B15, .nil⟩
  have o__law_are_ascending := ok__law_are_ascending (P := P) (w := w) (base := base) bBN6 F16 
  have c__law_are_ascending : C8.Cal P w K mg base _ "_law_are_ascending" _ [] := ⟨f16, _, _, [], o__law_are_ascending, m16, F16.kp, B16, .nil⟩
  have o__law_is_placement := ok__law_is_placement (P := P) (w := w) (base := base) bBN6 F17 c__law_is_tuple c__law_is_name c__law_is_int c__law_are_ascending
  have c__law_is_placement : C8.Cal P w K mg base _ "_law_is_placement" _ [] := ⟨f17, _, _, [], o__law_is_placement, m17, F17.kp, B17, .nil⟩
  have o__law_names := ok__law_names (P := P) (w := w) (base := base) bBN2 F18 c__law_draw c__law_pick
  have c__law_names : C8.Cal P w K mg base _ "_law_names" _ [] := ⟨f18, _, _, [], o__law_names, m18, F18.kp, B18, .nil⟩
  have o__law_some := ok__law_some (P := P) (w := w) (base := base) bBN2 F19 c__law_draw c__law_pick
  have c__law_some : C8.Cal P w K mg base _ "_law_some" _ [] := ⟨f19, _, _, [], o__law_some, m19, F19.kp, B19, .nil⟩
  have o__law_placement := ok__law_placement (P := P) (w := w) (base := base) bBN3 F20 c__law_names c__law_some
  have c__law_placement : C8.Cal P w K mg base _ "_law_placement" _ [] := ⟨f20, _, _, [], o__law_placement, m20, F20.kp, B20, .nil⟩
  have o__law_leaf := ok__law_leaf (P := P) (w := w) (base := base) bBN4 F21 c__law_draw c__law_pick
  have c__law_leaf : C8.Cal P w K mg base _ "_law_leaf" _ [] := ⟨f21, _, _, [], o__law_leaf, m21, F21.kp, B21, .nil⟩
  have c__law_bent : C8.Cal P w K mg base 15 "_law_bent" (sp__law_bent 11 K) [] := ⟨f22, _, _, [], ok__law_bent bBN5 F22 m22 B22 c__law_draw c__law_leaf 11, m22, F22.kp, B22, .nil⟩
  have o__law_otherwise := ok__law_otherwise (P := P) (w := w) (base := base) bBN5 F23 c__law_draw c__law_pick
  have c__law_otherwise : C8.Cal P w K mg base _ "_law_otherwise" _ [] := ⟨f23, _, _, [], o__law_otherwise, m23, F23.kp, B23, .nil⟩
  have k_is_placement : CalW P w K mg base 6 "is_placement" ["thing"] (fun vs zs => vs ++ zs) (sp_is_placement K) := ⟨f9, _, ["thing"], fun us ws => us ++ ws, o_is_placement, m9, F9.kp, ⟨fun s us ws _ hl => match us, ws, hl with | [_], [], _ => .of_eq rfl | [], [_], _ => .of_eq rfl | _ :: _ :: _, _, hl => (by simp at hl) | [_], _ :: _, hl => (by simp at hl) | [], [], hl => (by simp at hl) | [], _ :: _ :: _, hl => (by simp at hl), fun r z => Vals.append r z⟩⟩
  exact run_law bBN8 F24 (.of_eq rfl) hl e0 hS c__law_deck c__law_draw c__law_pick c__law_placement c__law_otherwise c__law_bent c__law_is_placement c_is_placement k_is_placement
end
end Cal
open PySem PySem.W PyProof.Rows
set_option maxHeartbeats 0 in
theorem PySem.Challenge.cw_causeloops_k01_any_values_as_placements_holds : PySem.Challenge.rw_causeloops_k01_any_values_as_placements.Holds := by
  w_on; o_law; k_head; (case hw => w_witness2)
  k_fill
  refine Cal.walk_at (l := PySem.Challenge.rw_causeloops_k01_any_values_as_placements) (n := 63) rfl (by decide) rfl (fun w h Y => PySem.W.kIn_of Y) ?F
  case F =>
    intro w mg fa s₁ KX G hmg base H a ns hl e0 hS
    refine' Cal.all_mk KX G hmg ?a0 ?l0 ?c0 ?k0 ?a1 ?l1 ?c1 ?k1 ?a2 ?l2 ?c2 ?k2 ?a3 ?l3 ?c3 ?k3 ?a4 ?l4 ?c4 ?k4 ?a5 ?l5 ?c5 ?k5 ?a6 ?l6 ?c6 ?k6 ?a7 ?l7 ?c7 ?k7 ?a8 ?l8 ?c8 ?k8 ?a9 ?l9 ?c9 ?k9 ?a10 ?l10 ?c10 ?k10 ?a11 ?l11 ?c11 ?k11 ?a12 ?l12 ?c12 ?k12 ?a13 ?l13 ?c13 ?k13 ?a14 ?l14 ?c14 ?k14 ?a15 ?l15 ?c15 ?k15 ?a16 ?l16 ?c16 ?k16 ?a17 ?l17 ?c17 ?k17 ?a18 ?l18 ?c18 ?k18 ?a19 ?l19 ?c19 ?k19 ?a20 ?l20 ?c20 ?k20 ?a21 ?l21 ?c21 ?k21 ?a22 ?l22 ?c22 ?k22 ?a23 ?l23 ?c23 ?k23 ?a24 ?l24 ?c24 ?k24 ?z0 ?z1 ?z2 ?z3 ?z4 ?z5 ?z6 ?z7 ?z8 ?z9 ?z10 ?z11 ?z12 ?z13 ?z14 ?gFEWEST_VISITED ?gLONGEST_NAME hl e0 hS
    (case a0 => k_is); (case l0 => k_is); (case c0 => k_is); (case k0 => k_is); (case a1 => k_is); (case l1 => k_is); (case c1 => k_is); (case k1 => k_is)
    (case a2 => k_is); (case l2 => k_is); (case c2 => k_is); (case k2 => k_is); (case a3 => k_is); (case l3 => k_is); (case c3 => k_is); (case k3 => k_is)
    (case a4 => k_is); (case l4 => k_is); (case c4 => k_is); (case k4 => k_is); (case a5 => k_is); (case l5 => k_is); (case c5 => k_is); (case k5 => k_is)
    (case a6 => k_is); (case l6 => k_is); (case c6 => k_is); (case k6 => k_is); (case a7 => k_is); (case l7 => k_is); (case c7 => k_is); (case k7 => k_is)
    (case a8 => k_is); (case l8 => k_is); (case c8 => k_is); (case k8 => k_is); (case a9 => k_is); (case l9 => k_is); (case c9 => k_is); (case k9 => k_is)
    (case a10 => k_is); (case l10 => k_is); (case c10 => k_is); (case k10 => k_is); (case a11 => k_is); (case l11 => k_is); (case c11 => k_is); (case k11 => k_is)
    (case a12 => k_is); (case l12 => k_is); (case c12 => k_is); (case k12 => k_is); (case a13 => k_is); (case l13 => k_is); (case c13 => k_is); (case k13 => k_is)
    (case a14 => k_is); (case l14 => k_is); (case c14 => k_is); (case k14 => k_is); (case a15 => k_is); (case l15 => k_is); (case c15 => k_is); (case k15 => k_is)
    (case a16 => k_is); (case l16 => k_is); (case c16 => k_is); (case k16 => k_is); (case a17 => k_is); (case l17 => k_is); (case c17 => k_is); (case k17 => k_is)
    (case a18 => k_is); (case l18 => k_is); (case c18 => k_is); (case k18 => k_is); (case a19 => k_is); (case l19 => k_is); (case c19 => k_is); (case k19 => k_is)
    (case a20 => k_is); (case l20 => k_is); (case c20 => k_is); (case k20 => k_is); (case a21 => k_is); (case l21 => k_is); (case c21 => k_is); (case k21 => k_is)
    (case a22 => k_is); (case l22 => k_is); (case c22 => k_is); (case k22 => k_is); (case a23 => k_is); (case l23 => k_is); (case c23 => k_is); (case k23 => k_is)
    (case a24 => k_is); (case l24 => k_is); (case c24 => k_is); (case k24 => k_is); (case z0 => k_is); (case z1 => k_is); (case z2 => k_is); (case z3 => k_is)
    (case z4 => k_is); (case z5 => k_is); (case z6 => k_is); (case z7 => k_is); (case z8 => k_is); (case z9 => k_is); (case z10 => k_is); (case z11 => k_is)
    (case z12 => k_is); (case z13 => k_is); (case z14 => k_is); (case gFEWEST_VISITED => k_is); (case gLONGEST_NAME => k_is)


