import PyProof.Rows.All
import Wide.All
import OpenK.AllK
import Wide.FinOn
import PySem.Challenge.RW_causeloops_k21_any_values_as_counts_and
import HandS.ForMost
import HandS.ForExc
import HandS.Conv
import HandS.IsInst
import HandS.Wide
import HandS.Style
import HandS.TupAny
import HandS.Zip
import HandS.Codes
import HandS.Defaults
import PyProof.ListStr
import KE.KRevSl
import PyProof.ReprRoads
import PyProof.StrLawsRepr
import PyProof.FitsInt
import PyProof.CallFns
import HandS.Text
import PyProof.NeKinds
import OpenK.KMore
import KE.KSortTupG
import HandS.SortRule
import HandS.SetKeys
import HandS.WordsDict
import HandS.WideBits
import KE.DataCmp
import PyProof.P3In
import HandS.TupMul
import HandS.Deep
import HandS.SetFor
import HandS.SetTxt0
import HandS.Strs
import PyProof.Rows.SortStr
import HandS.TupSets
import PyProof.WalksMore
import KE.GoesMore
import PyProof.Draws
import PyProof.EnumMake
import PyProof.TupleIter
import PyProof.EqKinds
import PyProof.FactsAll.dict
import KE.KDictZip
import PyProof.ListNew
set_option Elab.async false
set_option linter.all false
set_option maxRecDepth 100000
set_option maxHeartbeats 4000000
namespace Cal
open PySem PySem.Spec PyProof.Rows L2
/-! ### data -/
inductive D where
  | non | bl (b : Bool) | int (i : Int) | str (s : Str) | raw (v : V)
  | lst (xs : List D) | tup (xs : List D) | dk (kvs : List (Key × D)) | dt (kvs : List (List Key × D)) | obj (C : Addr) (fs : List (Str × D))
instance : Inhabited D := ⟨.non⟩
mutual
def Dt (K : PySem.W.Frag) (G : Hp) : D → V → Prop
  | .non, v => v = .non
  | .bl b, v => v = .bl b
  | .int i, v => v = .int i
  | .str s, v => v = .str s
  | .raw u, v => v = u
  | .lst ds, v => ∃ a vs, v = .ref a ∧ G a = some (.lst vs) ∧ DtA K G ds vs
  | .tup ds, v => ∃ a vs, v = .ref a ∧ G a = some (.tup vs) ∧ DtA K G ds vs
  | .dk ds, v => ∃ a kvs, v = .ref a ∧ G a = some (.dK kvs) ∧ DtK K G ds kvs
  | .dt ds, v => ∃ a kvs, v = .ref a ∧ G a = some (.dT kvs) ∧ DtT K G ds kvs
  | .obj C ds, v => ∃ a dx kvs, v = .ref a ∧ G a = some (.ins C dx kvs) ∧ DtF K G ds kvs
def DtA (K : PySem.W.Frag) (G : Hp) : List D → List V → Prop
  | [], vs => vs = []
  | d :: ds, vs => ∃ v r, vs = v :: r ∧ Dt K G d v ∧ DtA K G ds r
def DtK (K : PySem.W.Frag) (G : Hp) : List (Key × D) → List (Key × V) → Prop
  | [], vs => vs = []
  | (k, d) :: ds, vs => ∃ v r, vs = (k, v) :: r ∧ Dt K G d v ∧ DtK K G ds r
def DtT (K : PySem.W.Frag) (G : Hp) : List (List Key × D) → List (List Key × V) → Prop
  | [], vs => vs = []
  | (k, d) :: ds, vs => ∃ v r, vs = (k, v) :: r ∧ Dt K G d v ∧ DtT K G ds r
def DtF (K : PySem.W.Frag) (G : Hp) : List (Str × D) → List (Str × V) → Prop
  | [], vs => vs = []
  | (k, d) :: ds, vs => ∃ v r, vs = (k, v) :: r ∧ Dt K G d v ∧ DtF K G ds r
end
theorem rd_mono {G G' : Hp} {a u} (e : Same G G') (h : Rd G a u) : Rd G' a u := by
  rcases h with h | ⟨o, h⟩
  · exact .inl (e _ _ h)
  · exact .inr ⟨o, e _ _ h⟩
theorem seqT_mono {K : PySem.W.Frag} {G G' : Hp} (e : Same G G') {a xs} (h : SqT K G a xs) : SqT K G' a xs := by
  rcases h with h | h
  · exact .inl (rd_mono e h)
  · exact .inr h
mutual
theorem Dt.mono {K : PySem.W.Frag} {G G' : Hp} (e : Same G G') : ∀ (d : D) {v : V}, Dt K G d v → Dt K G' d v
  | .non, _, h => h
  | .bl b, _, h => h
  | .int i, _, h => h
  | .str s, _, h => h
  | .raw u, _, h => h
  | .lst ds, _, ⟨a, vs, r, s, t⟩ => ⟨a, vs, r, e _ _ s, DtA.mono e ds t⟩
  | .tup ds, _, ⟨a, vs, r, s, t⟩ => ⟨a, vs, r, e _ _ s, DtA.mono e ds t⟩
  | .dk ds, _, ⟨a, vs, r, s, t⟩ => ⟨a, vs, r, e _ _ s, DtK.mono e ds t⟩
  | .dt ds, _, ⟨a, vs, r, s, t⟩ => ⟨a, vs, r, e _ _ s, DtT.mono e ds t⟩
  | .obj C ds, _, ⟨a, dx, vs, r, s, t⟩ => ⟨a, dx, vs, r, e _ _ s, DtF.mono e ds t⟩
theorem DtA.mono {K : PySem.W.Frag} {G G' : Hp} (e : Same G G') : ∀ (ds : List D) {vs : List V}, DtA K G ds vs → DtA K G' ds vs
  | [], _, h => h
  | d :: ds, _, ⟨v, r, q, s, t⟩ => ⟨v, r, q, Dt.mono e d s, DtA.mono e ds t⟩
theorem DtK.mono {K : PySem.W.Frag} {G G' : Hp} (e : Same G G') : ∀ (ds : List (Key × D)) {vs : List (Key × V)}, DtK K G ds vs → DtK K G' ds vs
  | [], _, h => h
  | (k, d) :: ds, _, ⟨v, r, q, s, t⟩ => ⟨v, r, q, Dt.mono e d s, DtK.mono e ds t⟩
theorem DtT.mono {K : PySem.W.Frag} {G G' : Hp} (e : Same G G') : ∀ (ds : List (List Key × D)) {vs : List (List Key × V)}, DtT K G ds vs → DtT K G' ds vs
  | [], _, h => h
  | (k, d) :: ds, _, ⟨v, r, q, s, t⟩ => ⟨v, r, q, Dt.mono e d s, DtT.mono e ds t⟩
theorem DtF.mono {K : PySem.W.Frag} {G G' : Hp} (e : Same G G') : ∀ (ds : List (Str × D)) {vs : List (Str × V)}, DtF K G ds vs → DtF K G' ds vs
  | [], _, h => h
  | (k, d) :: ds, _, ⟨v, r, q, s, t⟩ => ⟨v, r, q, Dt.mono e d s, DtF.mono e ds t⟩
end
theorem DtA.length {K : PySem.W.Frag} {G : Hp} : ∀ {ds : List D} {vs : List V}, DtA K G ds vs → vs.length = ds.length
  | [], _, h => by rw [show _ = [] from h]; rfl
  | d :: ds, _, ⟨v, r, q, s, t⟩ => by rw [q, List.length_cons, List.length_cons, DtA.length t]
theorem DtA.get {K : PySem.W.Frag} {G : Hp} : ∀ {ds : List D} {vs : List V} {i : Nat} {d : D}, DtA K G ds vs → ds[i]? = some d → ∃ v, vs[i]? = some v ∧ Dt K G d v
  | [], _, _, _, _, e => by simp at e
  | d :: ds, _, 0, _, ⟨v, r, q, s, t⟩, e => by
    simp at e; subst e; exact ⟨v, by rw [q]; rfl, s⟩
  | d :: ds, _, i + 1, _, ⟨v, r, q, s, t⟩, e => by
    obtain ⟨u, h1, h2⟩ := DtA.get (i := i) t (by simpa using e)
    exact ⟨u, by rw [q]; simpa using h1, h2⟩
theorem DtA.append {K : PySem.W.Frag} {G : Hp} : ∀ {ds es : List D} {vs us : List V}, DtA K G ds vs → DtA K G es us → DtA K G (ds ++ es) (vs ++ us)
  | [], _, _, _, h, k => by rw [show _ = [] from h]; exact k
  | d :: ds, _, _, _, ⟨v, r, q, s, t⟩, k => ⟨v, r ++ _, by rw [q]; rfl, s, DtA.append t k⟩
theorem DtA.take {K : PySem.W.Frag} {G : Hp} : ∀ (n : Nat) {ds : List D} {vs : List V}, DtA K G ds vs → DtA K G (ds.take n) (vs.take n)
  | 0, ds, vs, _ => by rw [List.take_zero, List.take_zero]; rfl
  | n + 1, [], _, h => by rw [show _ = [] from h]; rfl
  | n + 1, d :: ds, _, ⟨v, r, q, s, t⟩ => ⟨v, r.take n, by rw [q]; rfl, s, DtA.take n t⟩
theorem DtA.drop {K : PySem.W.Frag} {G : Hp} : ∀ (n : Nat) {ds : List D} {vs : List V}, DtA K G ds vs → DtA K G (ds.drop n) (vs.drop n)
  | 0, ds, vs, h => h
  | n + 1, [], _, h => by rw [show _ = [] from h]; rfl
  | n + 1, d :: ds, _, ⟨v, r, q, s, t⟩ => by rw [q]; exact DtA.drop n t
theorem DtA.ints {K : PySem.W.Frag} {G : Hp} : ∀ {is : List Int} {vs : List V}, DtA K G (is.map D.int) vs → vs = is.map V.int
  | [], _, h => h
  | i :: is, _, ⟨v, r, q, s, t⟩ => by rw [q, show v = V.int i from s, DtA.ints t]; rfl
theorem DtA.strs {K : PySem.W.Frag} {G : Hp} : ∀ {is : List Str} {vs : List V}, DtA K G (is.map D.str) vs → vs = is.map V.str
  | [], _, h => h
  | i :: is, _, ⟨v, r, q, s, t⟩ => by rw [q, show v = V.str i from s, DtA.strs t]; rfl
theorem DtA.bls {K : PySem.W.Frag} {G : Hp} : ∀ {is : List Bool} {vs : List V}, DtA K G (is.map D.bl) vs → vs = is.map V.bl
  | [], _, h => h
  | i :: is, _, ⟨v, r, q, s, t⟩ => by rw [q, show v = V.bl i from s, DtA.bls t]; rfl
theorem DtA.of_ints {K : PySem.W.Frag} {G : Hp} : ∀ (is : List Int), DtA K G (is.map D.int) (is.map V.int)
  | [] => rfl
  | i :: is => ⟨_, _, rfl, rfl, DtA.of_ints is⟩
theorem DtA.of_strs {K : PySem.W.Frag} {G : Hp} : ∀ (is : List Str), DtA K G (is.map D.str) (is.map V.str)
  | [] => rfl
  | i :: is => ⟨_, _, rfl, rfl, DtA.of_strs is⟩
theorem DtA.dropLast {K : PySem.W.Frag} {G : Hp} {ds : List D} {vs : List V} (h : DtA K G ds vs) : DtA K G ds.dropLast vs.dropLast := by
  rw [List.dropLast_eq_take, List.dropLast_eq_take, h.length]
  exact h.take _

/-! ### where one stands -/
inductive Cl where
  | lst (ds : List D) | dk (kvs : List (Key × D)) | dt (kvs : List (List Key × D)) | rg (lo hi : Int) | ob (C dx : Addr) (fs : List (Str × D))
def CellOk (K : PySem.W.Frag) (G H : Hp) (l : Addr) : Cl → Prop
  | .lst ds => ∃ vs, H l = some (.lst vs) ∧ DtA K G ds vs
  | .dk ds => ∃ kvs, H l = some (.dK kvs) ∧ DtK K G ds kvs
  | .dt ds => ∃ kvs, H l = some (.dT kvs) ∧ DtT K G ds kvs
  | .rg lo hi => H l = some (.rng lo hi)
  | .ob C dx ds => ∃ vs, H l = some (.ins C dx vs) ∧ DtF K G ds vs
theorem CellOk.mono {K : PySem.W.Frag} {G G' H H' : Hp} {l : Addr} (e : Same G G') (k : ∀ o, H l = some o → H' l = some o) : ∀ {c : Cl}, CellOk K G H l c → CellOk K G' H' l c
  | .lst ds, ⟨vs, a, b⟩ => ⟨vs, k _ a, DtA.mono e ds b⟩
  | .dk ds, ⟨vs, a, b⟩ => ⟨vs, k _ a, DtK.mono e ds b⟩
  | .dt ds, ⟨vs, a, b⟩ => ⟨vs, k _ a, DtT.mono e ds b⟩
  | .rg lo hi, a => k _ a
  | .ob C dx ds, ⟨vs, a, b⟩ => ⟨vs, k _ a, DtF.mono e ds b⟩
theorem CellOk.there {K : PySem.W.Frag} {G H : Hp} {l : Addr} : ∀ {c : Cl}, CellOk K G H l c → H l ≠ none
  | .lst ds, ⟨vs, a, b⟩ => by rw [a]; simp
  | .dk ds, ⟨vs, a, b⟩ => by rw [a]; simp
  | .dt ds, ⟨vs, a, b⟩ => by rw [a]; simp
  | .rg lo hi, a => by rw [show H l = some (.rng lo hi) from a]; simp
  | .ob C dx ds, ⟨vs, a, b⟩ => by rw [a]; simp
theorem ne_of_mem {M : List Addr} {p b : Addr} (n : p ∉ M) (h : b ∈ M) : b ≠ p := fun e => n (e ▸ h)
/-- there, and no tuple -/
def Ent (H : Hp) (b : Addr) : Prop := H b ≠ none ∧ ∀ vs, H b ≠ some (.tup vs)
theorem CellOk.noTup {K : PySem.W.Frag} {G H : Hp} {l : Addr} {vs : List V} : ∀ {c : Cl}, CellOk K G H l c → H l ≠ some (.tup vs)
  | .lst ds, ⟨vs, a, b⟩ => by rw [a]; simp
  | .dk ds, ⟨vs, a, b⟩ => by rw [a]; simp
  | .dt ds, ⟨vs, a, b⟩ => by rw [a]; simp
  | .rg lo hi, a => by rw [show H l = some (.rng lo hi) from a]; simp
  | .ob C dx ds, ⟨vs, a, b⟩ => by rw [a]; simp
structure Bs where
  K : PySem.W.Frag
  I : Hp → Prop
  M : List Addr
  loc : ∀ H H', I H → (∀ b ∈ M, H' b = H b) → I H'
  G0 : Hp
  H0 : Hp
structure AtG (B : Bs) (ρ : List (Option D)) (μ : List (Addr × Cl)) (τ : List (V × D)) (σ : L2.St) (H G : Hp) : Prop where
  sub : Same G H
  inv : B.I H
  out : ∀ b ∈ B.M, G b = none ∧ Ent H b
  tup : ∀ b vs, H b = some (.tup vs) → G b = some (.tup vs)
  base : ∀ b o, B.H0 b = some o → b ∉ B.M → H b = some o
  ext : ∀ b o, G b = some o → B.H0 b = none ∨ B.G0 b = some o
  len : ρ.length = σ.length
  slots : ∀ (i : Nat) (d : D), ρ[i]? = some (some d) → ∃ v, σ[i]? = some (some v) ∧ Dt B.K G d v
  cells : ∀ p ∈ μ, G p.1 = none ∧ B.H0 p.1 = none ∧ p.1 ∉ B.M ∧ CellOk B.K G H p.1 p.2
  nd : (μ.map (·.1)).Nodup
  temps : ∀ p ∈ τ, Dt B.K G p.2 p.1
def At (B : Bs) (ρ : List (Option D)) (μ : List (Addr × Cl)) (τ : List (V × D)) (σ : L2.St) (H : Hp) : Prop := ∃ G, AtG B ρ μ τ σ H G
section
variable {B : Bs} {ρ : List (Option D)} {μ : List (Addr × Cl)} {τ τ' : List (V × D)} {σ : L2.St} {H H' G G' : Hp} {v : V} {d : D} {p : Addr}
theorem At.sub (h : At B ρ μ τ σ H) (k : ∀ p ∈ τ', p ∈ τ) : At B ρ μ τ' σ H := by
  obtain ⟨G, h⟩ := h
  exact ⟨G, { h with temps := fun p hp => h.temps p (k p hp) }⟩
theorem At.pop (h : At B ρ μ ((v, d) :: τ) σ H) : At B ρ μ τ σ H := h.sub fun p hp => List.mem_cons_of_mem _ hp
theorem At.top (h : At B ρ μ ((v, d) :: τ) σ H) : ∃ G, AtG B ρ μ τ σ H G ∧ Dt B.K G d v := by
  obtain ⟨G, h⟩ := h
  exact ⟨G, { h with temps := fun p hp => h.temps p (List.mem_cons_of_mem _ hp) }, h.temps _ (List.mem_cons_self ..)⟩
theorem AtG.push (h : AtG B ρ μ τ σ H G) (k : Dt B.K G d v) : AtG B ρ μ ((v, d) :: τ) σ H G :=
  { h with temps := fun p hp => (List.mem_cons.mp hp).elim (fun e => by subst e; exact k) (h.temps p) }
theorem At.flat (h : At B ρ μ τ σ H) (k : ∀ G, Dt B.K G d v) : At B ρ μ ((v, d) :: τ) σ H := by
  obtain ⟨G, h⟩ := h
  exact ⟨G, h.push (k G)⟩
theorem At.var {i : Nat} (h : At B ρ μ τ σ H) (e : ρ[i]? = some (some d)) : ∃ v, σ[i]? = some (some v) ∧ At B ρ μ ((v, d) :: τ) σ H := by
  obtain ⟨G, h⟩ := h
  obtain ⟨v, h1, h2⟩ := h.slots i d e
  exact ⟨v, h1, G, h.push h2⟩
theorem At.set (i : Nat) (h : At B ρ μ ((v, d) :: τ) σ H) : At B (ρ.set i (some d)) μ τ (σ.set i (some v)) H := by
  obtain ⟨G, h, k⟩ := h.top
  refine ⟨G, { h with len := by rw [List.length_set, List.length_set, h.len], slots := fun j e q => ?_ }⟩
  by_cases hj : i = j
  · subst hj
    by_cases hl : i < ρ.length
    · rw [List.getElem?_set_self hl] at q
      have q1 : d = e := Option.some.inj (Option.some.inj q)
      subst q1
      exact ⟨v, by rw [List.getElem?_set_self (by rw [← h.len]; exact hl)], k⟩
    · rw [List.getElem?_eq_none (by rw [List.length_set]; omega)] at q
      cases q
  · rw [List.getElem?_set_ne hj] at q ⊢
    exact h.slots j e q
/-- a slot forgotten -/
theorem At.forget (h : At B ρ μ τ σ H) {ρ' : List (Option D)} (hl : ρ'.length = ρ.length) (k : ∀ (i : Nat) (d : D), ρ'[i]? = some (some d) → ρ[i]? = some (some d)) : At B ρ' μ τ σ H := by
  obtain ⟨G, h⟩ := h
  exact ⟨G, { h with len := by rw [hl, h.len], slots := fun i d e => h.slots i d (k i d e) }⟩
theorem AtG.laid (h : AtG B ρ μ τ σ H G) (hs : Same G G') (sub : Same G' H') (kp : ∀ b o, H b = some o → H' b = some o) (hext : ∀ b o, G' b = some o → B.H0 b = none ∨ B.G0 b = some o) (hcells : ∀ q ∈ μ, G' q.1 = none) (hM : ∀ b ∈ B.M, G' b = none) (hI : ∀ b ∈ B.M, H' b = H b) (ht : ∀ b vs, H' b = some (.tup vs) → G' b = some (.tup vs)) : AtG B ρ μ τ σ H' G' where
  sub := sub
  inv := B.loc H H' h.inv hI
  out := fun b hb => ⟨hM b hb, by unfold Ent; rw [hI b hb]; exact (h.out b hb).2⟩
  tup := ht
  base := fun b o e hb => kp b o (h.base b o e hb)
  ext := hext
  len := h.len
  slots := fun i d e => let ⟨v, a, b⟩ := h.slots i d e; ⟨v, a, Dt.mono hs d b⟩
  cells := fun q hq => let ⟨a, b, c, e⟩ := h.cells q hq; ⟨hcells q hq, b, c, e.mono hs (kp q.1)⟩
  nd := h.nd
  temps := fun q hq => Dt.mono hs q.2 (h.temps q hq)
theorem same_new {o : HO} (h : H p = none) : Same H (upd H p o) := fun b u e => by rw [upd_ne (ne_of_none e h)]; exact e
theorem AtG.notNew (h : AtG B ρ μ τ σ H G) (hp : H p = none) : G p = none ∧ B.H0 p = none ∧ p ∉ B.M ∧ ∀ q ∈ μ, q.1 ≠ p := by
  refine ⟨h.sub.free hp, ?_, fun m => (h.out p m).2.1 hp, fun q hq e => ?_⟩
  · cases e : B.H0 p with
    | none => rfl
    | some o =>
      by_cases m : p ∈ B.M
      · exact absurd hp (h.out p m).2.1
      · rw [h.base p o e m] at hp; cases hp
  · obtain ⟨_, _, _, c⟩ := h.cells q hq
    exact c.there (by rw [e]; exact hp)
/-- a new object that never changes -/
theorem AtG.new {o : HO} (h : AtG B ρ μ τ σ H G) (hp : H p = none) : AtG B ρ μ τ σ (upd H p o) (upd G p o) ∧ Same G (upd G p o) := by
  obtain ⟨n1, n2, n3, n4⟩ := h.notNew hp
  have hG : Same G (upd G p o) := same_new n1
  refine ⟨h.laid hG (fun b u e => ?_) (same_new hp) (fun b u e => ?_) (fun q hq => ?_) (fun b hb => ?_) (fun b hb => ?_) (fun b vs e => ?_), hG⟩
  · by_cases hb : b = p
    · subst hb; rw [upd_same] at e ⊢; exact e
    · rw [upd_ne hb] at e ⊢; exact h.sub b u e
  · by_cases hb : b = p
    · subst hb; exact .inl n2
    · rw [upd_ne hb] at e; exact h.ext b u e
  · rw [upd_ne (n4 q hq)]; exact (h.cells q hq).1
  · rw [upd_ne (ne_of_mem n3 hb)]; exact (h.out b hb).1
  · rw [upd_ne (ne_of_mem n3 hb)]
  · by_cases hb : b = p
    · subst hb; rw [upd_same] at e ⊢; exact e
    · rw [upd_ne hb] at e ⊢; exact h.tup b vs e
theorem At.new {o : HO} {dn : D} (h : At B ρ μ τ σ H) (hp : H p = none) (hd : ∀ G, (∀ q ∈ τ, Dt B.K G q.2 q.1) → G p = some o → Dt B.K G dn (.ref p)) : At B ρ μ ((.ref p, dn) :: τ) σ (upd H p o) := by
  obtain ⟨G, h⟩ := h
  obtain ⟨h', _⟩ := h.new (o := o) hp
  exact ⟨_, h'.push (hd _ h'.temps upd_same)⟩
/-- .. of known values -/
theorem AtG.newTup {vs : List V} {ds : List D} (h : AtG B ρ μ τ σ H G) (hp : H p = none) (k : DtA B.K G ds vs) : At B ρ μ ((.ref p, .tup ds) :: τ) σ (upd H p (.tup vs)) := by
  obtain ⟨h', s⟩ := h.new (o := .tup vs) hp
  exact ⟨_, h'.push ⟨p, vs, rfl, upd_same, DtA.mono s ds k⟩⟩
theorem AtG.newLst {vs : List V} {ds : List D} (h : AtG B ρ μ τ σ H G) (hp : H p = none) (k : DtA B.K G ds vs) : At B ρ μ ((.ref p, .lst ds) :: τ) σ (upd H p (.lst vs)) := by
  obtain ⟨h', s⟩ := h.new (o := .lst vs) hp
  exact ⟨_, h'.push ⟨p, vs, rfl, upd_same, DtA.mono s ds k⟩⟩
/-- a new object that will change -/
theorem At.newCell {c : Cl} {o : HO} (h : At B ρ μ τ σ H) (hp : H p = none) (hc : ∀ G, (∀ q ∈ τ, Dt B.K G q.2 q.1) → CellOk B.K G (upd H p o) p c) : At B ρ ((p, c) :: μ) τ σ (upd H p o) ∧ ∀ q ∈ μ, q.1 ≠ p := by
  obtain ⟨G, h⟩ := h
  obtain ⟨n1, n2, n3, n4⟩ := h.notNew hp
  have h' : AtG B ρ μ τ σ (upd H p o) G := by
    refine h.laid (Same.refl G) (fun b u e => ?_) (same_new hp) h.ext (fun q hq => (h.cells q hq).1) (fun b hb => (h.out b hb).1) (fun b hb => ?_) (fun b vs e => ?_)
    · rw [upd_ne (ne_of_none (h.sub b u e) hp)]; exact h.sub b u e
    · rw [upd_ne (ne_of_mem n3 hb)]
    · by_cases hb : b = p
      · subst hb; exact absurd e (hc G h.temps).noTup
      · rw [upd_ne hb] at e; exact h.tup b vs e
  refine ⟨⟨G, { h' with cells := fun q hq => ?_, nd := ?_ }⟩, n4⟩
  · rcases List.mem_cons.mp hq with e | hq
    · subst e; exact ⟨n1, n2, n3, hc G h.temps⟩
    · exact h'.cells q hq
  · rw [List.map_cons, List.nodup_cons]
    refine ⟨fun m => ?_, h.nd⟩
    obtain ⟨q, hq, e⟩ := List.mem_map.mp m
    exact n4 q hq e
theorem mem_set {α : Type} {l : List α} {j : Nat} {x y : α} (h : y ∈ l.set j x) : y = x ∨ ∃ i, i ≠ j ∧ l[i]? = some y := by
  obtain ⟨i, hi⟩ := List.mem_iff_getElem?.mp h
  by_cases e : j = i
  · subst e
    by_cases hl : j < l.length
    · rw [List.getElem?_set_self hl] at hi
      exact .inl (Option.some.inj hi).symm
    · rw [List.getElem?_eq_none (by rw [List.length_set]; omega)] at hi; cases hi
  · rw [List.getElem?_set_ne e] at hi
    exact .inr ⟨i, fun z => e z.symm, hi⟩
/-- a cell changes -/
theorem At.write {c c' : Cl} {o : HO} {j : Nat} (h : At B ρ μ τ σ H) (hj : μ[j]? = some (p, c)) (hc : ∀ G, (∀ q ∈ τ, Dt B.K G q.2 q.1) → CellOk B.K G H p c → CellOk B.K G (upd H p o) p c') : At B ρ (μ.set j (p, c')) τ σ (upd H p o) := by
  obtain ⟨G, h⟩ := h
  have hm : (p, c) ∈ μ := List.mem_of_getElem? hj
  obtain ⟨n1, n2, n3, n4⟩ := (h.cells _ hm : G p = none ∧ B.H0 p = none ∧ p ∉ B.M ∧ CellOk B.K G H p c)
  refine ⟨G, ⟨fun b u e => ?_, B.loc H _ h.inv fun b hb => upd_ne (ne_of_mem n3 hb), fun b hb => ⟨(h.out b hb).1, by unfold Ent; rw [upd_ne (ne_of_mem n3 hb)]; exact (h.out b hb).2⟩, fun b vs e => ?_, fun b u e hb => ?_, h.ext, h.len, h.slots, fun q hq => ?_, ?_, h.temps⟩⟩
  · rw [upd_ne (fun z => by subst z; rw [n1] at e; cases e)]; exact h.sub b u e
  · by_cases hb : b = p
    · subst hb; exact absurd e (hc G h.temps n4).noTup
    · rw [upd_ne hb] at e; exact h.tup b vs e
  · rw [upd_ne (fun z => by subst z; rw [n2] at e; cases e)]; exact h.base b u e hb
  · rcases mem_set hq with e | ⟨i, hi, e⟩
    · subst e; exact ⟨n1, n2, n3, hc G h.temps n4⟩
    · obtain ⟨a, b, cc, dd⟩ := h.cells q (List.mem_of_getElem? e)
      have hne : q.1 ≠ p := fun z => by
        have e1 : (μ.map (·.1))[i]? = some p := by rw [List.getElem?_map, e]; simpa using z
        have e2 : (μ.map (·.1))[j]? = some p := by rw [List.getElem?_map, hj]; rfl
        exact hi ((List.getElem?_inj (List.getElem?_eq_some_iff.mp e1).1 h.nd).mp (e1.trans e2.symm))
      exact ⟨a, b, cc, dd.mono (Same.refl G) fun o' z => by rw [upd_ne hne]; exact z⟩
  · have e : (μ.set j (p, c')).map (·.1) = μ.map (·.1) := by
      rw [List.map_set]
      refine List.ext_getElem? fun i => ?_
      by_cases hi : j = i
      · subst hi
        have hl : j < (μ.map (·.1)).length := by rw [List.length_map]; exact (List.getElem?_eq_some_iff.mp hj).1
        rw [List.getElem?_set_self hl, List.getElem?_map, hj]; rfl
      · rw [List.getElem?_set_ne hi]
    rw [e]; exact h.nd
/-- a cell is looked at -/
theorem At.cell {c : Cl} {j : Nat} (h : At B ρ μ τ σ H) (hj : μ[j]? = some (p, c)) : ∃ G, AtG B ρ μ τ σ H G ∧ CellOk B.K G H p c := by
  obtain ⟨G, h⟩ := h
  exact ⟨G, h, (h.cells _ (List.mem_of_getElem? hj)).2.2.2⟩
end
end Cal


namespace Cal
open PySem PySem.Spec PyProof.Rows L2
abbrev Mu := List (Addr × Cl)
abbrev Ro := List (Option D)
/-! ### what evaluates to what -/
def Xv (B : Bs) (te : TE) (ρ : Ro) (μ : Mu) (R : D → Mu → Prop) : Prop := ∀ (τ : List (V × D)) (σ : L2.St) (H : Hp), At B ρ μ τ σ H → ∀ Q : VK, (∀ v H' d μ', R d μ' → At B ρ μ' ((v, d) :: τ) σ H' → Q v H') → te σ H Q
def Ev (B : Bs) (te : TE) (ρ : Ro) (μ : Mu) (P : D → Prop) : Prop := Xv B te ρ μ fun d μ' => P d ∧ μ' = μ
def Ed (B : Bs) (te : TE) (ρ : Ro) (μ : Mu) (d : D) : Prop := Ev B te ρ μ fun e => e = d
def Et (B : Bs) (tt : TT) (ρ : Ro) (μ : Mu) (P : Bool → Prop) : Prop := ∀ (τ : List (V × D)) (σ : L2.St) (H : Hp), At B ρ μ τ σ H → ∀ Q : Bool → Hp → Prop, (∀ b H', P b → At B ρ μ τ σ H' → Q b H') → tt σ H Q
def Eb (B : Bs) (tt : TT) (ρ : Ro) (μ : Mu) (b : Bool) : Prop := Et B tt ρ μ fun c => c = b
/-- what args evaluate to: the values with their data stand on top, the first one deepest -/
def Ea (B : Bs) (ta : TA) (ρ : Ro) (μ : Mu) (P : List D → Prop) : Prop := ∀ (τ : List (V × D)) (σ : L2.St) (H : Hp), At B ρ μ τ σ H → ∀ Q : List V → Hp → Prop, (∀ vs H' ds, P ds → vs.length = ds.length → At B ρ μ (vs.zip ds ++ τ) σ H' → Q vs H') → ta σ H Q
/-- operations by values -/
def RD (B : Bs) (r : R2) (ρ : Ro) (μ : Mu) (d1 d2 : D) (P : D → Prop) : Prop := ∀ (τ : List (V × D)) (σ : L2.St) (H : Hp) (x y : V), At B ρ μ ((y, d2) :: (x, d1) :: τ) σ H → ∀ Q : VK, (∀ v H' d, P d → At B ρ μ ((v, d) :: τ) σ H' → Q v H') → r x y H Q
def RU (B : Bs) (r : V → Hp → VK → Prop) (ρ : Ro) (μ : Mu) (d1 : D) (P : D → Prop) : Prop := ∀ (τ : List (V × D)) (σ : L2.St) (H : Hp) (x : V), At B ρ μ ((x, d1) :: τ) σ H → ∀ Q : VK, (∀ v H' d, P d → At B ρ μ ((v, d) :: τ) σ H' → Q v H') → r x H Q
def RC (B : Bs) (r : List V → Hp → VK → Prop) (ρ : Ro) (μ : Mu) (ds : List D) (P : D → Prop) : Prop := ∀ (τ : List (V × D)) (σ : L2.St) (H : Hp) (vs : List V), vs.length = ds.length → At B ρ μ (vs.zip ds ++ τ) σ H → ∀ Q : VK, (∀ v H' d, P d → At B ρ μ ((v, d) :: τ) σ H' → Q v H') → r vs H Q
section
variable {B : Bs} {ρ : Ro} {μ : Mu} {ta tb tc te tx : TE} {tt tu : TT} {P P1 P2 P3 : D → Prop} {d d1 d2 d3 e : D} {r r' : R2} {R R1 : D → Mu → Prop} {i j : Int} {b : Bool} {v : V}
theorem Xv.imp (h : Xv B te ρ μ R) (k : ∀ d μ', R d μ' → R1 d μ') : Xv B te ρ μ R1 := fun τ σ H a Q q => h τ σ H a Q fun v H' d μ' hd => q v H' d μ' (k d μ' hd)
theorem Ev.imp (h : Ev B te ρ μ P) (k : ∀ d, P d → P1 d) : Ev B te ρ μ P1 := Xv.imp h fun d μ' hd => ⟨k d hd.1, hd.2⟩
theorem Ed.is (h : Ed B te ρ μ d) (k : d = e) : Ed B te ρ μ e := k ▸ h
theorem Ed.ev (h : Ed B te ρ μ d) (k : P d) : Ev B te ρ μ P := Ev.imp h fun _ z => z ▸ k
theorem Ev.go (h : Ev B te ρ μ P) {τ σ H} (a : At B ρ μ τ σ H) {Q : VK} (q : ∀ v H' d, P d → At B ρ μ ((v, d) :: τ) σ H' → Q v H') : te σ H Q := h τ σ H a Q fun v H' d μ' hd => by
  obtain ⟨h1, rfl⟩ := hd
  exact q v H' d h1
theorem Ev.mk (h : ∀ (τ : List (V × D)) (σ : L2.St) (H : Hp), At B ρ μ τ σ H → ∀ Q : VK, (∀ v H' d, P d → At B ρ μ ((v, d) :: τ) σ H' → Q v H') → te σ H Q) : Ev B te ρ μ P := fun τ σ H a Q q => h τ σ H a Q fun v H' d hd => q v H' d μ ⟨hd, rfl⟩
theorem ed_var {i : Nat} (h : ρ[i]? = some (some d)) : Ed B (tVar i) ρ μ d := Ev.mk fun τ σ H a Q q => by
  obtain ⟨v, h1, h2⟩ := a.var h
  exact ⟨v, h1, q v H d rfl h2⟩
theorem ed_cV {v : V} {d : D} (h : ∀ G, Dt B.K G d v) : Ed B (tC v) ρ μ d := Ev.mk fun τ σ H a Q q => q v H d rfl (a.flat h)
theorem ed_int : Ed B (tC (.int i)) ρ μ (.int i) := ed_cV fun _ => rfl
theorem ed_str {s : Str} : Ed B (tC (.str s)) ρ μ (.str s) := ed_cV fun _ => rfl
theorem ed_bl : Ed B (tC (.bl b)) ρ μ (.bl b) := ed_cV fun _ => rfl
theorem ed_non : Ed B (tC .non) ρ μ .non := ed_cV fun _ => rfl
theorem ed_raw : Ed B (tC v) ρ μ (.raw v) := ed_cV fun _ => rfl
theorem ev_op (ha : Ev B ta ρ μ P1) (hb : Ev B tb ρ μ P2) (hr : ∀ d1 d2, P1 d1 → P2 d2 → RD B r ρ μ d1 d2 P) : Ev B (tOp r ta tb) ρ μ P := Ev.mk fun τ σ H a Q q =>
  ha.go a fun x H1 d1 h1 a1 => hb.go a1 fun y H2 d2 h2 a2 => hr d1 d2 h1 h2 τ σ H2 x y a2 Q q
theorem ed_op (ha : Ed B ta ρ μ d1) (hb : Ed B tb ρ μ d2) (hr : RD B r ρ μ d1 d2 P) : Ev B (tOp r ta tb) ρ μ P := ev_op ha hb fun _ _ e1 e2 => by
  subst e1; subst e2; exact hr
theorem ev_un {r : V → Hp → VK → Prop} (ha : Ev B ta ρ μ P1) (hr : ∀ d1, P1 d1 → RU B r ρ μ d1 P) : Ev B (tUn r ta) ρ μ P := Ev.mk fun τ σ H a Q q =>
  ha.go a fun x H1 d1 h1 a1 => hr d1 h1 τ σ H1 x a1 Q q
theorem ed_un {r : V → Hp → VK → Prop} (ha : Ed B ta ρ μ d1) (hr : RU B r ρ μ d1 P) : Ev B (tUn r ta) ρ μ P := ev_un ha fun _ e1 => by
  subst e1; exact hr
/-! operators -/
theorem RD.inl (h : RD B r ρ μ d1 d2 P) : RD B (fun x y H Q => r x y H Q ∨ r' x y H Q) ρ μ d1 d2 P := fun τ σ H x y a Q q => .inl (h τ σ H x y a Q q)
theorem RD.inr (h : RD B r' ρ μ d1 d2 P) : RD B (fun x y H Q => r x y H Q ∨ r' x y H Q) ρ μ d1 d2 P := fun τ σ H x y a Q q => .inr (h τ σ H x y a Q q)
theorem At.two {x y : V} {τ σ H} (a : At B ρ μ ((y, d2) :: (x, d1) :: τ) σ H) : ∃ G, AtG B ρ μ τ σ H G ∧ Dt B.K G d1 x ∧ Dt B.K G d2 y := by
  obtain ⟨G, h1, h2⟩ := a.top
  exact ⟨G, { h1 with temps := fun p hp => h1.temps p (List.mem_cons_of_mem _ hp) }, h1.temps _ (List.mem_cons_self ..), h2⟩
/-- both stay, the answer is flat -/
theorem rd_flat {z : V} {d : D} (hz : ∀ G, Dt B.K G d z) (h : ∀ G H x y, Same G H → Dt B.K G d1 x → Dt B.K G d2 y → ∀ Q : VK, Q z H → r x y H Q) : RD B r ρ μ d1 d2 (fun e => e = d) := fun τ σ H x y a Q q => by
  obtain ⟨G, g, k1, k2⟩ := a.two
  exact h G H x y g.sub k1 k2 Q (q z H d rfl (At.flat ⟨G, g⟩ hz))
theorem ru_flat {r : V → Hp → VK → Prop} {z : V} {d : D} (hz : ∀ G, Dt B.K G d z) (h : ∀ G H x, Same G H → Dt B.K G d1 x → ∀ Q : VK, Q z H → r x H Q) : RU B r ρ μ d1 (fun e => e = d) := fun τ σ H x a Q q => by
  obtain ⟨G, g, k1⟩ := a.top
  exact h G H x g.sub k1 Q (q z H d rfl (At.flat ⟨G, g⟩ hz))
theorem rd_I0 {g : Int → Int → V} {d : D} (hz : ∀ G, Dt B.K G d (g i j)) : RD B (rI0 g) ρ μ (.int i) (.int j) (fun e => e = d) := rd_flat hz fun G H x y _ h1 h2 Q q => ⟨i, j, h1, h2, q⟩
theorem rd_I {C : Int → Int → Prop} {g : Int → Int → V} {d : D} (hz : ∀ G, Dt B.K G d (g i j)) (hc : C i j) : RD B (rI C g) ρ μ (.int i) (.int j) (fun e => e = d) := rd_flat hz fun G H x y _ h1 h2 Q q => ⟨i, j, h1, h2, hc, q⟩
theorem rd_add : RD B (rI0 fun i j => .int (i + j)) ρ μ (.int i) (.int j) (fun e => e = .int (i + j)) := rd_I0 fun _ => rfl
theorem rd_sub : RD B (rI0 fun i j => .int (i - j)) ρ μ (.int i) (.int j) (fun e => e = .int (i - j)) := rd_I0 fun _ => rfl
theorem rd_lt : RD B (rI0 fun i j => .bl (decide (i < j))) ρ μ (.int i) (.int j) (fun e => e = .bl (decide (i < j))) := rd_I0 fun _ => rfl
theorem rd_le : RD B (rI0 fun i j => .bl (decide (i ≤ j))) ρ μ (.int i) (.int j) (fun e => e = .bl (decide (i ≤ j))) := rd_I0 fun _ => rfl
theorem rd_gt : RD B (rI0 fun i j => .bl (decide (j < i))) ρ μ (.int i) (.int j) (fun e => e = .bl (decide (j < i))) := rd_I0 fun _ => rfl
theorem rd_ge : RD B (rI0 fun i j => .bl (decide (j ≤ i))) ρ μ (.int i) (.int j) (fun e => e = .bl (decide (j ≤ i))) := rd_I0 fun _ => rfl
theorem rd_mul (h : CMul i j) : RD B (rI CMul fun i j => .int (i * j)) ρ μ (.int i) (.int j) (fun e => e = .int (i * j)) := rd_I (fun _ => rfl) h
theorem rd_mod (h : 0 < j) : RD B (rI (fun _ j => 0 < j) fun i j => .int (i % j)) ρ μ (.int i) (.int j) (fun e => e = .int (i % j)) := rd_I (fun _ => rfl) h
theorem rd_pow (h : CPow i j) : RD B (rI CPow fun i j => .int (i ^ j.toNat)) ρ μ (.int i) (.int j) (fun e => e = .int (i ^ j.toNat)) := rd_I (fun _ => rfl) h
/-! tests -/
theorem et_test (h : Ev B te ρ μ P) {Pb : Bool → Prop} (k : ∀ d, P d → ∃ b, d = .bl b ∧ Pb b) : Et B (tTest te) ρ μ Pb := fun τ σ H a Q q => h.go a fun v H' d hd a1 => by
  obtain ⟨b, rfl, hb⟩ := k d hd
  obtain ⟨G, g, hv⟩ := a1.top
  exact ⟨b, hv, q b H' hb ⟨G, g⟩⟩
theorem et_B (h : Ev B te ρ μ P) {Pb : Bool → Prop} (k : ∀ d, P d → ∃ b, d = .bl b ∧ Pb b) : Et B (tB te) ρ μ Pb := fun τ σ H a Q q => h.go a fun v H' d hd a1 => by
  obtain ⟨b, rfl, hb⟩ := k d hd
  obtain ⟨G, g, hv⟩ := a1.top
  exact ⟨b, hv, q b H' hb ⟨G, g⟩⟩
theorem eb_test (h : Ed B te ρ μ (.bl b)) : Eb B (tTest te) ρ μ b := et_test h fun d e => ⟨b, e, rfl⟩
theorem eb_B (h : Ed B te ρ μ (.bl b)) : Eb B (tB te) ρ μ b := et_B h fun d e => ⟨b, e, rfl⟩
theorem Et.imp {Pb Pb' : Bool → Prop} (h : Et B tt ρ μ Pb) (k : ∀ b, Pb b → Pb' b) : Et B tt ρ μ Pb' := fun τ σ H a Q q => h τ σ H a Q fun b H' hb => q b H' (k b hb)
theorem Eb.is {b c : Bool} (h : Eb B tt ρ μ b) (k : b = c) : Eb B tt ρ μ c := k ▸ h
theorem et_not {Pb : Bool → Prop} (h : Et B tt ρ μ fun b => Pb (!b)) : Et B (tNot tt) ρ μ Pb := fun τ σ H a Q q => h τ σ H a _ fun b H' hb a1 => q (!b) H' hb a1
theorem eb_not (h : Eb B tt ρ μ b) : Eb B (tNot tt) ρ μ (!b) := et_not (Et.imp h fun c e => by rw [e])
theorem et_and {Pa Pb : Bool → Prop} (h1 : Et B tt ρ μ Pa) (h2 : Pa true → Et B tu ρ μ Pb) (h3 : Pa false → Pb false) : Et B (tAnd tt tu) ρ μ Pb := fun τ σ H a Q q => h1 τ σ H a _ fun b H' hb a1 => by
  cases b with
  | true => show tu σ H' Q; exact h2 hb τ σ H' a1 Q q
  | false => show Q false H'; exact q false H' (h3 hb) a1
theorem et_or {Pa Pb : Bool → Prop} (h1 : Et B tt ρ μ Pa) (h2 : Pa false → Et B tu ρ μ Pb) (h3 : Pa true → Pb true) : Et B (tOr tt tu) ρ μ Pb := fun τ σ H a Q q => h1 τ σ H a _ fun b H' hb a1 => by
  cases b with
  | true => show Q true H'; exact q true H' (h3 hb) a1
  | false => show tu σ H' Q; exact h2 hb τ σ H' a1 Q q
theorem eb_and {a b : Bool} (h1 : Eb B tt ρ μ a) (h2 : a = true → Eb B tu ρ μ b) : Eb B (tAnd tt tu) ρ μ (a && b) := et_and h1 (fun e => by
  subst e; exact Et.imp (h2 rfl) fun c e => by rw [e]; rfl) (fun e => by rw [← e]; rfl)
theorem eb_or {a b : Bool} (h1 : Eb B tt ρ μ a) (h2 : a = false → Eb B tu ρ μ b) : Eb B (tOr tt tu) ρ μ (a || b) := et_or h1 (fun e => by
  subst e; exact Et.imp (h2 rfl) fun c e => by rw [e]; rfl) (fun e => by rw [← e]; rfl)
theorem ev_andV {Pb : Bool → Prop} (h1 : Ev B ta ρ μ P1) (k : ∀ d, P1 d → ∃ b, d = .bl b ∧ Pb b) (h2 : Pb true → Ev B tb ρ μ P) (h3 : Pb false → P (.bl false)) : Ev B (tAndV ta tb) ρ μ P := Ev.mk fun τ σ H a Q q => h1.go a fun v H' d hd a1 => by
  obtain ⟨b, rfl, hb⟩ := k d hd
  obtain ⟨G, g, hv⟩ := a1.top
  refine ⟨b, hv, ?_⟩
  cases b with
  | true => exact (h2 hb).go ⟨G, g⟩ q
  | false => exact q _ H' _ (h3 hb) (At.flat ⟨G, g⟩ fun _ => rfl)
theorem ev_orV {Pb : Bool → Prop} (h1 : Ev B ta ρ μ P1) (k : ∀ d, P1 d → ∃ b, d = .bl b ∧ Pb b) (h2 : Pb false → Ev B tb ρ μ P) (h3 : Pb true → P (.bl true)) : Ev B (tOrV ta tb) ρ μ P := Ev.mk fun τ σ H a Q q => h1.go a fun v H' d hd a1 => by
  obtain ⟨b, rfl, hb⟩ := k d hd
  obtain ⟨G, g, hv⟩ := a1.top
  refine ⟨b, hv, ?_⟩
  cases b with
  | true => exact q _ H' _ (h3 hb) (At.flat ⟨G, g⟩ fun _ => rfl)
  | false => exact (h2 hb).go ⟨G, g⟩ q
theorem ed_andV {a b : Bool} (h1 : Ed B ta ρ μ (.bl a)) (h2 : a = true → Ed B tb ρ μ (.bl b)) : Ed B (tAndV ta tb) ρ μ (.bl (a && b)) := ev_andV (Pb := fun c => c = a) h1 (fun d e => ⟨a, e, rfl⟩) (fun e => by
  subst e; exact Ev.imp (h2 rfl) fun c e => by rw [e]; rfl) (fun e => by rw [← e]; rfl)
theorem ed_orV {a b : Bool} (h1 : Ed B ta ρ μ (.bl a)) (h2 : a = false → Ed B tb ρ μ (.bl b)) : Ed B (tOrV ta tb) ρ μ (.bl (a || b)) := ev_orV (Pb := fun c => c = a) h1 (fun d e => ⟨a, e, rfl⟩) (fun e => by
  subst e; exact Ev.imp (h2 rfl) fun c e => by rw [e]; rfl) (fun e => by rw [← e]; rfl)
theorem ed_notV (h : Ed B ta ρ μ (.bl b)) : Ed B (tNotV ta) ρ μ (.bl (!b)) := Ev.mk fun τ σ H a Q q => h.go a fun v H' d hd a1 => by
  subst hd
  obtain ⟨G, g, hv⟩ := a1.top
  exact ⟨b, hv, q _ H' _ rfl (At.flat ⟨G, g⟩ fun _ => rfl)⟩
theorem ev_if {Pb : Bool → Prop} (h : Et B tt ρ μ Pb) (h1 : Pb true → Ev B ta ρ μ P) (h2 : Pb false → Ev B tb ρ μ P) : Ev B (tIf tt ta tb) ρ μ P := Ev.mk fun τ σ H a Q q => h τ σ H a _ fun b H' hb a1 => by
  cases b with
  | true => exact (h1 hb).go a1 q
  | false => exact (h2 hb).go a1 q
theorem ed_if (h : Eb B tt ρ μ b) (h1 : b = true → Ed B ta ρ μ d) (h2 : b = false → Ed B tb ρ μ d) : Ed B (tIf tt ta tb) ρ μ d := ev_if h (fun e => h1 e.symm) (fun e => h2 e.symm)
theorem ed_chain {a b : Bool} (ha : Ed B ta ρ μ d1) (hb : Ed B tb ρ μ d2) (hc : a = true → Ed B tc ρ μ d3) (h1 : ∀ G H x y, Same G H → Dt B.K G d1 x → Dt B.K G d2 y → ∀ Q : VK, Q (.bl a) H → r x y H Q)
    (h2 : a = true → ∀ G H x y, Same G H → Dt B.K G d2 x → Dt B.K G d3 y → ∀ Q : VK, Q (.bl b) H → r' x y H Q) : Ed B (tChain r r' ta tb tc) ρ μ (.bl (a && b)) := Ev.mk fun τ σ H at0 Q q =>
  ha.go at0 fun x H1 _ e1 a1 => hb.go a1 fun y H2 _ e2 a2 => by
    rw [e1, e2] at a2
    obtain ⟨G, g, k1, k2⟩ := a2.two
    refine h1 G H2 x y g.sub k1 k2 _ ⟨a, rfl, ?_⟩
    cases a with
    | true =>
      refine (hc rfl).go (At.sub (τ' := (y, d2) :: τ) a2 fun p hp => ?_) fun z H3 _ e3 a3 => ?_
      · rcases List.mem_cons.mp hp with e | e
        · rw [e]; exact List.mem_cons_self ..
        · exact List.mem_cons_of_mem _ (List.mem_cons_of_mem _ e)
      · rw [e3] at a3
        obtain ⟨G3, g3, k3, k4⟩ := a3.two
        exact h2 rfl G3 H3 y z g3.sub k3 k4 Q (q _ H3 _ rfl (At.flat ⟨G3, g3⟩ fun _ => rfl))
    | false => exact q _ H2 _ rfl (At.flat ⟨G, g⟩ fun _ => rfl)
/-! args, calls -/
theorem ea_nil : Ea B tNil ρ μ (fun ds => ds = []) := fun τ σ H a Q q => q [] H [] rfl rfl a
theorem ea_cons {tr : TA} {Ps : List D → Prop} (h : Ev B ta ρ μ P) (hr : ∀ d, P d → Ea B tr ρ μ (fun ds => Ps (d :: ds))) : Ea B (tCons ta tr) ρ μ Ps := fun τ σ H a Q q => h.go a fun x H1 d hd a1 =>
  hr d hd _ σ H1 a1 _ fun xs H2 ds hds hl a2 => q (x :: xs) H2 (d :: ds) hds (by rw [List.length_cons, List.length_cons, hl]) (a2.sub fun p hp => by
    rw [List.zip_cons_cons, List.cons_append] at hp
    rcases List.mem_cons.mp hp with e | e
    · rw [e]; exact List.mem_append_right _ (List.mem_cons_self ..)
    · rcases List.mem_append.mp e with e | e
      · exact List.mem_append_left _ e
      · exact List.mem_append_right _ (List.mem_cons_of_mem _ e))
theorem ead_cons {tr : TA} {ds : List D} (h : Ed B ta ρ μ d) (hr : Ea B tr ρ μ (fun es => es = ds)) : Ea B (tCons ta tr) ρ μ (fun es => es = d :: ds) := ea_cons h fun e he => by
  subst he
  exact fun τ σ H a Q q => hr τ σ H a Q fun vs H' es z => q vs H' es (by rw [z])
theorem ev_cb {r : List V → Hp → VK → Prop} {t : TA} {Ps : List D → Prop} (h : Ea B t ρ μ Ps) (hr : ∀ ds, Ps ds → RC B r ρ μ ds P) : Ev B (tCB r t) ρ μ P := Ev.mk fun τ σ H a Q q => h τ σ H a _ fun vs H1 ds hds hl a1 => hr ds hds τ σ H1 vs hl a1 Q q
theorem ed_cb {r : List V → Hp → VK → Prop} {t : TA} {ds : List D} (h : Ea B t ρ μ (fun es => es = ds)) (hr : RC B r ρ μ ds P) : Ev B (tCB r t) ρ μ P := ev_cb h fun es e => by
  subst e; exact hr
theorem RC.inl {r r' : List V → Hp → VK → Prop} {ds : List D} (h : RC B r ρ μ ds P) : RC B (fun xs H Q => r xs H Q ∨ r' xs H Q) ρ μ ds P := fun τ σ H x y a Q q => .inl (h τ σ H x y a Q q)
theorem RC.inr {r r' : List V → Hp → VK → Prop} {ds : List D} (h : RC B r' ρ μ ds P) : RC B (fun xs H Q => r xs H Q ∨ r' xs H Q) ρ μ ds P := fun τ σ H x y a Q q => .inr (h τ σ H x y a Q q)
theorem DtA.of_zip {K : PySem.W.Frag} {G : Hp} : ∀ {vs : List V} {ds : List D}, vs.length = ds.length → (∀ p ∈ vs.zip ds, Dt K G p.2 p.1) → DtA K G ds vs
  | [], [], _, _ => rfl
  | [], d :: ds, h, _ => by simp at h
  | v :: vs, [], h, _ => by simp at h
  | v :: vs, d :: ds, h, k => ⟨v, vs, rfl, k (v, d) (by simp), DtA.of_zip (by simpa using h) fun p hp => k p (by rw [List.zip_cons_cons]; exact List.mem_cons_of_mem _ hp)⟩
theorem At.args {vs : List V} {ds : List D} {τ σ H} (hl : vs.length = ds.length) (a : At B ρ μ (vs.zip ds ++ τ) σ H) : ∃ G, AtG B ρ μ τ σ H G ∧ DtA B.K G ds vs := by
  obtain ⟨G, h⟩ := a
  exact ⟨G, { h with temps := fun p hp => h.temps p (List.mem_append_right _ hp) }, DtA.of_zip hl fun p hp => h.temps p (List.mem_append_left _ hp)⟩
theorem rc_flat {r : List V → Hp → VK → Prop} {ds : List D} {z : V} {d : D} (hz : ∀ G, Dt B.K G d z) (h : ∀ G H xs, Same G H → DtA B.K G ds xs → ∀ Q : VK, Q z H → r xs H Q) : RC B r ρ μ ds (fun e => e = d) := fun τ σ H xs hl a Q q => by
  obtain ⟨G, g, k⟩ := a.args hl
  exact h G H xs g.sub k Q (q z H d rfl (At.flat ⟨G, g⟩ hz))
/-- displays -/
theorem ev_tup {t : TA} {Ps : List D → Prop} (h : Ea B t ρ μ Ps) (hl : ∀ ds, Ps ds → ds.length ≤ sizeLine ∧ P (.tup ds)) : Ev B (tTup t) ρ μ P := Ev.mk fun τ σ H a Q q => h τ σ H a _ fun vs H1 ds hds hlen a1 =>
  ⟨by rw [hlen]; exact (hl ds hds).1, fun p hp => q _ _ _ (hl ds hds).2 (At.sub (At.new (dn := .tup ds) a1 hp fun G k1 k2 => ⟨p, vs, rfl, k2, DtA.of_zip hlen fun q hq => k1 q (List.mem_append_left _ hq)⟩) fun q hq => by
    rcases List.mem_cons.mp hq with e | e
    · rw [e]; exact List.mem_cons_self ..
    · exact List.mem_cons_of_mem _ (List.mem_append_right _ e))⟩
theorem ev_lst {t : TA} {Ps : List D → Prop} (h : Ea B t ρ μ Ps) (hl : ∀ ds, Ps ds → ds.length ≤ sizeLine ∧ P (.lst ds)) : Ev B (tLst t) ρ μ P := Ev.mk fun τ σ H a Q q => h τ σ H a _ fun vs H1 ds hds hlen a1 =>
  ⟨by rw [hlen]; exact (hl ds hds).1, fun p hp => q _ _ _ (hl ds hds).2 (At.sub (At.new (dn := .lst ds) a1 hp fun G k1 k2 => ⟨p, vs, rfl, k2, DtA.of_zip hlen fun q hq => k1 q (List.mem_append_left _ hq)⟩) fun q hq => by
    rcases List.mem_cons.mp hq with e | e
    · rw [e]; exact List.mem_cons_self ..
    · exact List.mem_cons_of_mem _ (List.mem_append_right _ e))⟩
theorem ed_tup {t : TA} {ds : List D} (h : Ea B t ρ μ (fun es => es = ds)) (hl : ds.length ≤ sizeLine) : Ed B (tTup t) ρ μ (.tup ds) := ev_tup h fun es e => ⟨by rw [e]; exact hl, by rw [e]⟩
theorem ed_lst {t : TA} {ds : List D} (h : Ea B t ρ μ (fun es => es = ds)) (hl : ds.length ≤ sizeLine) : Ed B (tLst t) ρ μ (.lst ds) := ev_lst h fun es e => ⟨by rw [e]; exact hl, by rw [e]⟩
/-! own calls -/
/-- what a def promises: pre of the data of its arguments; post of its answer's -/
def fsp (K : PySem.W.Frag) (I : Hp → Prop) (M : List Addr) (pre : List D → Prop) (post : List D → D → Prop) : Sp := fun vs H Q _ => ∃ (G : Hp) (ds : List D), DtA K G ds vs ∧ pre ds ∧ Same G H ∧ I H ∧ (∀ b ∈ M, G b = none ∧ Ent H b) ∧ (∀ b vs, H b = some (.tup vs) → G b = some (.tup vs)) ∧
  ∀ v H' d, post ds d → I H' → (∀ b ∈ M, Ent H' b) → (∀ b o, H b = some o → b ∉ M → H' b = some o) → Dt K (fun b => match H b with | none => H' b | some _ => G b) d v → Q v H'
end
end Cal


namespace Cal
open PySem PySem.Spec PyProof.Rows L2
section
variable {B : Bs} {ρ ρ' : Ro} {μ μ' : Mu} {τ : List (V × D)} {σ : L2.St} {H : Hp} {ta tb tc te tx : TE} {tt tu : TT} {P P1 P2 P3 : D → Prop} {d d1 d2 d3 e : D} {r r' : R2} {R R1 : D → Mu → Prop} {i j : Int} {b : Bool} {v : V} {E : XK}
/-! ### own calls -/
theorem ev_callS {sp : Sp} {I' : Hp → Prop} {M' : List Addr} {pre : List D → Prop} {post : List D → D → Prop} {t : TA} {Ps : List D → Prop} (h : Ea B t ρ μ Ps) (hs : ∀ vs H Q, fsp B.K I' M' pre post vs H Q E → sp vs H Q E) (hpre : ∀ ds, Ps ds → pre ds) (hpost : ∀ ds d, Ps ds → post ds d → P d)
    (hM : ∀ b ∈ M', b ∈ B.M) (hI : ∀ H, B.I H → I' H) (hI' : ∀ H H', B.I H → I' H' → (∀ b ∈ B.M, H b ≠ none) → (∀ b o, H b = some o → b ∉ M' → H' b = some o) → B.I H') : Ev B (tCall sp [] E t) ρ μ P := Ev.mk fun τ σ H a Q q => h τ σ H a _ fun vs H1 ds hds hl a1 => by
  obtain ⟨G, g, k⟩ := a1.args hl
  rw [List.append_nil]
  refine hs _ _ _ ⟨G, ds, k, hpre ds hds, g.sub, hI H1 g.inv, fun b hb => g.out b (hM b hb), g.tup, fun v H2 d hd i2 n2 s2 dv => ?_⟩
  have sg : Same G (fun b => match H1 b with | none => H2 b | some _ => G b) := fun b o e => by
    have e1 := g.sub b o e
    show (match H1 b with | none => H2 b | some _ => G b) = some o
    rw [e1]; exact e
  have nM : ∀ b o, G b = some o → b ∉ M' := fun b o e m => by rw [(g.out b (hM b m)).1] at e; cases e
  have gn : ∀ b, G b = none → H1 b ≠ none → (match H1 b with | none => H2 b | some _ => G b) = none := fun b e1 e2 => by
    cases e : H1 b with
    | none => exact absurd e e2
    | some o => exact e1
  refine q v H2 d (hpost ds d hds hd) ⟨_, AtG.push (G := fun b => match H1 b with | none => H2 b | some _ => G b) ⟨fun b o e => ?_, hI' H1 H2 g.inv i2 (fun b hb => (g.out b hb).2.1) s2, fun b hb => ⟨gn b (g.out b hb).1 (g.out b hb).2.1, ?_⟩, fun b vs e => ?_, fun b o e hb => s2 b o (g.base b o e hb) fun m => hb (hM b m), fun b o e => ?_, g.len, fun i d e => let ⟨v, a, c⟩ := g.slots i d e; ⟨v, a, Dt.mono sg d c⟩, fun p hp => ?_, g.nd, fun p hp => Dt.mono sg p.2 (g.temps p hp)⟩ dv⟩
  · cases e1 : H1 b with
    | none => rw [e1] at e; exact e
    | some o1 =>
      rw [e1] at e
      have e2 := g.sub b o e
      exact s2 b o e2 (nM b o e)
  · by_cases m : b ∈ M'
    · exact n2 b m
    · cases e1 : H1 b with
      | none => exact absurd e1 (g.out b hb).2.1
      | some o1 => unfold Ent; rw [s2 b o1 e1 m, ← e1]; exact (g.out b hb).2
  · show (match H1 b with | none => H2 b | some _ => G b) = some (.tup vs)
    cases e1 : H1 b with
    | none => exact e
    | some o1 =>
      by_cases m : b ∈ M'
      · exact absurd e ((n2 b m).2 vs)
      · rw [s2 b o1 e1 m] at e
        rw [e] at e1
        exact g.tup b vs e1
  · cases e1 : H1 b with
    | none =>
      refine .inl ?_
      cases e2 : B.H0 b with
      | none => rfl
      | some o2 =>
        by_cases m : b ∈ B.M
        · exact absurd e1 (g.out b m).2.1
        · rw [g.base b o2 e2 m] at e1; cases e1
    | some o1 => rw [e1] at e; exact g.ext b o e
  · obtain ⟨c1, c2, c3, c4⟩ := g.cells p hp
    refine ⟨gn _ c1 c4.there, c2, c3, c4.mono sg fun o e => s2 _ o e fun m => c3 (hM _ m)⟩
theorem ev_call {I' : Hp → Prop} {M' : List Addr} {pre : List D → Prop} {post : List D → D → Prop} {t : TA} {Ps : List D → Prop} (h : Ea B t ρ μ Ps) (hpre : ∀ ds, Ps ds → pre ds) (hpost : ∀ ds d, Ps ds → post ds d → P d)
    (hM : ∀ b ∈ M', b ∈ B.M) (hI : ∀ H, B.I H → I' H) (hI' : ∀ H H', B.I H → I' H' → (∀ b ∈ B.M, H b ≠ none) → (∀ b o, H b = some o → b ∉ M' → H' b = some o) → B.I H') : Ev B (tCall (fsp B.K I' M' pre post) [] E t) ρ μ P := ev_callS h (fun _ _ _ z => z) hpre hpost hM hI hI'
/-- a def that changes nothing but what all change -/
theorem ev_callD {pre : List D → Prop} {post : List D → D → Prop} {t : TA} {Ps : List D → Prop} (h : Ea B t ρ μ Ps) (hpre : ∀ ds, Ps ds → pre ds) (hpost : ∀ ds d, Ps ds → post ds d → P d) : Ev B (tCall (fsp B.K B.I B.M pre post) [] E t) ρ μ P :=
  ev_call h hpre hpost (fun _ h => h) (fun _ h => h) fun _ _ _ i _ _ => i
/-- a def that changes nothing -/
theorem ev_callP {pre : List D → Prop} {post : List D → D → Prop} {t : TA} {Ps : List D → Prop} (h : Ea B t ρ μ Ps) (hpre : ∀ ds, Ps ds → pre ds) (hpost : ∀ ds d, Ps ds → post ds d → P d) : Ev B (tCall (fsp B.K (fun _ => True) [] pre post) [] E t) ρ μ P :=
  ev_call h hpre hpost (fun _ h => nomatch h) (fun _ _ => True.intro) fun H H' i _ n s => B.loc H H' i fun b hb => by
    cases e : H b with
    | none => exact absurd e (n b hb)
    | some o => exact s b o e fun z => nomatch z
/-! ### a def's beginning -/
theorem fsp_start {K : PySem.W.Frag} {I : Hp → Prop} {M : List Addr} {pre : List D → Prop} {post : List D → D → Prop} {vs : List V} {H : Hp} {Q : VK} (loc : ∀ H H', I H → (∀ b ∈ M, H' b = H b) → I H') (N : List Str) (h : fsp K I M pre post vs H Q E) :
    ∃ (G : Hp) (ds : List D), pre ds ∧ vs.length = ds.length ∧ At ⟨K, I, M, loc, G, H⟩ (ds.map some ++ List.replicate (N.length - ds.length) none) [] [] (start N vs) H ∧
      ∀ {ρ μ τ σ v H' d}, post ds d → At ⟨K, I, M, loc, G, H⟩ ρ μ ((v, d) :: τ) σ H' → Q v H' := by
  obtain ⟨G, ds, k, hp, s, i, o, tp, q⟩ := h
  refine ⟨G, ds, hp, k.length, ⟨G, ⟨s, i, o, tp, fun _ _ e _ => e, fun _ _ e => .inr e, ?_, fun i d e => ?_, fun _ h => (nomatch h), List.nodup_nil, fun _ h => (nomatch h)⟩⟩, fun {ρ μ τ σ v H' d} hd a => ?_⟩
  · show (ds.map some ++ List.replicate (N.length - ds.length) none).length = (vs.map some ++ List.replicate (N.length - vs.length) none).length
    rw [List.length_append, List.length_append, List.length_map, List.length_map, List.length_replicate, List.length_replicate, k.length]
  · by_cases hi : i < ds.length
    · rw [List.getElem?_append_left (by rw [List.length_map]; exact hi), List.getElem?_map] at e
      cases e1 : ds[i]? with
      | none => rw [e1] at e; cases e
      | some d' =>
        rw [e1] at e
        have e2 : d' = d := Option.some.inj (Option.some.inj e)
        subst e2
        obtain ⟨v, h1, h2⟩ := k.get e1
        refine ⟨v, ?_, h2⟩
        show (vs.map some ++ List.replicate (N.length - vs.length) none)[i]? = _
        rw [List.getElem?_append_left (by rw [List.length_map, k.length]; exact hi), List.getElem?_map, h1]
        rfl
    · rw [List.getElem?_append_right (by rw [List.length_map]; omega), List.getElem?_replicate] at e
      split at e <;> cases e
  · obtain ⟨G1, g, k1⟩ := a.top
    refine q v H' d hd g.inv (fun b hb => (g.out b hb).2) g.base (Dt.mono (fun b o e => ?_) d k1)
    show (match H b with | none => H' b | some _ => G b) = some o
    rcases g.ext b o e with z | z
    · rw [show H b = none from z]; exact g.sub b o e
    · cases e1 : H b with
      | none => exact g.sub b o e
      | some o1 => exact z
/-! ### statements -/
variable {D0 : Ends} {ts t1 t2 : TS} {g : TG}
theorem x_seq (h : t1 { D0 with nx := t2 D0 } σ H) : tSeq t1 t2 D0 σ H := h
theorem x_next (h : D0.nx σ H) : tNext D0 σ H := h
theorem x_asg {k : Nat} (a : At B ρ μ τ σ H) (he : Xv B te ρ μ R) (q : ∀ d μ' σ' H', R d μ' → At B (ρ.set k (some d)) μ' τ σ' H' → D0.nx σ' H') : tAsg te (gName k) D0 σ H :=
  he τ σ H a _ fun v H' d μ' hd a' => q d μ' _ H' hd (a'.set k)
theorem x_set {k : Nat} (a : At B ρ μ τ σ H) (he : Ed B te ρ μ d) (q : ∀ σ' H', At B (ρ.set k (some d)) μ τ σ' H' → D0.nx σ' H') : tAsg te (gName k) D0 σ H :=
  x_asg a he fun e μ' σ' H' z a' => by
    obtain ⟨z1, z2⟩ := z
    subst z1; subst z2; exact q σ' H' a'
theorem x_setV {k : Nat} (a : At B ρ μ τ σ H) (he : Ev B te ρ μ P) (q : ∀ d σ' H', P d → At B (ρ.set k (some d)) μ τ σ' H' → D0.nx σ' H') : tAsg te (gName k) D0 σ H :=
  x_asg a he fun e μ' σ' H' z a' => by
    obtain ⟨z1, z2⟩ := z
    subst z2; exact q e σ' H' z1 a'
theorem x_if {Pb : Bool → Prop} (a : At B ρ μ τ σ H) (h : Et B tt ρ μ Pb) (q1 : Pb true → ∀ H', At B ρ μ τ σ H' → t1 D0 σ H') (q2 : Pb false → ∀ H', At B ρ μ τ σ H' → t2 D0 σ H') : tIfS tt t1 t2 D0 σ H := h τ σ H a _ fun b H' hb a' => by
  cases b with
  | true => exact q1 hb H' a'
  | false => exact q2 hb H' a'
theorem x_ifb (a : At B ρ μ τ σ H) (h : Eb B tt ρ μ b) (q1 : b = true → ∀ H', At B ρ μ τ σ H' → t1 D0 σ H') (q2 : b = false → ∀ H', At B ρ μ τ σ H' → t2 D0 σ H') : tIfS tt t1 t2 D0 σ H := x_if a h (fun e => q1 e.symm) (fun e => q2 e.symm)
theorem x_ret (a : At B ρ μ τ σ H) (he : Ev B te ρ μ P) (q : ∀ v H' d, P d → At B ρ μ ((v, d) :: τ) σ H' → D0.rt v H') : tRet te D0 σ H := he.go a q
theorem x_drop (a : At B ρ μ τ σ H) (he : Xv B te ρ μ R) (q : ∀ d μ' H', R d μ' → At B ρ μ' τ σ H' → D0.nx σ H') : tDrop te D0 σ H := he τ σ H a _ fun v H' d μ' hd a' => q d μ' H' hd a'.pop
theorem x_par {k l : Nat} {t : TA} {Ps : D → D → Prop} (a : At B ρ μ τ σ H) (he : Ea B t ρ μ fun ds => ∃ d1 d2, ds = [d1, d2] ∧ Ps d1 d2) (q : ∀ d1 d2 σ' H', Ps d1 d2 → At B ((ρ.set k (some d1)).set l (some d2)) μ τ σ' H' → D0.nx σ' H') : tPar k l t D0 σ H := he τ σ H a _ fun vs H' ds hds hl a' => by
  obtain ⟨d1, d2, rfl, hd⟩ := hds
  match vs, hl with
  | [v, w], _ =>
    refine ⟨v, w, rfl, q d1 d2 _ H' hd ?_⟩
    exact At.set l (At.sub (τ' := (w, d2) :: τ) (At.set k a') fun p hp => by simpa using hp)
/-! ### targets -/
/-- a target takes a value: the slots js alone change -/
def Gd (B : Bs) (g : TG) (ρ : Ro) (μ : Mu) (d : D) (ρ' : Ro) (js : List Nat) : Prop := ∀ (τ : List (V × D)) (σ : L2.St) (H : Hp) (v : V), At B ρ μ ((v, d) :: τ) σ H → ∀ Q : L2.St → Hp → Prop, (∀ σ', At B ρ' μ τ σ' H → σ'.length = σ.length → (∀ i, i ∉ js → σ'[i]? = σ[i]?) → Q σ' H) → g v σ H Q
theorem gd_name (k : Nat) : Gd B (gName k) ρ μ d (ρ.set k (some d)) [k] := fun τ σ H v a Q q => q _ (a.set k) (List.length_set ..) fun i hi => by
  rw [List.getElem?_set_ne (fun e => hi (by rw [e]; exact List.mem_singleton.mpr rfl))]
theorem gd_tup2 {k l : Nat} : Gd B (gTup B.K 2 (gCons (gName k) (gCons (gName l) gNil))) ρ μ (.tup [d1, d2]) ((ρ.set k (some d1)).set l (some d2)) [k, l] := fun τ σ H v a Q q => by
  obtain ⟨G, g, p, vs, rfl, e, u, r, rfl, hu, w, r', rfl, hw, rfl⟩ := a.top
  refine ⟨p, [u, w], rfl, .inl (.inl (g.sub _ _ e)), rfl, u, [w], rfl, w, [], rfl, rfl, ?_⟩
  refine q _ (At.set l (At.set (τ := (w, d2) :: τ) k ⟨G, (g.push hw).push hu⟩)) (by rw [List.length_set, List.length_set]) fun i hi => ?_
  rw [List.getElem?_set_ne (fun z => hi (by rw [z]; simp)), List.getElem?_set_ne (fun z => hi (by rw [z]; simp))]
theorem x_asgG {ρ' : Ro} {js : List Nat} (a : At B ρ μ τ σ H) (he : Ed B te ρ μ d) (hg : Gd B g ρ μ d ρ' js) (q : ∀ σ' H', At B ρ' μ τ σ' H' → D0.nx σ' H') : tAsg te g D0 σ H :=
  he.go a fun v H' d' hd a' => by
    subst hd
    exact hg τ σ H' v a' _ fun σ' a2 _ _ => q σ' H' a2
/-! ### what is walked: n turns, f i the data of turn i -/
def Ei (B : Bs) (wi : TI) (ρ : Ro) (μ : Mu) (n : Nat) (f : Nat → D) : Prop := ∀ (τ : List (V × D)) (σ : L2.St) (H : Hp), At B ρ μ τ σ H → ∀ Rr : It → Hp → Prop,
  (∀ J H1 τ1, (∀ p ∈ τ, p ∈ τ1) → At B ρ μ τ1 σ H1 → (∀ i ρ' μ' τ' σ' H', (∀ p ∈ τ1, p ∈ τ') → At B ρ' μ' τ' σ' H' → (n ≤ i → J.stop i H') ∧ (i < n → J.go i H' ∧ ∀ x H2, J.yld i H' x H2 → At B ρ' μ' ((x, f i) :: τ') σ' H2)) → Rr J H1) → wi σ H Rr
theorem getD_of {ds : List D} {i : Nat} (h : i < ds.length) : ds[i]? = some (ds.getD i .non) := by
  rw [List.getD_eq_getElem?_getD, List.getElem?_eq_getElem h]; rfl
theorem ei_tup {tl : TE} {ds : List D} (h : Ed B tl ρ μ (.tup ds)) : Ei B (iTup B.K tl) ρ μ ds.length (fun i => ds.getD i .non) := fun τ σ H a Rr q => h.go a fun v H' d hd a1 => by
  subst hd
  obtain ⟨G, g, p, vs, rfl, e, k⟩ := id a1.top
  refine ⟨p, rfl, ⟨vs, .inl (.inl (g.sub _ _ e))⟩, q _ H' _ (fun z hz => List.mem_cons_of_mem _ hz) a1 fun i ρ' μ' τ' σ' H' hsub a2 => ?_⟩
  obtain ⟨G2, g2⟩ := a2
  obtain ⟨p', vs', e', e2, k2⟩ := g2.temps _ (hsub _ (List.mem_cons_self ..))
  cases e'
  have e3 : SqT B.K H' p vs' := .inl (.inl (g2.sub _ _ e2))
  refine ⟨fun hi => ⟨vs', e3, by rw [k2.length]; exact hi⟩, fun hi => ?_⟩
  obtain ⟨x, hx, dx⟩ := k2.get (getD_of hi)
  refine ⟨⟨vs', x, e3, hx⟩, fun y H2 hy => ?_⟩
  obtain ⟨rfl, hy⟩ := hy
  have ey : x = y := Option.some.inj (hx.symm.trans (hy vs' e3))
  subst ey
  exact ⟨G2, g2.push dx⟩
theorem ei_lst {tl : TE} {ds : List D} (h : Ed B tl ρ μ (.lst ds)) : Ei B (iList B.K tl) ρ μ ds.length (fun i => ds.getD i .non) := fun τ σ H a Rr q => h.go a fun v H' d hd a1 => by
  subst hd
  obtain ⟨G, g, p, vs, rfl, e, k⟩ := id a1.top
  refine ⟨p, rfl, ⟨vs, .inl (.inl (g.sub _ _ e))⟩, q _ H' _ (fun z hz => List.mem_cons_of_mem _ hz) a1 fun i ρ' μ' τ' σ' H' hsub a2 => ?_⟩
  obtain ⟨G2, g2⟩ := a2
  obtain ⟨p', vs', e', e2, k2⟩ := g2.temps _ (hsub _ (List.mem_cons_self ..))
  cases e'
  have e3 : SqL B.K H' p vs' := .inl (.inl (g2.sub _ _ e2))
  refine ⟨fun hi => ⟨vs', e3, by rw [k2.length]; exact hi⟩, fun hi => ?_⟩
  obtain ⟨x, hx, dx⟩ := k2.get (getD_of hi)
  refine ⟨⟨vs', x, e3, hx⟩, fun y H2 hy => ?_⟩
  obtain ⟨rfl, hy⟩ := hy
  have ey : x = y := Option.some.inj (hx.symm.trans (hy vs' e3))
  subst ey
  exact ⟨G2, g2.push dx⟩
theorem ei_str {tl : TE} {s : Str} (h : Ed B tl ρ μ (.str s)) : Ei B (iStr tl) ρ μ s.cps.size (fun i => .str ⟨#[s.cps.getD i 0]⟩) := fun τ σ H a Rr q => h.go a fun v H' d hd a1 => by
  subst hd
  obtain ⟨G, g, e⟩ := id a1.top
  refine ⟨s, e, q _ H' _ (fun z hz => List.mem_cons_of_mem _ hz) a1 fun i ρ' μ' τ' σ' H' hsub a2 => ⟨fun hi => hi, fun hi => ⟨hi, fun y H2 hy => ?_⟩⟩⟩
  obtain ⟨rfl, c, hc, rfl⟩ := hy
  refine At.flat a2 fun G => ?_
  show V.str ⟨#[c]⟩ = V.str ⟨#[s.cps.getD i 0]⟩
  rw [Array.getD_eq_getD_getElem?, hc]; rfl
theorem ei_rng1 {t : TA} (h : Ea B t ρ μ (fun es => es = [.int i])) (hb : -(2 ^ 62) ≤ i ∧ i < 2 ^ 62) : Ei B (iRng1 t) ρ μ i.toNat (fun k => .int k) := fun τ σ H a Rr q => h τ σ H a _ fun vs H1 ds hds hl a1 => by
  subst hds
  obtain ⟨G, g, k⟩ := a1.args hl
  obtain ⟨v, r, rfl, hv, hr⟩ := k
  have hr' : r = [] := hr
  subst hr'
  refine ⟨i, by rw [show v = V.int i from hv], hb.1, hb.2, q _ H1 τ (fun z hz => hz) ⟨G, g⟩ fun k ρ' μ' τ' σ' H' hsub a2 => ⟨fun hi => hi, fun hi => ⟨hi, fun y H2 hy => ?_⟩⟩⟩
  obtain ⟨rfl, rfl⟩ := hy
  exact At.flat a2 fun G => by
    show V.int (0 + (k : Int)) = V.int (k : Int)
    rw [Int.zero_add]
theorem ei_rng2 {t : TA} (h : Ea B t ρ μ (fun es => es = [.int i, .int j])) (hb : -(2 ^ 62) ≤ i ∧ i < 2 ^ 62 ∧ -(2 ^ 62) ≤ j ∧ j < 2 ^ 62) : Ei B (iRng2 t) ρ μ (j - i).toNat (fun k => .int (i + k)) := fun τ σ H a Rr q => h τ σ H a _ fun vs H1 ds hds hl a1 => by
  subst hds
  obtain ⟨G, g, k⟩ := a1.args hl
  obtain ⟨v, r, rfl, hv, w, r', rfl, hw, hr⟩ := k
  have hr' : r' = [] := hr
  subst hr'
  refine ⟨i, j, by rw [show v = V.int i from hv, show w = V.int j from hw], hb, q _ H1 τ (fun z hz => hz) ⟨G, g⟩ fun k ρ' μ' τ' σ' H' hsub a2 => ⟨fun hi => hi, fun hi => ⟨hi, fun y H2 hy => ?_⟩⟩⟩
  obtain ⟨rfl, rfl⟩ := hy
  exact At.flat a2 fun G => rfl
/-- for: Inv tells the slots and cells at each turn -/
theorem x_for {wi : TI} {n : Nat} {f : Nat → D} {tb : TS} {js : List Nat} (a : At B ρ μ τ σ H) (hi : Ei B wi ρ μ n f) (Inv : Nat → Ro → Mu → Prop) (h0 : Inv 0 ρ μ)
    (hs : ∀ i ρ' μ' τ1 σ' H' v (Dn : Ends), i < n → Inv i ρ' μ' → (∀ p ∈ τ, p ∈ τ1) → At B ρ' μ' ((v, f i) :: τ1) σ' H' → (∀ ρ2 μ2 σ2 H2, Inv (i + 1) ρ2 μ2 → At B ρ2 μ2 τ1 σ2 H2 → Dn.nx σ2 H2) → (∀ ρ2 μ2 σ2 H2, Inv (i + 1) ρ2 μ2 → At B ρ2 μ2 τ1 σ2 H2 → Dn.ct σ2 H2) → Dn.bk = D0.nx → Dn.rt = D0.rt → g v σ' H' (tb Dn))
    (hd : ∀ ρ' μ' σ' H', Inv n ρ' μ' → At B ρ' μ' τ σ' H' → D0.nx σ' H') : tFor wi g tb D0 σ H := hi τ σ H a _ fun J H1 τ1 hsub a1 hJ => by
  refine ⟨fun i m σ H => m = n - i ∧ i ≤ n ∧ ∃ ρ' μ', Inv i ρ' μ' ∧ At B ρ' μ' τ1 σ H, ⟨n, by omega, by omega, ρ, μ, h0, a1⟩, fun i m σ2 H2 hW => ?_⟩
  obtain ⟨rfl, hin, ρ', μ', hI, a2⟩ := hW
  obtain ⟨s1, s2⟩ := hJ i ρ' μ' τ1 σ2 H2 (fun _ z => z) a2
  by_cases hlt : i < n
  · obtain ⟨s3, s4⟩ := s2 hlt
    refine .inr ⟨s3, fun σ3 H3 => ∃ ρ' μ', Inv (i + 1) ρ' μ' ∧ At B ρ' μ' τ1 σ3 H3, fun σ3 H3 ⟨ρ3, μ3, i3, a3⟩ => ⟨n - (i + 1), by omega, rfl, hlt, ρ3, μ3, i3, a3⟩, fun x H3 hy => ?_⟩
    exact hs i ρ' μ' τ1 σ2 H3 x { D0 with nx := fun σ3 H3 => ∃ ρ' μ', Inv (i + 1) ρ' μ' ∧ At B ρ' μ' τ1 σ3 H3, ct := fun σ3 H3 => ∃ ρ' μ', Inv (i + 1) ρ' μ' ∧ At B ρ' μ' τ1 σ3 H3, bk := D0.nx } hlt hI hsub (s4 x H3 hy) (fun ρ2 μ2 σ2 H2 i2 a2 => ⟨ρ2, μ2, i2, a2⟩) (fun ρ2 μ2 σ2 H2 i2 a2 => ⟨ρ2, μ2, i2, a2⟩) rfl rfl
  · have e : i = n := by omega
    subst e
    exact .inl ⟨s1 (Nat.le_refl _), hd ρ' μ' σ2 H2 hI (a2.sub hsub)⟩
end
end Cal


namespace Cal
open PySem PySem.Spec PyProof.Rows L2
section
variable {B : Bs} {ρ ρ' : Ro} {μ μ' : Mu} {τ : List (V × D)} {σ σ2 : L2.St} {H : Hp} {ta tb tc te tx : TE} {tt tu : TT} {P P1 P2 P3 : D → Prop} {d d1 d2 d3 e : D} {r r' : R2} {R R1 : D → Mu → Prop} {i j : Int} {b : Bool} {v : V} {E : XK} {p : Addr}
/-- a cell that changes no more -/
theorem At.freeze {ds : List D} (a : At B ρ ((p, .lst ds) :: μ) τ σ H) : At B ρ μ ((.ref p, .lst ds) :: τ) σ H := by
  obtain ⟨G, g⟩ := a
  obtain ⟨n1, n2, n3, vs, n4, n5⟩ := (g.cells _ (List.mem_cons_self ..) : G p = none ∧ B.H0 p = none ∧ p ∉ B.M ∧ ∃ vs, H p = some (.lst vs) ∧ DtA B.K G ds vs)
  have sg : Same G (upd G p (.lst vs)) := same_new n1
  have nd := g.nd
  rw [List.map_cons, List.nodup_cons] at nd
  refine ⟨upd G p (.lst vs), AtG.push ⟨fun b o e => ?_, g.inv, fun b hb => ?_, fun b us e => ?_, g.base, fun b o e => ?_, g.len, fun i d e => let ⟨v, a, c⟩ := g.slots i d e; ⟨v, a, Dt.mono sg d c⟩, fun q hq => ?_, nd.2, fun q hq => Dt.mono sg q.2 (g.temps q hq)⟩ ⟨p, vs, rfl, upd_same, DtA.mono sg ds n5⟩⟩
  · by_cases hb : b = p
    · subst hb; rw [upd_same] at e; cases e; exact n4
    · rw [upd_ne hb] at e; exact g.sub b o e
  · rw [upd_ne (ne_of_mem n3 hb)]; exact g.out b hb
  · by_cases hb : b = p
    · subst hb; rw [n4] at e; cases e
    · rw [upd_ne hb]; exact g.tup b us e
  · by_cases hb : b = p
    · subst hb; exact .inl n2
    · rw [upd_ne hb] at e; exact g.ext b o e
  · obtain ⟨c1, c2, c3, c4⟩ := g.cells q (List.mem_cons_of_mem _ hq)
    refine ⟨?_, c2, c3, c4.mono sg fun o e => e⟩
    rw [upd_ne (fun z => nd.1 (List.mem_map.mpr ⟨q, hq, z⟩))]; exact c1
/-- the slots' data, as temps -/
def sv : Ro → L2.St → List (V × D)
  | some d :: ρ, some v :: σ => (v, d) :: sv ρ σ
  | _ :: ρ, _ :: σ => sv ρ σ
  | _, _ => []
theorem sv_mem : ∀ {ρ : Ro} {σ : L2.St} {q : V × D}, q ∈ sv ρ σ → ∃ i : Nat, ρ[i]? = some (some q.2) ∧ σ[i]? = some (some q.1)
  | [], σ, q, h => by cases σ <;> simp [sv] at h
  | none :: ρ, [], q, h => by simp [sv] at h
  | some d :: ρ, [], q, h => by simp [sv] at h
  | none :: ρ, v :: σ, q, h => by
    obtain ⟨i, h1, h2⟩ := sv_mem (ρ := ρ) (σ := σ) (by simpa [sv] using h)
    exact ⟨i + 1, by simpa using h1, by simpa using h2⟩
  | some d :: ρ, none :: σ, q, h => by
    obtain ⟨i, h1, h2⟩ := sv_mem (ρ := ρ) (σ := σ) (by simpa [sv] using h)
    exact ⟨i + 1, by simpa using h1, by simpa using h2⟩
  | some d :: ρ, some v :: σ, q, h => by
    rcases List.mem_cons.mp (show q ∈ (v, d) :: sv ρ σ from h) with e | e
    · subst e; exact ⟨0, rfl, rfl⟩
    · obtain ⟨i, h1, h2⟩ := sv_mem e
      exact ⟨i + 1, by simpa using h1, by simpa using h2⟩
theorem mem_sv : ∀ {ρ : Ro} {σ : L2.St} {i : Nat} {d : D} {v : V}, ρ[i]? = some (some d) → σ[i]? = some (some v) → (v, d) ∈ sv ρ σ
  | [], σ, i, d, v, h, _ => by simp at h
  | _ :: ρ, [], i, d, v, _, h => by simp at h
  | none :: ρ, w :: σ, 0, d, v, h, _ => by simp at h
  | none :: ρ, w :: σ, i + 1, d, v, h, k => by
    show _ ∈ sv ρ σ
    exact mem_sv (i := i) (by simpa using h) (by simpa using k)
  | some d' :: ρ, none :: σ, 0, d, v, h, k => by simp at k
  | some d' :: ρ, none :: σ, i + 1, d, v, h, k => by
    show _ ∈ sv ρ σ
    exact mem_sv (i := i) (by simpa using h) (by simpa using k)
  | some d' :: ρ, some v' :: σ, 0, d, v, h, k => by
    simp at h k; subst h; subst k; exact List.mem_cons_self ..
  | some d' :: ρ, some v' :: σ, i + 1, d, v, h, k => List.mem_cons_of_mem _ (mem_sv (i := i) (by simpa using h) (by simpa using k))
theorem At.save (a : At B ρ μ τ σ H) : At B ρ μ (sv ρ σ ++ τ) σ H := by
  obtain ⟨G, g⟩ := a
  refine ⟨G, { g with temps := fun q hq => ?_ }⟩
  rcases List.mem_append.mp hq with h | h
  · obtain ⟨i, h1, h2⟩ := sv_mem h
    obtain ⟨v, h3, h4⟩ := g.slots i _ h1
    rw [h2] at h3
    cases h3
    exact h4
  · exact g.temps q h
def Fits (ρ : Ro) (σ : L2.St) : Prop := ρ.length = σ.length ∧ ∀ (i : Nat) (d : D), ρ[i]? = some (some d) → ∃ v, σ[i]? = some (some v)
theorem At.fits (a : At B ρ μ τ σ H) : Fits ρ σ := by
  obtain ⟨G, g⟩ := a
  exact ⟨g.len, fun i d e => let ⟨v, h, _⟩ := g.slots i d e; ⟨v, h⟩⟩
theorem At.restore {ρ2 : Ro} (f : Fits ρ σ) (a : At B ρ2 μ τ σ2 H) (k : ∀ q ∈ sv ρ σ, q ∈ τ) : At B ρ μ τ σ H := by
  obtain ⟨G, g⟩ := a
  refine ⟨G, { g with len := f.1, slots := fun i d e => ?_ }⟩
  obtain ⟨v, h⟩ := f.2 i d e
  exact ⟨v, h, g.temps _ (k _ (mem_sv e h))⟩
def wipeR (ρ : Ro) : List Nat → Ro
  | [] => ρ
  | v :: vs => (wipeR ρ vs).set v none
theorem wipeR_len : ∀ vs : List Nat, (wipeR ρ vs).length = ρ.length
  | [] => rfl
  | v :: vs => by show ((wipeR ρ vs).set v none).length = _; rw [List.length_set, wipeR_len vs]
theorem wipeR_get {k : Nat} : ∀ {vs : List Nat}, (wipeR ρ vs)[k]? = some (some d) → ρ[k]? = some (some d) ∧ k ∉ vs
  | [], h => ⟨h, by simp⟩
  | v :: vs, h => by
    have h : ((wipeR ρ vs).set v none)[k]? = some (some d) := h
    by_cases hv : v = k
    · subst hv
      by_cases hl : v < (wipeR ρ vs).length
      · rw [List.getElem?_set_self hl] at h; cases h
      · rw [List.getElem?_eq_none (by rw [List.length_set]; omega)] at h; cases h
    · rw [List.getElem?_set_ne hv] at h
      obtain ⟨h1, h2⟩ := wipeR_get h
      exact ⟨h1, by simp only [List.mem_cons, not_or]; exact ⟨fun e => hv e.symm, h2⟩⟩
theorem wipe_get {k : Nat} : ∀ {vs : List Nat}, k ∉ vs → (wipe σ vs)[k]? = σ[k]?
  | [], _ => rfl
  | v :: vs, h => by
    rw [List.mem_cons, not_or] at h
    show ((wipe σ vs).set v none)[k]? = _
    rw [List.getElem?_set_ne (fun e => h.1 e.symm)]; exact wipe_get h.2
theorem wipe_in {k : Nat} : ∀ {vs : List Nat}, k ∈ vs → (wipe σ vs)[k]? = if k < σ.length then some none else none
  | v :: vs, h => by
    show ((wipe σ vs).set v none)[k]? = _
    by_cases hv : v = k
    · subst hv
      by_cases hl : v < σ.length
      · rw [List.getElem?_set_self (by rw [wipe_length]; exact hl), if_pos hl]
      · rw [if_neg hl, List.getElem?_eq_none (by rw [List.length_set, wipe_length]; omega)]
    · rw [List.getElem?_set_ne hv]
      rcases List.mem_cons.mp h with e | e
      · exact absurd e.symm hv
      · exact wipe_in e
theorem wipe_ext {vs js : List Nat} (hjs : ∀ k ∈ js, k ∈ vs) (hl : σ2.length = (wipe σ vs).length) (h : ∀ i, i ∉ js → σ2[i]? = (wipe σ vs)[i]?) : wipe σ2 vs = wipe σ vs := by
  refine List.ext_getElem? fun k => ?_
  by_cases hk : k ∈ vs
  · rw [wipe_in hk, wipe_in hk, hl, wipe_length]
  · rw [wipe_get hk, h k (fun z => hk (hjs k z)), wipe_get hk]
theorem At.wiped (a : At B ρ μ τ σ H) (vs : List Nat) : At B (wipeR ρ vs) μ τ (wipe σ vs) H := by
  obtain ⟨G, g⟩ := a
  refine ⟨G, { g with len := by rw [wipeR_len, wipe_length, g.len], slots := fun i d e => ?_ }⟩
  obtain ⟨h1, h2⟩ := wipeR_get e
  obtain ⟨v, h3, h4⟩ := g.slots i d h1
  exact ⟨v, by rw [wipe_get h2]; exact h3, h4⟩
/-- what a comprehension of i turns gives -/
def LcOk (c : Nat → Bool) (Pe : Nat → D → Prop) : Nat → List D → Prop
  | 0, ds => ds = []
  | i + 1, ds => if c i = true then ∃ ds' d, ds = ds' ++ [d] ∧ LcOk c Pe i ds' ∧ Pe i d else LcOk c Pe i ds
theorem LcOk.len {c : Nat → Bool} {Pe : Nat → D → Prop} : ∀ {n : Nat} {ds : List D}, LcOk c Pe n ds → ds.length ≤ n
  | 0, ds, h => by rw [show ds = [] from h]; exact Nat.le_refl _
  | n + 1, ds, h => by
    unfold LcOk at h
    split at h
    · obtain ⟨ds', d, rfl, h1, _⟩ := h
      rw [List.length_append]
      have := LcOk.len h1
      show ds'.length + 1 ≤ n + 1
      omega
    · exact Nat.le_succ_of_le (LcOk.len h)
theorem LcOk.det {c : Nat → Bool} {h : Nat → D} : ∀ {n : Nat} {ds : List D}, LcOk c (fun i d => d = h i) n ds → ds = ((List.range n).filter c).map h
  | 0, ds, k => k
  | n + 1, ds, k => by
    unfold LcOk at k
    rw [List.range_succ, List.filter_append, List.map_append]
    split at k
    · rename_i hc
      obtain ⟨ds', d, rfl, h1, rfl⟩ := k
      rw [← LcOk.det h1, List.filter_cons, if_pos hc]; rfl
    · rename_i hc
      rw [← LcOk.det k, List.filter_cons, if_neg hc]
      show ds = ds ++ []
      rw [List.append_nil]
theorem LcOk.all {Pe : Nat → D → Prop} : ∀ {n : Nat} {ds : List D}, LcOk (fun _ => true) Pe n ds → ds.length = n ∧ ∀ i d, ds[i]? = some d → Pe i d
  | 0, ds, k => by rw [show ds = [] from k]; exact ⟨rfl, fun i d e => by simp at e⟩
  | n + 1, ds, k => by
    unfold LcOk at k
    rw [if_pos rfl] at k
    obtain ⟨ds', d, rfl, h1, h2⟩ := k
    obtain ⟨l, q⟩ := LcOk.all h1
    refine ⟨by rw [List.length_append, l]; rfl, fun i e he => ?_⟩
    by_cases hi : i < ds'.length
    · rw [List.getElem?_append_left hi] at he; exact q i e he
    · rw [List.getElem?_append_right (by omega)] at he
      by_cases hj : i = ds'.length
      · subst hj
        rw [Nat.sub_self] at he
        have : d = e := by simpa using he
        subst this; rw [l]; exact h2
      · rw [List.getElem?_eq_none (by simp; omega)] at he; cases he
theorem ev_lc {wi : TI} {g : TG} {vs js : List Nat} {n : Nat} {f : Nat → D} (hi : Ei B wi ρ μ n f) (ρi : Nat → Ro) (hjs : ∀ k ∈ js, k ∈ vs) (hn : n ≤ 1000000) (c : Nat → Bool) (Pe : Nat → D → Prop)
    (hg : ∀ i, i < n → ∀ cl, Gd B g (wipeR ρ vs) (cl :: μ) (f i) (ρi i) js) (ht : ∀ i, i < n → ∀ cl, Eb B tt (ρi i) (cl :: μ) (c i)) (he : ∀ i, i < n → c i = true → ∀ cl, Ev B te (ρi i) (cl :: μ) (Pe i))
    (hP : ∀ ds, LcOk c Pe n ds → P (.lst ds)) : Ev B (tLc wi g tt te vs) ρ μ P := Ev.mk fun τ σ H a Q q => hi (sv ρ σ ++ τ) σ H a.save _ fun J H1 τ1 hsub a1 hJ Dl hD => by
  have hf := a.fits
  refine ⟨fun i m H => m = n - i ∧ i ≤ n ∧ ∃ ds, LcOk c Pe i ds ∧ At B ρ ((Dl, .lst ds) :: μ) τ1 σ H, ⟨n, by omega, Nat.zero_le _, [], rfl, (At.newCell (c := .lst []) (o := .lst []) a1 hD fun G _ => ⟨[], upd_same, rfl⟩).1⟩, fun i m H2 hW => ?_⟩
  obtain ⟨rfl, hin, ds, hds, a2⟩ := hW
  obtain ⟨s1, s2⟩ := hJ i ρ _ τ1 σ H2 (fun _ z => z) a2
  by_cases hlt : i < n
  · obtain ⟨s3, s4⟩ := s2 hlt
    refine .inr ⟨s3, fun H => ∃ ds, LcOk c Pe (i + 1) ds ∧ At B ρ ((Dl, .lst ds) :: μ) τ1 σ H, fun H' ⟨ds, h1, h2⟩ => ⟨n - (i + 1), by omega, rfl, hlt, ds, h1, h2⟩, fun x H3 hy => ?_⟩
    refine hg i hlt _ τ1 (wipe σ vs) H3 x (At.wiped (s4 x H3 hy) vs) _ fun σ' a3 hl3 hk3 => ⟨wipe_ext hjs hl3 hk3, ?_⟩
    refine ht i hlt _ τ1 σ' H3 a3 _ fun b H4 hb a4 => ?_
    subst hb
    cases hc : c i with
    | true =>
      refine (he i hlt hc _).go a4 fun y H5 dy hdy a5 => ?_
      obtain ⟨G, g5, vs5, e5, k5⟩ := a5.cell (j := 0) rfl
      refine ⟨vs5, e5, ?_, ds ++ [dy], ?_, ?_⟩
      · rw [k5.length]
        exact Nat.lt_of_le_of_lt (LcOk.len hds) (Nat.lt_of_lt_of_le hlt (Nat.le_trans hn (by decide)))
      · unfold LcOk
        rw [if_pos hc]
        exact ⟨ds, dy, rfl, hds, hdy⟩
      · have a6 : At B (ρi i) ((Dl, .lst (ds ++ [dy])) :: μ) ((y, dy) :: τ1) σ' (upd H5 Dl (.lst (vs5 ++ [y]))) := At.write (j := 0) (c' := .lst (ds ++ [dy])) a5 rfl fun G k1 ⟨vs6, e6, k6⟩ => by
          rw [e5] at e6
          cases e6
          exact ⟨_, upd_same, k6.append ⟨y, [], rfl, k1 _ (List.mem_cons_self ..), rfl⟩⟩
        exact At.restore hf a6.pop fun q hq => hsub q (List.mem_append_left _ hq)
    | false =>
      refine ⟨ds, ?_, At.restore hf a4 fun q hq => hsub q (List.mem_append_left _ hq)⟩
      unfold LcOk
      rw [hc, if_neg Bool.false_ne_true]
      exact hds
  · have e : i = n := by omega
    subst e
    refine .inl ⟨s1 (Nat.le_refl _), ?_⟩
    exact q _ H2 _ (hP ds hds) (a2.freeze.sub fun z hz => by
      rcases List.mem_cons.mp hz with e | e
      · rw [e]; exact List.mem_cons_self ..
      · exact List.mem_cons_of_mem _ (hsub z (List.mem_append_right _ e)))
theorem eb_yes : Eb B tYes ρ μ true := fun τ σ H a Q q => q true H rfl a
/-- no test, the target a name -/
theorem ev_lc0 {wi : TI} {k : Nat} {vs : List Nat} {n : Nat} {f : Nat → D} (hi : Ei B wi ρ μ n f) (hk : k ∈ vs) (hn : n ≤ 1000000) (Pe : Nat → D → Prop) (he : ∀ i, i < n → ∀ cl, Ev B te ((wipeR ρ vs).set k (some (f i))) (cl :: μ) (Pe i))
    (hP : ∀ ds : List D, ds.length = n → (∀ i d, ds[i]? = some d → Pe i d) → P (.lst ds)) : Ev B (tLc wi (gName k) tYes te vs) ρ μ P :=
  ev_lc hi (fun i => (wipeR ρ vs).set k (some (f i))) (js := [k]) (fun z hz => by rw [List.mem_singleton.mp hz]; exact hk) hn (fun _ => true) Pe (fun i _ cl => gd_name k) (fun _ _ _ => eb_yes) (fun i hi _ cl => he i hi cl) fun ds h => hP ds h.all.1 h.all.2
theorem ed_lc0 {wi : TI} {k : Nat} {vs : List Nat} {n : Nat} {f h : Nat → D} (hi : Ei B wi ρ μ n f) (hk : k ∈ vs) (hn : n ≤ 1000000) (he : ∀ i, i < n → ∀ cl, Ed B te ((wipeR ρ vs).set k (some (f i))) (cl :: μ) (h i)) : Ed B (tLc wi (gName k) tYes te vs) ρ μ (.lst ((List.range n).map h)) :=
  ev_lc hi (fun i => (wipeR ρ vs).set k (some (f i))) (js := [k]) (fun z hz => by rw [List.mem_singleton.mp hz]; exact hk) hn (fun _ => true) (fun i d => d = h i) (fun i _ cl => gd_name k) (fun _ _ _ => eb_yes) (fun i hi _ cl => he i hi cl) fun ds h => by
    rw [h.det, List.filter_eq_self.mpr fun _ _ => rfl]
theorem ed_lcT {wi : TI} {k : Nat} {vs : List Nat} {n : Nat} {f h : Nat → D} (c : Nat → Bool) (hi : Ei B wi ρ μ n f) (hk : k ∈ vs) (hn : n ≤ 1000000) (ht : ∀ i, i < n → ∀ cl, Eb B tt ((wipeR ρ vs).set k (some (f i))) (cl :: μ) (c i)) (he : ∀ i, i < n → c i = true → ∀ cl, Ed B te ((wipeR ρ vs).set k (some (f i))) (cl :: μ) (h i)) : Ed B (tLc wi (gName k) tt te vs) ρ μ (.lst (((List.range n).filter c).map h)) :=
  ev_lc hi (fun i => (wipeR ρ vs).set k (some (f i))) (js := [k]) (fun z hz => by rw [List.mem_singleton.mp hz]; exact hk) hn c (fun i d => d = h i) (fun i _ cl => gd_name k) ht he fun ds h => by rw [h.det]
theorem map_range_getD (h : D → D) (ds : List D) : (List.range ds.length).map (fun i => h (ds.getD i .non)) = ds.map h := by
  refine List.ext_getElem? fun i => ?_
  rw [List.getElem?_map, List.getElem?_map]
  by_cases hi : i < ds.length
  · rw [List.getElem?_range hi, getD_of hi]; rfl
  · rw [List.getElem?_eq_none (by simpa using hi), List.getElem?_eq_none (by simpa using hi)]; rfl
end
end Cal


namespace Cal
open PySem PySem.Spec PyProof.Rows L2
/-! ### operators of many kinds -/
section
variable {X : Cx}
def rAddU (K : PySem.W.Frag) : R2 := fun x y H Q => rI0 (fun i j => V.int (i + j)) x y H Q ∨ (∃ i j, x = V.str i ∧ y = V.str j ∧ i.length + j.length ≤ sizeLine ∧ Q (V.str (i ++ j)) H) ∨ rCatA K x y H Q ∨ rCat x y H Q
theorem u_add : OpR X (binaryOp .Add) (rAddU X.K) := OpR.or op_add (OpR.or op_add_str (OpR.or op_catA op_cat))
def rMulU : R2 := rI CMul fun i j => .int (i * j)
theorem u_mul : OpR X (binaryOp .Mult) rMulU := op_mul
def rLtU : R2 := fun x y H Q => rI0 (fun i j => .bl (decide (i < j))) x y H Q ∨ ∃ i j, x = .str i ∧ y = .str j ∧ Q (.bl (decide (i.cps.toList < j.cps.toList))) H
theorem u_lt : OpR X (compareOp .Lt) rLtU := OpR.or op_lt op_lt_str
def rLeU : R2 := fun x y H Q => rI0 (fun i j => .bl (decide (i ≤ j))) x y H Q ∨ ∃ i j, x = .str i ∧ y = .str j ∧ Q (.bl !decide (j.cps.toList < i.cps.toList)) H
theorem u_le : OpR X (compareOp .LtE) rLeU := OpR.or op_le op_le_str
def rGeU : R2 := fun x y H Q => rI0 (fun i j => .bl (decide (j ≤ i))) x y H Q ∨ ∃ i j, x = .str i ∧ y = .str j ∧ Q (.bl !decide (i.cps.toList < j.cps.toList)) H
theorem u_ge : OpR X (compareOp .GtE) rGeU := OpR.or op_ge op_ge_str
theorem u_eq (hu : X.A.units + 64 < cLine) : OpR X (compareOp .Eq) (rEqD X.K) := op_eqD hu
theorem u_ne (hu : X.A.units + 64 < cLine) : OpR X (compareOp .NotEq) (rNeD X.K) := op_neD hu
theorem u_neg : UnR X (unaryOp .USub) (rU fun i => .int (-i)) := un_neg
def rSlU (K : PySem.W.Frag) : V → Option Int → Option Int → Hp → VK → Prop := fun x lo hi H Q => rSlA K x lo hi H Q ∨ rSlL K x lo hi H Q ∨ rSlS x lo hi H Q
theorem u_sl : SlR X (rSlU X.K) := SlR.or sl_tupA (SlR.or sl_list sl_str)
def rLenU (K : PySem.W.Frag) : List V → Hp → VK → Prop := fun xs H Q => (∃ p ys, xs = [.ref p] ∧ (SqL K H p ys ∨ SqT K H p ys) ∧ Q (.int ys.length) H) ∨ ∃ z, xs = [.str z] ∧ z.length ≤ sizeLine ∧ Q (.int z.length) H
theorem u_len : CallR X (.builtin "len") (rLenU X.K) := CallR.or call_len_seq call_len_str
def rSortU2 (K : PySem.W.Frag) : List V → Hp → VK → Prop := fun xs H Q => rSorted K xs H Q ∨ rSortedS K xs H Q
theorem u_sorted : CallR X (.builtin "sorted") (rSortU2 X.K) := CallR.or cr_sorted cr_sortedS
end
/-! ### data as the library's -/
def pyKey : Key → PyData
  | .inl i => .int i | .inr s => .str s
mutual
def py : D → PyData
  | .non => .none | .bl b => .bool b | .int i => .int i | .str s => .str s | .raw _ => .none
  | .lst ds => .list (pyA ds) | .tup ds => .tuple (pyA ds) | .dk kvs => .dict (pyK kvs) | .dt _ => .none | .obj _ _ => .none
def pyA : List D → List PyData
  | [] => [] | d :: ds => py d :: pyA ds
def pyK : List (Key × D) → List (PyData × PyData)
  | [] => [] | (k, d) :: r => (pyKey k, py d) :: pyK r
end
mutual
/-- no dict, no raw thing -/
def plain : D → Bool
  | .lst ds => plainA ds | .tup ds => plainA ds | .dk _ => false | .dt _ => false | .obj _ _ => false | .raw _ => false
  | .non => true | .bl _ => true | .int _ => true | .str s => PyData.strOk s
def plainA : List D → Bool
  | [] => true | d :: ds => plain d && plainA ds
end
mutual
theorem Dt.dp {K : PySem.W.Frag} {G H : Hp} (e : Same G H) : ∀ (d : D) {v : V}, plain d = true → Dt K G d v → Dp K H v (py d)
  | .non, _, _, h => by rw [show _ = V.non from h]; exact .non
  | .bl b, _, _, h => by rw [show _ = V.bl b from h]; exact .bl b
  | .int i, _, _, h => by rw [show _ = V.int i from h]; exact .int i
  | .str s, _, _, h => by rw [show _ = V.str s from h]; exact .str s
  | .raw u, _, p, _ => by simp [plain] at p
  | .lst ds, _, p, ⟨a, vs, r, s, t⟩ => by
    rw [r]; exact .lst (.inl (.inl (e _ _ s))) (DtA.dp e ds (by simpa [plain] using p) t)
  | .tup ds, _, p, ⟨a, vs, r, s, t⟩ => by
    rw [r]; exact .tup (.inl (.inl (e _ _ s))) (DtA.dp e ds (by simpa [plain] using p) t)
  | .dk ds, _, p, _ => by simp [plain] at p
  | .dt ds, _, p, _ => by simp [plain] at p
  | .obj _ _, _, p, _ => by simp [plain] at p
theorem DtA.dp {K : PySem.W.Frag} {G H : Hp} (e : Same G H) : ∀ (ds : List D) {vs : List V}, plainA ds = true → DtA K G ds vs → DpAll K H vs (pyA ds)
  | [], _, _, h => by rw [show _ = [] from h]; exact .nil
  | d :: ds, _, p, ⟨v, r, q, s, t⟩ => by
    have p' : plain d = true ∧ plainA ds = true := by simpa [plainA] using p
    rw [q]; exact .cons (Dt.dp e d p'.1 s) (DtA.dp e ds p'.2 t)
end
mutual
theorem canLay_py : ∀ d : D, plain d = true → (py d).canLay0 = true
  | .non, _ => by simp [py, PyData.canLay0]
  | .bl b, _ => by simp [py, PyData.canLay0]
  | .int i, _ => by simp [py, PyData.canLay0]
  | .str s, h => by simpa [py, PyData.canLay0, plain] using h
  | .raw u, p => by simp [plain] at p
  | .lst ds, p => by simpa [py, PyData.canLay0] using canLay_pyA ds (by simpa [plain] using p)
  | .tup ds, p => by simpa [py, PyData.canLay0] using canLay_pyA ds (by simpa [plain] using p)
  | .dk ds, p => by simp [plain] at p
  | .dt ds, p => by simp [plain] at p
  | .obj _ _, p => by simp [plain] at p
theorem canLay_pyA : ∀ ds : List D, plainA ds = true → PyData.canLayAll0 (pyA ds) = true
  | [], _ => by simp [pyA, PyData.canLayAll0]
  | d :: ds, p => by
    have p' : plain d = true ∧ plainA ds = true := by simpa [plainA] using p
    simp [pyA, PyData.canLayAll0, canLay_py d p'.1, canLay_pyA ds p'.2]
end
mutual
def dep : D → Nat
  | .lst ds => depA ds + 1 | .tup ds => depA ds + 1 | .dk kvs => depK kvs + 1 | _ => 0
def depA : List D → Nat
  | [] => 0 | d :: ds => max (dep d) (depA ds)
def depK : List (Key × D) → Nat
  | [] => 0 | (_, d) :: r => max (dep d) (depK r)
end
theorem depth_key (k : Key) : (pyKey k).depth = 0 := by cases k <;> rfl
mutual
theorem depth_py : ∀ d : D, (py d).depth = dep d
  | .non => rfl
  | .bl b => rfl
  | .int i => rfl
  | .str s => rfl
  | .raw u => rfl
  | .lst ds => by simp only [py, PyData.depth, dep, depth_pyA ds]
  | .tup ds => by simp only [py, PyData.depth, dep, depth_pyA ds]
  | .dk ds => by simp only [py, PyData.depth, dep, depth_pyK ds]
  | .dt ds => rfl
  | .obj _ _ => rfl
theorem depth_pyA : ∀ ds : List D, PyData.depthAll (pyA ds) = depA ds
  | [] => rfl
  | d :: ds => by simp only [pyA, PyData.depthAll, depA, depth_py d, depth_pyA ds]
theorem depth_pyK : ∀ ds : List (Key × D), PyData.depthKv (pyK ds) = depK ds
  | [] => rfl
  | (k, d) :: r => by simp only [pyK, PyData.depthKv, depK, depth_key k, depth_py d, depth_pyK r, Nat.zero_max]
end
theorem shaped_py {d : D} (h : plain d = true) (k : dep d ≤ 64) : SeqAt.shaped (py d) = true := by
  unfold SeqAt.shaped
  rw [canLay_py d h, depth_py d, decide_eq_true k]; rfl
def eqD (d e : D) : Bool := PyData.eqv (py d) (py e)
section
variable {B : Bs} {ρ ρ' : Ro} {μ μ' : Mu} {τ : List (V × D)} {σ σ2 : L2.St} {H : Hp} {ta tb tc te tx : TE} {tt tu : TT} {P P1 P2 P3 : D → Prop} {d d1 d2 d3 e : D} {r r' : R2} {R R1 : D → Mu → Prop} {i j : Int} {b : Bool} {v : V} {E : XK} {p : Addr} {ds es : List D}
theorem rd_eqD (h1 : plain d1 = true) (h2 : plain d2 = true) (k1 : dep d1 ≤ 64) (k2 : dep d2 ≤ 64) : RD B (rEqD B.K) ρ μ d1 d2 (fun e => e = .bl (eqD d1 d2)) := rd_flat (fun _ => rfl) fun G H x y s a b Q q =>
  ⟨py d1, py d2, a.dp s d1 h1, b.dp s d2 h2, shaped_py h1 k1, shaped_py h2 k2, q⟩
theorem rd_neD (h1 : plain d1 = true) (h2 : plain d2 = true) (k1 : dep d1 ≤ 64) (k2 : dep d2 ≤ 64) : RD B (rNeD B.K) ρ μ d1 d2 (fun e => e = .bl (!eqD d1 d2)) := rd_flat (fun _ => rfl) fun G H x y s a b Q q =>
  ⟨py d1, py d2, a.dp s d1 h1, b.dp s d2 h2, shaped_py h1 k1, shaped_py h2 k2, q⟩
theorem rd_lt_str {s t : Str} : RD B (fun x y H Q => ∃ i j, x = .str i ∧ y = .str j ∧ Q (.bl (decide (i.cps.toList < j.cps.toList))) H) ρ μ (.str s) (.str t) (fun e => e = .bl (decide (s.cps.toList < t.cps.toList))) := rd_flat (fun _ => rfl) fun G H x y _ a b Q q => ⟨s, t, a, b, q⟩
theorem rd_add_str {s t : Str} (h : s.length + t.length ≤ sizeLine) : RD B (fun x y H Q => ∃ i j, x = .str i ∧ y = .str j ∧ i.length + j.length ≤ sizeLine ∧ Q (.str (i ++ j)) H) ρ μ (.str s) (.str t) (fun e => e = .str (s ++ t)) := rd_flat (fun _ => rfl) fun G H x y _ a b Q q => ⟨s, t, a, b, h, q⟩
/-- tuples glued -/
theorem rd_catA (h : ds.length + es.length ≤ sizeLine) : RD B (rCatA B.K) ρ μ (.tup ds) (.tup es) (fun e => e = .tup (ds ++ es)) := fun τ σ H x y a Q q => by
  obtain ⟨G, g, ⟨p, vs, rfl, e1, k1⟩, ⟨p', us, rfl, e2, k2⟩⟩ := a.two
  refine ⟨p, p', vs, us, rfl, rfl, .inl (.inl (g.sub _ _ e1)), .inl (.inl (g.sub _ _ e2)), by rw [k1.length, k2.length]; exact h, fun z => ?_, fun z1 z2 => ?_, fun z1 z2 q' hq' => ?_⟩
  · have : ds = [] := List.eq_nil_of_length_eq_zero (by rw [← k1.length, z]; rfl)
    subst this
    exact q _ H _ rfl ⟨G, g.push ⟨p', us, rfl, e2, k2⟩⟩
  · have : es = [] := List.eq_nil_of_length_eq_zero (by rw [← k2.length, z2]; rfl)
    subst this
    exact q _ H _ rfl ⟨G, g.push ⟨p, vs, rfl, e1, by rw [List.append_nil]; exact k1⟩⟩
  · exact q _ _ _ rfl (g.newTup hq' (k1.append k2))
end
end Cal


namespace Cal
open PySem PySem.Spec PyProof.Rows L2
section
variable {B : Bs} {ρ ρ' : Ro} {μ μ' : Mu} {τ : List (V × D)} {σ σ2 : L2.St} {H : Hp} {ta tb tc te tx : TE} {tt tu : TT} {P P1 P2 P3 : D → Prop} {d d1 d2 d3 e : D} {r r' : R2} {R R1 : D → Mu → Prop} {i j : Int} {b : Bool} {v : V} {E : XK} {p : Addr} {ds es : List D}
theorem rd_addI : RD B (rAddU B.K) ρ μ (.int i) (.int j) (fun e => e = .int (i + j)) := RD.inl rd_add
theorem rd_addS {s t : Str} (h : s.length + t.length ≤ sizeLine) : RD B (rAddU B.K) ρ μ (.str s) (.str t) (fun e => e = .str (s ++ t)) := RD.inr (RD.inl (rd_add_str h))
theorem rd_addT (h : ds.length + es.length ≤ sizeLine) : RD B (rAddU B.K) ρ μ (.tup ds) (.tup es) (fun e => e = .tup (ds ++ es)) := RD.inr (RD.inr (RD.inl (rd_catA h)))
theorem rd_addL (h : ds.length + es.length ≤ sizeLine) : RD B (rAddU B.K) ρ μ (.lst ds) (.lst es) (fun e => e = .lst (ds ++ es)) := fun τ σ H x y a Q q => by
  obtain ⟨G, g, ⟨p, vs, rfl, e1, k1⟩, ⟨p', us, rfl, e2, k2⟩⟩ := a.two
  exact .inr (.inr (.inr ⟨p, p', vs, us, rfl, rfl, g.sub _ _ e1, g.sub _ _ e2, by rw [k1.length, k2.length]; exact h, fun q' hq' => q _ _ _ rfl (g.newLst hq' (k1.append k2))⟩))
theorem rd_mulI (h : CMul i j) : RD B rMulU ρ μ (.int i) (.int j) (fun e => e = .int (i * j)) := rd_mul h
theorem rd_ltI : RD B rLtU ρ μ (.int i) (.int j) (fun e => e = .bl (decide (i < j))) := RD.inl rd_lt
theorem rd_ltS {s t : Str} : RD B rLtU ρ μ (.str s) (.str t) (fun e => e = .bl (decide (s.cps.toList < t.cps.toList))) := RD.inr rd_lt_str
theorem rd_leI : RD B rLeU ρ μ (.int i) (.int j) (fun e => e = .bl (decide (i ≤ j))) := RD.inl rd_le
theorem rd_leS {s t : Str} : RD B rLeU ρ μ (.str s) (.str t) (fun e => e = .bl (!decide (t.cps.toList < s.cps.toList))) := RD.inr (rd_flat (fun _ => rfl) fun G H x y _ a b Q q => ⟨s, t, a, b, q⟩)
theorem rd_geI : RD B rGeU ρ μ (.int i) (.int j) (fun e => e = .bl (decide (j ≤ i))) := RD.inl rd_ge
theorem rd_geS {s t : Str} : RD B rGeU ρ μ (.str s) (.str t) (fun e => e = .bl (!decide (s.cps.toList < t.cps.toList))) := RD.inr (rd_flat (fun _ => rfl) fun G H x y _ a b Q q => ⟨s, t, a, b, q⟩)
theorem ru_neg : RU B (rU fun i => .int (-i)) ρ μ (.int i) (fun e => e = .int (-i)) := ru_flat (fun _ => rfl) fun G H x _ h Q q => ⟨i, h, q⟩
/-! len -/
theorem one_arg {K : PySem.W.Frag} {G : Hp} {d : D} {xs : List V} (h : DtA K G [d] xs) : ∃ v, xs = [v] ∧ Dt K G d v := by
  obtain ⟨v, r, rfl, h1, h2⟩ := h
  exact ⟨v, by rw [show r = [] from h2], h1⟩
theorem two_args {K : PySem.W.Frag} {G : Hp} {d1 d2 : D} {xs : List V} (h : DtA K G [d1, d2] xs) : ∃ v w, xs = [v, w] ∧ Dt K G d1 v ∧ Dt K G d2 w := by
  obtain ⟨v, r, rfl, h1, h2⟩ := h
  obtain ⟨w, rfl, h3⟩ := one_arg h2
  exact ⟨v, w, rfl, h1, h3⟩
theorem rc_lenT : RC B (rLenU B.K) ρ μ [.tup ds] (fun e => e = .int ds.length) := rc_flat (fun _ => rfl) fun G H xs s h Q q => by
  obtain ⟨v, rfl, p, vs, rfl, e, k⟩ := one_arg h
  rw [← k.length] at q
  exact .inl ⟨p, vs, rfl, .inr (.inl (.inl (s _ _ e))), q⟩
theorem rc_lenL : RC B (rLenU B.K) ρ μ [.lst ds] (fun e => e = .int ds.length) := rc_flat (fun _ => rfl) fun G H xs s h Q q => by
  obtain ⟨v, rfl, p, vs, rfl, e, k⟩ := one_arg h
  rw [← k.length] at q
  exact .inl ⟨p, vs, rfl, .inl (.inl (.inl (s _ _ e))), q⟩
theorem rc_lenS {s : Str} (hs : s.length ≤ sizeLine) : RC B (rLenU B.K) ρ μ [.str s] (fun e => e = .int s.length) := rc_flat (fun _ => rfl) fun G H xs _ h Q q => by
  obtain ⟨v, rfl, hv⟩ := one_arg h
  exact .inr ⟨s, by rw [show v = V.str s from hv], hs, q⟩
/-- of a cell -/
theorem rc_lenC {k : Nat} (hm : μ[k]? = some (p, .lst ds)) : RC B (rLenU B.K) ρ μ [.raw (.ref p)] (fun e => e = .int ds.length) := fun τ σ H xs hl a Q q => by
  obtain ⟨G, g, h⟩ := a.args hl
  obtain ⟨v, rfl, hv⟩ := one_arg h
  obtain ⟨vs, e, k⟩ := (g.cells _ (List.mem_of_getElem? hm)).2.2.2
  refine .inl ⟨p, vs, by rw [show v = V.ref p from hv], .inl (.inl (.inl e)), ?_⟩
  rw [k.length]
  exact q _ H _ rfl (At.flat ⟨G, g⟩ fun _ => rfl)
/-! isinstance -/
def tyD : D → String
  | .non => "NoneType" | .bl _ => "bool" | .int _ => "int" | .str _ => "str" | .lst _ => "list" | .tup _ => "tuple" | .dk _ => "dict" | .dt _ => "dict" | .raw _ => "" | .obj _ _ => ""
theorem tyX_of {K : PySem.W.Frag} {G H : Hp} (s : Same G H) : ∀ {d : D} {v : V}, tyD d ≠ "" → Dt K G d v → TyX K H v (.type (tyD d))
  | .non, v, _, h => by rw [show v = .non from h]; exact .base .non
  | .bl b, v, _, h => by rw [show v = .bl b from h]; exact .base (.bl b)
  | .int i, v, _, h => by rw [show v = .int i from h]; exact .base (.int i)
  | .str t, v, _, h => by rw [show v = .str t from h]; exact .base (.str t)
  | .lst ds, v, _, ⟨a, vs, r, e, k⟩ => by rw [r]; exact .base (.lst (s _ _ e))
  | .tup ds, v, _, ⟨a, vs, r, e, k⟩ => by rw [r]; exact .base (.tup (s _ _ e))
  | .dk ds, v, _, ⟨a, vs, r, e, k⟩ => by rw [r]; exact .base (.dK (s _ _ e))
  | .dt ds, v, _, ⟨a, vs, r, e, k⟩ => by rw [r]; exact .base (.dT (s _ _ e))
  | .raw u, v, n, _ => absurd rfl n
  | .obj _ _, v, n, _ => absurd rfl n
theorem rc_isi {T : String} {b : Bool} (hn : tyD d ≠ "") (h : kitB (tyD d) T = some b) : RC B (rIsi B.K) ρ μ [d, .raw (.ty T)] (fun e => e = .bl b) := rc_flat (fun _ => rfl) fun G H xs s k Q q => by
  obtain ⟨v, w, rfl, h1, h2⟩ := two_args k
  exact ⟨v, w, _, _, b, rfl, by rw [show w = V.ty T from h2]; exact .ty T, tyX_of s hn h1, kit_ty h, q⟩
/-! all, any, int, min, max -/
theorem rc_all {bs : List Bool} : RC B (rAll B.K) ρ μ [.lst (bs.map D.bl)] (fun e => e = .bl (bs.all id)) := rc_flat (fun _ => rfl) fun G H xs s h Q q => by
  obtain ⟨v, rfl, p, vs, rfl, e, k⟩ := one_arg h
  exact ⟨p, bs, rfl, .inl (.inl (by rw [← k.bls]; exact s _ _ e)), q⟩
theorem rc_any {bs : List Bool} : RC B (rAny B.K) ρ μ [.lst (bs.map D.bl)] (fun e => e = .bl (bs.any id)) := rc_flat (fun _ => rfl) fun G H xs s h Q q => by
  obtain ⟨v, rfl, p, vs, rfl, e, k⟩ := one_arg h
  exact ⟨p, bs, rfl, .inl (.inl (by rw [← k.bls]; exact s _ _ e)), q⟩
theorem rc_intI : RC B (fun xs H Q => (∃ i, xs = [.int i] ∧ Q (.int i) H) ∨ ∃ k, xs = [.bl k] ∧ Q (.int (if k then 1 else 0)) H) ρ μ [.int i] (fun e => e = .int i) := rc_flat (fun _ => rfl) fun G H xs s h Q q => by
  obtain ⟨v, rfl, hv⟩ := one_arg h
  exact .inl ⟨i, by rw [show v = V.int i from hv], q⟩
theorem rc_max : RC B (fun xs H Q => ∃ i j, xs = [.int i, .int j] ∧ Q (.int (if j > i then j else i)) H) ρ μ [.int i, .int j] (fun e => e = .int (max i j)) := rc_flat (fun _ => rfl) fun G H xs s h Q q => by
  obtain ⟨v, w, rfl, hv, hw⟩ := two_args h
  refine ⟨i, j, by rw [show v = V.int i from hv, show w = V.int j from hw], ?_⟩
  have : (if j > i then j else i) = max i j := by split <;> omega
  rw [this]; exact q
theorem rc_min : RC B (fun xs H Q => ∃ i j, xs = [.int i, .int j] ∧ Q (.int (if j < i then j else i)) H) ρ μ [.int i, .int j] (fun e => e = .int (min i j)) := rc_flat (fun _ => rfl) fun G H xs s h Q q => by
  obtain ⟨v, w, rfl, hv, hw⟩ := two_args h
  refine ⟨i, j, by rw [show v = V.int i from hv, show w = V.int j from hw], ?_⟩
  have : (if j < i then j else i) = min i j := by split <;> omega
  rw [this]; exact q
/-! parts of a slice -/
def Eo (B : Bs) (to : TO) (ρ : Ro) (μ : Mu) (o : Option Int) : Prop := ∀ (τ : List (V × D)) (σ : L2.St) (H : Hp), At B ρ μ τ σ H → ∀ Q : Option Int → Hp → Prop, (∀ H', At B ρ μ τ σ H' → Q o H') → to σ H Q
theorem eo_none : Eo B tNoPart ρ μ none := fun τ σ H a Q q => q H a
theorem eo_some (h : Ed B te ρ μ (.int i)) : Eo B (tPart te) ρ μ (some i) := fun τ σ H a Q q => h.go a fun v H' d hd a' => by
  subst hd
  obtain ⟨G, g, hv⟩ := a'.top
  exact ⟨i, hv, q H' ⟨G, g⟩⟩
def cutD (ds : List D) (lo hi : Option Int) : List D := (ds.drop (HT.sIx ds.length 0 lo)).take (HT.sIx ds.length ds.length hi - HT.sIx ds.length 0 lo)
theorem DtA.cut {K : PySem.W.Frag} {G : Hp} {vs : List V} {lo hi : Option Int} (h : DtA K G ds vs) : DtA K G (cutD ds lo hi) (cutV vs lo hi) := by
  unfold cutD cutV
  rw [h.length]
  exact (h.drop _).take _
theorem ed_slT {tl th : TO} {lo hi : Option Int} (h : Ed B te ρ μ (.tup ds)) (hl : Eo B tl ρ μ lo) (hh : Eo B th ρ μ hi) : Ed B (tSl (rSlU B.K) te tl th) ρ μ (.tup (cutD ds lo hi)) := Ev.mk fun τ σ H a Q q => h.go a fun v H1 d hd a1 => hl _ σ H1 a1 _ fun H2 a2 => hh _ σ H2 a2 _ fun H3 a3 => by
  subst hd
  obtain ⟨G, g, p, vs, rfl, e, k⟩ := a3.top
  refine .inl ⟨p, vs, rfl, .inl (.inl (g.sub _ _ e)), fun z => ?_, fun z p' hp' => q _ _ _ rfl (g.newTup hp' k.cut)⟩
  have : cutD ds lo hi = ds := by
    unfold cutD
    rw [k.length] at z
    rw [z.1, z.2, List.drop_zero, Nat.sub_zero, List.take_length]
  rw [this] at q
  exact q _ H3 _ rfl ⟨G, g.push ⟨p, vs, rfl, e, k⟩⟩
theorem ed_slL {tl th : TO} {lo hi : Option Int} (h : Ed B te ρ μ (.lst ds)) (hl : Eo B tl ρ μ lo) (hh : Eo B th ρ μ hi) : Ed B (tSl (rSlU B.K) te tl th) ρ μ (.lst (cutD ds lo hi)) := Ev.mk fun τ σ H a Q q => h.go a fun v H1 d hd a1 => hl _ σ H1 a1 _ fun H2 a2 => hh _ σ H2 a2 _ fun H3 a3 => by
  subst hd
  obtain ⟨G, g, p, vs, rfl, e, k⟩ := a3.top
  exact .inr (.inl ⟨p, vs, rfl, .inl (.inl (g.sub _ _ e)), fun p' hp' => q _ _ _ rfl (g.newLst hp' k.cut)⟩)
theorem ed_slS {s : Str} {tl th : TO} {lo hi : Option Int} (h : Ed B te ρ μ (.str s)) (hl : Eo B tl ρ μ lo) (hh : Eo B th ρ μ hi) (hs : s.length ≤ sizeLine) : Ed B (tSl (rSlU B.K) te tl th) ρ μ (.str (cutS s lo hi)) := Ev.mk fun τ σ H a Q q => h.go a fun v H1 d hd a1 => hl _ σ H1 a1 _ fun H2 a2 => hh _ σ H2 a2 _ fun H3 a3 => by
  subst hd
  obtain ⟨G, g, hv⟩ := a3.top
  exact .inr (.inr ⟨s, hv, hs, q _ H3 _ rfl (At.flat ⟨G, g⟩ fun _ => rfl)⟩)
/-! an item -/
theorem DtA.at {K : PySem.W.Frag} {G : Hp} {vs : List V} (h : DtA K G ds vs) (k : atI ds i = some d) : ∃ v, atI vs i = some v ∧ Dt K G d v := by
  unfold atI at k ⊢
  rw [h.length]
  cases e : ixN ds.length i with
  | none => rw [e] at k; cases k
  | some n => rw [e] at k; exact h.get k
theorem rd_ixT (h : atI ds i = some d) : RD B (rIx B.K) ρ μ (.tup ds) (.int i) (fun e => e = d) := fun τ σ H x y a Q q => by
  obtain ⟨G, g, ⟨p, vs, rfl, e1, k1⟩, hy⟩ := a.two
  obtain ⟨v, h1, h2⟩ := k1.at h
  exact .inr (.inl ⟨p, vs, i, v, rfl, hy, .inl (.inl (g.sub _ _ e1)), h1, q v H d rfl ⟨G, g.push h2⟩⟩)
theorem rd_ixL (h : atI ds i = some d) : RD B (rIx B.K) ρ μ (.lst ds) (.int i) (fun e => e = d) := fun τ σ H x y a Q q => by
  obtain ⟨G, g, ⟨p, vs, rfl, e1, k1⟩, hy⟩ := a.two
  obtain ⟨v, h1, h2⟩ := k1.at h
  exact .inl ⟨p, vs, i, v, rfl, hy, .inl (.inl (g.sub _ _ e1)), h1, q v H d rfl ⟨G, g.push h2⟩⟩
theorem rd_ixC {k : Nat} (hm : μ[k]? = some (p, .lst ds)) (h : atI ds i = some d) : RD B (rIx B.K) ρ μ (.raw (.ref p)) (.int i) (fun e => e = d) := fun τ σ H x y a Q q => by
  obtain ⟨G, g, hx, hy⟩ := a.two
  obtain ⟨vs, e, k⟩ := (g.cells _ (List.mem_of_getElem? hm)).2.2.2
  obtain ⟨v, h1, h2⟩ := k.at h
  exact .inl ⟨p, vs, i, v, hx, hy, .inl (.inl e), h1, q v H d rfl ⟨G, g.push h2⟩⟩
/-- an item that some draw tells -/
theorem rd_ixLP (h : 0 ≤ i ∧ i < ds.length) (hP : ∀ d ∈ ds, P d) : RD B (rIx B.K) ρ μ (.lst ds) (.int i) P := fun τ σ H x y a Q q => by
  have hi : i.toNat < ds.length := by omega
  have e : atI ds i = some (ds.getD i.toNat .non) := by
    unfold atI ixN
    rw [if_pos h.1, if_pos h.2]
    exact getD_of hi
  refine rd_ixL e τ σ H x y a Q fun v H' d' hd a' => q v H' d' ?_ a'
  rw [hd]
  exact hP _ (List.mem_of_getElem? (getD_of hi))
/-! zip of two tuples, enumerate of a list -/
theorem ei_zipT {t : TA} (h : Ea B t ρ μ (fun l => l = [.tup ds, .tup es])) : Ei B (RZ.iZipA B.K t) ρ μ (min ds.length es.length) (fun i => .tup [ds.getD i .non, es.getD i .non]) := fun τ σ H a Rr q => h τ σ H a _ fun vs H1 l hl hlen a1 => by
  subst hl
  obtain ⟨G, g, k⟩ := id (a1.args hlen)
  obtain ⟨v, w, rfl, ⟨p, xs, rfl, e1, k1⟩, ⟨p', ys, rfl, e2, k2⟩⟩ := two_args k
  refine ⟨p, p', xs, ys, rfl, .inr ⟨.inl (.inl (g.sub _ _ e1)), .inl (.inl (g.sub _ _ e2)), ?_⟩⟩
  refine q _ H1 _ (fun z hz => List.mem_append_right _ hz) a1 fun i ρ' μ' τ' σ' H' hsub a2 => ?_
  obtain ⟨G2, g2⟩ := id a2
  obtain ⟨q1, xs', c1, e3, k3⟩ := g2.temps (V.ref p, .tup ds) (hsub _ (by simp))
  obtain ⟨q2, ys', c2, e4, k4⟩ := g2.temps (V.ref p', .tup es) (hsub _ (by simp))
  cases c1; cases c2
  have s1 : SqT B.K H' p xs' := .inl (.inl (g2.sub _ _ e3))
  have s2 : SqT B.K H' p' ys' := .inl (.inl (g2.sub _ _ e4))
  refine ⟨fun hi => ⟨xs', ys', s1, s2, by rw [k3.length, k4.length]; omega⟩, fun hi => ?_⟩
  obtain ⟨x, hx, dx⟩ := k3.get (getD_of (show i < ds.length by omega))
  obtain ⟨y, hy, dy⟩ := k4.get (getD_of (show i < es.length by omega))
  refine ⟨⟨xs', ys', x, y, s1, s2, hx, hy⟩, fun z H2 hz => ?_⟩
  obtain ⟨T, x1, y1, rfl, nT, rfl, f1, f2⟩ := hz
  have ex : x = x1 := Option.some.inj (hx.symm.trans (f1 _ s1))
  have ey : y = y1 := Option.some.inj (hy.symm.trans (f2 _ s2))
  subst ex; subst ey
  exact g2.newTup nT ⟨x, _, rfl, dx, y, _, rfl, dy, rfl⟩
theorem ei_enumL {t : TA} (h : Ea B t ρ μ (fun l => l = [.lst ds])) : Ei B (iEnum B.K t) ρ μ ds.length (fun i => .tup [.int i, ds.getD i .non]) := fun τ σ H a Rr q => h τ σ H a _ fun vs H1 l hl hlen a1 => by
  subst hl
  obtain ⟨G, g, k⟩ := id (a1.args hlen)
  obtain ⟨v, rfl, p, xs, rfl, e1, k1⟩ := one_arg k
  refine ⟨p, xs, rfl, .inl (.inl (g.sub _ _ e1)), ?_⟩
  refine q _ H1 _ (fun z hz => List.mem_append_right _ hz) a1 fun i ρ' μ' τ' σ' H' hsub a2 => ?_
  obtain ⟨G2, g2⟩ := id a2
  obtain ⟨q1, xs', c1, e3, k3⟩ := g2.temps (V.ref p, .lst ds) (hsub _ (by simp))
  cases c1
  have s1 : SqL B.K H' p xs' := .inl (.inl (g2.sub _ _ e3))
  refine ⟨fun hi => ⟨xs', s1, by rw [k3.length]; omega⟩, fun hi => ?_⟩
  obtain ⟨x, hx, dx⟩ := k3.get (getD_of hi)
  refine ⟨⟨xs', x, s1, hx⟩, fun z H2 hz => ?_⟩
  obtain ⟨T, x1, rfl, nT, rfl, f1⟩ := hz
  have ex : x = x1 := Option.some.inj (hx.symm.trans (f1 _ s1))
  subst ex
  exact g2.newTup nT ⟨_, _, rfl, rfl, x, _, rfl, dx, rfl⟩
end
end Cal


namespace Cal
open PySem PySem.Spec PyProof.Rows L2
/-! ### small data -/
mutual
def Sm : D → Prop
  | .non => True | .bl _ => True | .int i => i.natAbs < 10 ^ 60 | .str s => s.length ≤ 1000000 ∧ PyData.strOk s = true | .raw _ => False
  | .lst ds => ds.length ≤ 1000000 ∧ SmA ds | .tup ds => ds.length ≤ 1000000 ∧ SmA ds | .dk kvs => SmK kvs | .dt _ => False | .obj _ _ => False
def SmA : List D → Prop
  | [] => True | d :: ds => Sm d ∧ SmA ds
def SmK : List (Key × D) → Prop
  | [] => True | (k, d) :: r => (match k with | .inl i => i.natAbs < 10 ^ 60 | .inr s => PyData.strOk s = true) ∧ Sm d ∧ SmK r
end
theorem SmA.all : ∀ {ds : List D}, SmA ds → ∀ d ∈ ds, Sm d
  | d :: ds, ⟨h, t⟩, e, he => by
    rcases List.mem_cons.mp he with r | r
    · rw [r]; exact h
    · exact SmA.all t e r
theorem SmA.of : ∀ {ds : List D}, (∀ d ∈ ds, Sm d) → SmA ds
  | [], _ => True.intro
  | d :: ds, h => ⟨h d (List.mem_cons_self ..), SmA.of fun e he => h e (List.mem_cons_of_mem _ he)⟩
theorem Sm.ty : ∀ {d : D}, Sm d → tyD d ≠ ""
  | .non, _ => by decide
  | .bl b, _ => by show "bool" ≠ ""; decide
  | .int i, _ => by show "int" ≠ ""; decide
  | .str s, _ => by show "str" ≠ ""; decide
  | .lst s, _ => by show "list" ≠ ""; decide
  | .tup s, _ => by show "tuple" ≠ ""; decide
  | .dk s, _ => by show "dict" ≠ ""; decide
  | .dt s, h => h.elim
  | .obj _ _, h => h.elim
  | .raw s, h => h.elim
def isI : D → Bool | .int _ => true | .bl _ => true | _ => false
def isBl : D → Bool | .bl _ => true | _ => false
def isS : D → Bool | .str _ => true | _ => false
def isT : D → Bool | .tup _ => true | _ => false
theorem isT_eq {d : D} (h : isT d = true) : ∃ ds, d = .tup ds := by cases d <;> first | exact ⟨_, rfl⟩ | cases h
theorem isS_eq {d : D} (h : isS d = true) : ∃ s, d = .str s := by cases d <;> first | exact ⟨_, rfl⟩ | cases h
theorem kit_int : ∀ {d : D}, tyD d ≠ "" → kitB (tyD d) "int" = some (isI d)
  | .non, _ => by decide +kernel
  | .bl b, _ => by show kitB "bool" "int" = some true; decide +kernel
  | .int i, _ => by show kitB "int" "int" = some true; decide +kernel
  | .str s, _ => by show kitB "str" "int" = some false; decide +kernel
  | .lst s, _ => by show kitB "list" "int" = some false; decide +kernel
  | .tup s, _ => by show kitB "tuple" "int" = some false; decide +kernel
  | .dk s, _ => by show kitB "dict" "int" = some false; decide +kernel
  | .dt s, _ => by show kitB "dict" "int" = some false; decide +kernel
  | .raw s, h => absurd rfl h
  | .obj _ _, h => absurd rfl h
theorem kit_bool : ∀ {d : D}, tyD d ≠ "" → kitB (tyD d) "bool" = some (isBl d)
  | .non, _ => by decide +kernel
  | .bl b, _ => by show kitB "bool" "bool" = some true; decide +kernel
  | .int i, _ => by show kitB "int" "bool" = some false; decide +kernel
  | .str s, _ => by show kitB "str" "bool" = some false; decide +kernel
  | .lst s, _ => by show kitB "list" "bool" = some false; decide +kernel
  | .tup s, _ => by show kitB "tuple" "bool" = some false; decide +kernel
  | .dk s, _ => by show kitB "dict" "bool" = some false; decide +kernel
  | .dt s, _ => by show kitB "dict" "bool" = some false; decide +kernel
  | .raw s, h => absurd rfl h
  | .obj _ _, h => absurd rfl h
theorem kit_str : ∀ {d : D}, tyD d ≠ "" → kitB (tyD d) "str" = some (isS d)
  | .non, _ => by decide +kernel
  | .bl b, _ => by show kitB "bool" "str" = some false; decide +kernel
  | .int i, _ => by show kitB "int" "str" = some false; decide +kernel
  | .str s, _ => by show kitB "str" "str" = some true; decide +kernel
  | .lst s, _ => by show kitB "list" "str" = some false; decide +kernel
  | .tup s, _ => by show kitB "tuple" "str" = some false; decide +kernel
  | .dk s, _ => by show kitB "dict" "str" = some false; decide +kernel
  | .dt s, _ => by show kitB "dict" "str" = some false; decide +kernel
  | .raw s, h => absurd rfl h
  | .obj _ _, h => absurd rfl h
theorem kit_tuple : ∀ {d : D}, tyD d ≠ "" → kitB (tyD d) "tuple" = some (isT d)
  | .non, _ => by decide +kernel
  | .bl b, _ => by show kitB "bool" "tuple" = some false; decide +kernel
  | .int i, _ => by show kitB "int" "tuple" = some false; decide +kernel
  | .str s, _ => by show kitB "str" "tuple" = some false; decide +kernel
  | .lst s, _ => by show kitB "list" "tuple" = some false; decide +kernel
  | .tup s, _ => by show kitB "tuple" "tuple" = some true; decide +kernel
  | .dk s, _ => by show kitB "dict" "tuple" = some false; decide +kernel
  | .dt s, _ => by show kitB "dict" "tuple" = some false; decide +kernel
  | .raw s, h => absurd rfl h
  | .obj _ _, h => absurd rfl h
section
variable {B : Bs} {ρ : Ro} {μ : Mu} {d d1 d2 d3 : D} {te ta tb tc : TE} {ds es : List D} {i j : Int} {P : D → Prop} {b : Bool}
theorem ed_isi {T : String} (he : Ed B te ρ μ d) (h : kitB (tyD d) T = some b) (hn : tyD d ≠ "") : Ed B (tCB (rIsi B.K) (tCons te (tCons (tC (.ty T)) tNil))) ρ μ (.bl b) := ed_cb (ead_cons he (ead_cons ed_raw ea_nil)) (rc_isi hn h)
theorem ed_isiI (he : Ed B te ρ μ d) (hn : tyD d ≠ "") : Ed B (tCB (rIsi B.K) (tCons te (tCons (tC (.ty "int")) tNil))) ρ μ (.bl (isI d)) := ed_isi he (kit_int hn) hn
theorem ed_isiB (he : Ed B te ρ μ d) (hn : tyD d ≠ "") : Ed B (tCB (rIsi B.K) (tCons te (tCons (tC (.ty "bool")) tNil))) ρ μ (.bl (isBl d)) := ed_isi he (kit_bool hn) hn
theorem ed_isiS (he : Ed B te ρ μ d) (hn : tyD d ≠ "") : Ed B (tCB (rIsi B.K) (tCons te (tCons (tC (.ty "str")) tNil))) ρ μ (.bl (isS d)) := ed_isi he (kit_str hn) hn
theorem ed_isiT (he : Ed B te ρ μ d) (hn : tyD d ≠ "") : Ed B (tCB (rIsi B.K) (tCons te (tCons (tC (.ty "tuple")) tNil))) ρ μ (.bl (isT d)) := ed_isi he (kit_tuple hn) hn
theorem ed_lenT (h : Ed B te ρ μ (.tup ds)) : Ed B (tCB (rLenU B.K) (tCons te tNil)) ρ μ (.int ds.length) := ed_cb (ead_cons h ea_nil) rc_lenT
theorem ed_lenL (h : Ed B te ρ μ (.lst ds)) : Ed B (tCB (rLenU B.K) (tCons te tNil)) ρ μ (.int ds.length) := ed_cb (ead_cons h ea_nil) rc_lenL
theorem ed_lenS {s : Str} (h : Ed B te ρ μ (.str s)) (hs : s.length ≤ sizeLine) : Ed B (tCB (rLenU B.K) (tCons te tNil)) ρ μ (.int s.length) := ed_cb (ead_cons h ea_nil) (rc_lenS hs)
theorem ed_all {bs : List Bool} {te : TE} (h : Ed B te ρ μ (.lst (bs.map D.bl))) : Ed B (tCB (rAll B.K) (tCons te tNil)) ρ μ (.bl (bs.all id)) := ed_cb (ead_cons h ea_nil) rc_all
theorem ed_allF {te : TE} {n : Nat} {f : Nat → Bool} (h : Ed B te ρ μ (.lst ((List.range n).map fun i => D.bl (f i)))) : Ed B (tCB (rAll B.K) (tCons te tNil)) ρ μ (.bl ((List.range n).all f)) := by
  have e : (List.range n).map (fun i => D.bl (f i)) = ((List.range n).map f).map D.bl := by rw [List.map_map]; rfl
  rw [e] at h
  have := ed_all h
  rw [List.all_map] at this
  exact this
/-- a pure def's call with one, two arguments -/
def psp (K : PySem.W.Frag) (pre : List D → Prop) (post : List D → D → Prop) : Sp := fsp K (fun _ => True) [] pre post
theorem ed_p {pre : List D → Prop} {post : List D → D → Prop} {t : TA} {E : XK} (h : Ea B t ρ μ (fun l => l = ds)) (hpre : pre ds) (hpost : ∀ e, post ds e → e = d) : Ed B (tCall (psp B.K pre post) [] E t) ρ μ d :=
  ev_callP h (fun l e => by rw [e]; exact hpre) fun l e he h => hpost e (by rw [← he]; exact h)
theorem ev_p {pre : List D → Prop} {post : List D → D → Prop} {t : TA} {E : XK} (h : Ea B t ρ μ (fun l => l = ds)) (hpre : pre ds) (hpost : ∀ e, post ds e → P e) : Ev B (tCall (psp B.K pre post) [] E t) ρ μ P :=
  ev_callP h (fun l e => by rw [e]; exact hpre) fun l e he h => hpost e (by rw [← he]; exact h)
theorem eqD_int : eqD (.int i) (.int j) = decide (i = j) := by
  show PyData.eqv (.int i) (.int j) = _
  simp only [PyData.eqv]
  exact Bool.beq_eq_decide_eq i j
theorem rd_eqI : RD B (rEqD B.K) ρ μ (.int i) (.int j) (fun e => e = .bl (decide (i = j))) := by
  have := rd_eqD (B := B) (ρ := ρ) (μ := μ) (d1 := .int i) (d2 := .int j) rfl rfl (Nat.zero_le _) (Nat.zero_le _)
  rw [eqD_int] at this
  exact this
theorem rd_neI : RD B (rNeD B.K) ρ μ (.int i) (.int j) (fun e => e = .bl (!decide (i = j))) := by
  have := rd_neD (B := B) (ρ := ρ) (μ := μ) (d1 := .int i) (d2 := .int j) rfl rfl (Nat.zero_le _) (Nat.zero_le _)
  rw [eqD_int] at this
  exact this
theorem ed_lc2 {wi : TI} {k l : Nat} {vs : List Nat} {n : Nat} {f x y h : Nat → D} (hi : Ei B wi ρ μ n f) (hf : ∀ i, i < n → f i = .tup [x i, y i]) (hk : k ∈ vs) (hl : l ∈ vs) (hn : n ≤ 1000000) (he : ∀ i, i < n → ∀ cl, Ed B te (((wipeR ρ vs).set k (some (x i))).set l (some (y i))) (cl :: μ) (h i)) :
    Ed B (tLc wi (gTup B.K 2 (gCons (gName k) (gCons (gName l) gNil))) tYes te vs) ρ μ (.lst ((List.range n).map h)) :=
  ev_lc hi (fun i => ((wipeR ρ vs).set k (some (x i))).set l (some (y i))) (js := [k, l]) (fun z hz => by
    rcases List.mem_cons.mp hz with e | e
    · rw [e]; exact hk
    · rw [List.mem_singleton.mp e]; exact hl) hn (fun _ => true) (fun i d => d = h i) (fun i hi cl => by rw [hf i hi]; exact gd_tup2) (fun _ _ _ => eb_yes) (fun i hi _ cl => he i hi cl) fun ds h => by
    rw [h.det, List.filter_eq_self.mpr fun _ _ => rfl]
theorem cutD1 (ds : List D) : cutD ds (some 1) none = ds.drop 1 := by
  unfold cutD
  rw [show HT.sIx ds.length 0 (some 1) = min 1 ds.length from HT.sIx_nat ds.length 0 1, HT.sIx_none]
  cases ds with
  | nil => rfl
  | cons x r =>
    rw [show min 1 (x :: r).length = 1 by rw [List.length_cons]; omega]
    show (List.take ((x :: r).length - 1) r) = r
    rw [List.length_cons, Nat.add_sub_cancel]
    exact List.take_length
theorem getD_drop1 (ds : List D) (i : Nat) : (ds.drop 1).getD i .non = ds.getD (i + 1) .non := by
  rw [List.getD_eq_getElem?_getD, List.getD_eq_getElem?_getD, List.getElem?_drop, Nat.add_comm]
theorem or_not {a b : Bool} (h : (!a || !b) = true) (ha : a = true) : b = false := by subst ha; cases b <;> first | rfl | cases h
theorem and_of {a b : Bool} (h : (!a || !b) = false) : a = true ∧ b = true := by cases a <;> cases b <;> first | exact ⟨rfl, rfl⟩ | cases h
/-- chains of comparisons -/
theorem ed_leleI (ha : Ed B ta ρ μ (.int i)) (hb : Ed B tb ρ μ (.int j)) {k : Int} (hc : Ed B tc ρ μ (.int k)) : Ed B (tChain rLeU rLeU ta tb tc) ρ μ (.bl (decide (i ≤ j) && decide (j ≤ k))) :=
  ed_chain ha hb (fun _ => hc) (fun G H x y s h1 h2 Q q => .inl ⟨i, j, h1, h2, q⟩) fun _ G H x y s h1 h2 Q q => .inl ⟨j, k, h1, h2, q⟩
theorem ed_leltI (ha : Ed B ta ρ μ (.int i)) (hb : Ed B tb ρ μ (.int j)) {k : Int} (hc : Ed B tc ρ μ (.int k)) : Ed B (tChain rLeU rLtU ta tb tc) ρ μ (.bl (decide (i ≤ j) && decide (j < k))) :=
  ed_chain ha hb (fun _ => hc) (fun G H x y s h1 h2 Q q => .inl ⟨i, j, h1, h2, q⟩) fun _ G H x y s h1 h2 Q q => .inl ⟨j, k, h1, h2, q⟩
theorem ed_leleS {s t u : Str} (ha : Ed B ta ρ μ (.str s)) (hb : Ed B tb ρ μ (.str t)) (hc : Ed B tc ρ μ (.str u)) : Ed B (tChain rLeU rLeU ta tb tc) ρ μ (.bl (!decide (t.cps.toList < s.cps.toList) && !decide (u.cps.toList < t.cps.toList))) :=
  ed_chain ha hb (fun _ => hc) (fun G H x y _ h1 h2 Q q => .inr ⟨s, t, h1, h2, q⟩) fun _ G H x y _ h1 h2 Q q => .inr ⟨t, u, h1, h2, q⟩
end
end Cal


namespace Cal
open PySem PySem.Spec PyProof.Rows L2
def topS (i : Nat) : Stmt := PySem.Challenge.pw_causeloops_k21_any_values_as_counts_and.main.body.getD i (.Pass ⟨0, 0, 0, 0⟩)
def clsS (s : Stmt) (i : Nat) : Stmt := match s with
  | .ClassDef _ _ _ b _ _ _ _ _ _ _ => b.getD i (.Pass ⟨0, 0, 0, 0⟩)
  | _ => .Pass ⟨0, 0, 0, 0⟩
theorem locT {M : List Addr} : ∀ (H H' : Hp), True → (∀ b ∈ M, H' b = H b) → True := fun _ _ _ _ => True.intro
end Cal


namespace Cal
open PySem PySem.Spec PyProof.Rows L2
section
variable {X : Cx}
def rMulS : R2 := fun x y H Q => ∃ z n, x = .str z ∧ y = .int n ∧ MulOk z n ∧ Q (.str (Txt.mul z n)) H
theorem op_mulS : OpR X (binaryOp .Mult) rMulS := by
  intro pins s σ H x y v u Q I rx ry h
  obtain ⟨z, n, rfl, rfl, hz, q⟩ := h
  obtain ⟨t, rfl⟩ := rx
  obtain ⟨t', rfl⟩ := ry
  exact SB.mul hz fun t' tk => ⟨.str (Txt.mul z n), H, I.tok _, ⟨_, rfl⟩, q⟩
def rMulU2 : R2 := fun x y H Q => rMulU x y H Q ∨ rMulS x y H Q
theorem u_mul2 : OpR X (binaryOp .Mult) rMulU2 := OpR.or u_mul op_mulS
/-- list of a text's signs -/
def sgV (z : Str) : List V := (List.range z.cps.size).map fun i => .str ⟨#[z.cps.getD i 0]⟩
theorem sgV_length (z : Str) : (sgV z).length = z.cps.size := by unfold sgV; rw [List.length_map, List.length_range]
def rLstStr : List V → Hp → VK → Prop := fun xs H Q => ∃ z : Str, xs = [.str z] ∧ z.cps.size ≤ sizeLine ∧ ∀ l, H l = none → Q (.ref l) (upd H l (.lst (sgV z)))
theorem vals_signs {x : Str} {acc : Array Value} (h : ItemsOf (SignAt x) acc x.cps.size) : Vals (sgV x) acc.toList := by
  have e : acc.toList.length = x.cps.size := by rw [Array.length_toList]; exact h.1
  unfold sgV
  rw [← e]
  refine vals_of_get acc.toList _ fun j u hj => ?_
  obtain ⟨c, t, hc, rfl⟩ := h.2 j u (by rw [← hj, Array.getElem?_toList])
  refine ⟨t, ?_⟩
  rw [Array.getD_eq_getD_getElem?, hc]; rfl
theorem call_list_signs (hc : X.calm = true) : CallR X (.type "list") rLstStr := by
  intro pins s σ H xs us Q I r h
  obtain ⟨z, rfl, hz, q⟩ := h
  obtain ⟨u, rfl, rx⟩ := vals1 r
  obtain ⟨t, rfl⟩ := rx
  refine call_list_str (I.ok.hd hc) z t (fun h' tk acc c' kp e hi => ?_) hz
  exact ⟨.ref s.heap.objs.size, _, I.laid kp (Nat.le_refl _) (show ObjOk X.prog X.w _ h' _ (.lst (sgV z)) from ⟨by rw [sgV_length]; exact hz, acc.toList, c', vals_signs hi, by rw [Array.toArray_toList]; exact e⟩), rfl, q _ (I.hok.fresh (Nat.le_refl _))⟩
def rLstOf (K : PySem.W.Frag) : List V → Hp → VK → Prop := fun xs H Q => (∃ p ys, xs = [.ref p] ∧ (SqL K H p ys ∨ SqT K H p ys) ∧ ∀ l, H l = none → Q (.ref l) (upd H l (.lst ys))) ∨ rLstStr xs H Q
theorem u_list (hc : X.calm = true) : CallR X (.type "list") (rLstOf X.K) := CallR.or call_list_of (call_list_signs hc)
def rTupOf (K : PySem.W.Frag) : List V → Hp → VK → Prop := fun xs H Q => ∃ p ys, xs = [.ref p] ∧ ((SqL K H p ys ∧ ∀ l, H l = none → Q (.ref l) (upd H l (.tup ys))) ∨ (SqT K H p ys ∧ Q (.ref p) H))
theorem u_tuple : CallR X (.type "tuple") (rTupOf X.K) := call_tuple_of
end
section
variable {B : Bs} {ρ ρ' : Ro} {μ μ' : Mu} {τ : List (V × D)} {σ σ2 : L2.St} {H : Hp} {ta tb tc te tx : TE} {tt tu : TT} {P P1 P2 P3 : D → Prop} {d d1 d2 d3 e : D} {r r' : R2} {R R1 : D → Mu → Prop} {R2' : D → Mu → D → Mu → Prop} {i j : Int} {b : Bool} {v : V} {E : XK} {p l : Addr} {ds es : List D} {D0 : Ends} {ts t1 t2 : TS}
theorem rd_mulI2 (h : CMul i j) : RD B rMulU2 ρ μ (.int i) (.int j) (fun e => e = .int (i * j)) := RD.inl (rd_mulI h)
theorem rd_mulS2 {s : Str} (h : MulOk s i) : RD B rMulU2 ρ μ (.str s) (.int i) (fun e => e = .str (Txt.mul s i)) := RD.inr (rd_flat (fun _ => rfl) fun G H x y _ a b Q q => ⟨s, i, a, b, h, q⟩)
theorem rd_fdiv (h : CDivW i j) : RD B (rI CDivW fun i j => .int (i / j)) ρ μ (.int i) (.int j) (fun e => e = .int (i / j)) := rd_I (fun _ => rfl) h
theorem rc_tupL : RC B (rTupOf B.K) ρ μ [.lst ds] (fun e => e = .tup ds) := fun τ σ H xs hl a Q q => by
  obtain ⟨G, g, h⟩ := a.args hl
  obtain ⟨v, rfl, p, vs, rfl, e, k⟩ := one_arg h
  exact ⟨p, vs, rfl, .inl ⟨.inl (.inl (g.sub _ _ e)), fun l hl => q _ _ _ rfl (g.newTup hl k)⟩⟩
theorem rc_tupC {k : Nat} (hm : μ[k]? = some (p, .lst ds)) : RC B (rTupOf B.K) ρ μ [.raw (.ref p)] (fun e => e = .tup ds) := fun τ σ H xs hl a Q q => by
  obtain ⟨G, g, h⟩ := a.args hl
  obtain ⟨v, rfl, hv⟩ := one_arg h
  obtain ⟨vs, e, k⟩ := (g.cells _ (List.mem_of_getElem? hm)).2.2.2
  exact ⟨p, vs, by rw [show v = V.ref p from hv], .inl ⟨.inl (.inl e), fun l hl => q _ _ _ rfl (g.newTup hl k)⟩⟩
theorem rc_lstT : RC B (rLstOf B.K) ρ μ [.tup ds] (fun e => e = .lst ds) := fun τ σ H xs hl a Q q => by
  obtain ⟨G, g, h⟩ := a.args hl
  obtain ⟨v, rfl, p, vs, rfl, e, k⟩ := one_arg h
  exact .inl ⟨p, vs, rfl, .inr (.inl (.inl (g.sub _ _ e))), fun l hl => q _ _ _ rfl (g.newLst hl k)⟩
theorem ed_tupL (h : Ed B te ρ μ (.lst ds)) : Ed B (tCB (rTupOf B.K) (tCons te tNil)) ρ μ (.tup ds) := ed_cb (ead_cons h ea_nil) rc_tupL
theorem ed_lstT (h : Ed B te ρ μ (.tup ds)) : Ed B (tCB (rLstOf B.K) (tCons te tNil)) ρ μ (.lst ds) := ed_cb (ead_cons h ea_nil) rc_lstT
/-- sorted ints: some ascending arrangement -/
theorem rc_sortI {is : List Int} (hz : is.length < 64) (hP : ∀ js : List Int, js.Perm is → js.Pairwise (· ≤ ·) → P (.lst (js.map D.int))) : RC B (rSortU2 B.K) ρ μ [.lst (is.map D.int)] P := fun τ σ H xs hl a Q q => by
  obtain ⟨G, g, h⟩ := a.args hl
  obtain ⟨v, rfl, p, vs, rfl, e, k⟩ := one_arg h
  exact .inl ⟨p, is, rfl, .inl (.inl (by rw [← k.ints]; exact g.sub _ _ e)), hz, fun js p' h1 h2 hp' => q _ _ _ (hP js h1 h2) (g.newLst hp' (DtA.of_ints js))⟩
theorem rc_sortC {is : List Int} {k : Nat} (hm : μ[k]? = some (p, .lst (is.map D.int))) (hz : is.length < 64) (hP : ∀ js : List Int, js.Perm is → js.Pairwise (· ≤ ·) → P (.lst (js.map D.int))) : RC B (rSortU2 B.K) ρ μ [.raw (.ref p)] P := fun τ σ H xs hl a Q q => by
  obtain ⟨G, g, h⟩ := a.args hl
  obtain ⟨v, rfl, hv⟩ := one_arg h
  obtain ⟨vs, e, k⟩ := (g.cells _ (List.mem_of_getElem? hm)).2.2.2
  exact .inl ⟨p, is, by rw [show v = V.ref p from hv], .inl (.inl (by rw [← k.ints]; exact e)), hz, fun js p' h1 h2 hp' => q _ _ _ (hP js h1 h2) (g.newLst hp' (DtA.of_ints js))⟩
theorem rc_sortS {is : List Str} (hz : is.length < 64) (hP : ∀ js : List Str, js.Perm is → sortedS js = true → P (.lst (js.map D.str))) : RC B (rSortU2 B.K) ρ μ [.lst (is.map D.str)] P := fun τ σ H xs hl a Q q => by
  obtain ⟨G, g, h⟩ := a.args hl
  obtain ⟨v, rfl, p, vs, rfl, e, k⟩ := one_arg h
  exact .inr ⟨p, is, rfl, .inl (.inl (by rw [← k.strs]; exact g.sub _ _ e)), hz, fun js p' h1 h2 hp' => q _ _ _ (hP js h1 h2) (g.newLst hp' (DtA.of_strs js))⟩
/-! ### cells -/
/-- a new list that will change -/
def Xl (B : Bs) (te : TE) (ρ : Ro) (μ : Mu) (ds : List D) : Prop := Xv B te ρ μ fun d μ' => ∃ p, d = .raw (.ref p) ∧ μ' = (p, .lst ds) :: μ
theorem xl_lst {t : TA} (h : Ea B t ρ μ (fun l => l = ds)) (hl : ds.length ≤ sizeLine) : Xl B (tLst t) ρ μ ds := fun τ σ H a Q q => h τ σ H a _ fun vs H1 es hes hlen a1 => by
  subst hes
  obtain ⟨G, g, k⟩ := a1.args hlen
  refine ⟨by rw [hlen]; exact hl, fun p hp => q _ _ _ _ ⟨p, rfl, rfl⟩ ?_⟩
  obtain ⟨G0, g0⟩ := a1
  have a2 := (At.newCell (c := .lst es) (o := .lst vs) ⟨G0, g0⟩ hp fun G' k' => ⟨vs, upd_same, DtA.of_zip hlen fun q hq => k' q (List.mem_append_left _ hq)⟩).1
  exact At.flat (a2.sub fun q hq => List.mem_append_right _ hq) fun _ => rfl
theorem xl_nil : Xl B (tLst tNil) ρ μ [] := xl_lst ea_nil (Nat.zero_le _)
theorem xl_signs {s : Str} (h : Ed B te ρ μ (.str s)) (hz : s.cps.size ≤ sizeLine) : Xl B (tCB (rLstOf B.K) (tCons te tNil)) ρ μ ((List.range s.cps.size).map fun i => .str ⟨#[s.cps.getD i 0]⟩) := fun τ σ H a Q q => h.go a fun v H1 d hd a1 => by
  subst hd
  obtain ⟨G, g, hv⟩ := a1.top
  refine .inr ⟨s, by rw [show v = V.str s from hv], hz, fun p hp => q _ _ _ _ ⟨p, rfl, rfl⟩ ?_⟩
  have a2 := (At.newCell (c := .lst ((List.range s.cps.size).map fun i => .str ⟨#[s.cps.getD i 0]⟩)) (o := .lst (sgV s)) ⟨G, g⟩ hp fun G' k' => ⟨_, upd_same, ?_⟩).1
  · exact At.flat a2 fun _ => rfl
  · have e := DtA.of_strs (K := B.K) (G := G') ((List.range s.cps.size).map fun i => (⟨#[s.cps.getD i 0]⟩ : Str))
    rw [List.map_map, List.map_map] at e
    exact e
theorem xl_range (h : Ed B te ρ μ (.int i)) (hi : 0 ≤ i ∧ i ≤ 1000) : Xl B (tLstRg (tRg1 te)) ρ μ ((List.range i.toNat).map fun k : Nat => D.int (k : Int)) := fun τ σ H a Q q => h.go a fun v H1 d hd a1 => by
  subst hd
  obtain ⟨G, g, hv⟩ := a1.top
  refine ⟨i, hv, RgOk.of_le (by omega) (by omega) (by omega) (by omega), fun p hp => q _ _ _ _ ⟨p, rfl, rfl⟩ ?_⟩
  have a2 := (At.newCell (c := .lst ((List.range i.toNat).map fun k : Nat => D.int (k : Int))) (o := .lst (rgV 0 i)) ⟨G, g⟩ hp fun G' k' => ⟨_, upd_same, ?_⟩).1
  · exact At.flat a2 fun _ => rfl
  · have e := DtA.of_ints (K := B.K) (G := G') ((List.range i.toNat).map fun k : Nat => (k : Int))
    rw [List.map_map] at e
    have e2 : rgV 0 i = (List.range i.toNat).map fun k : Nat => V.int (k : Int) := by
      unfold rgV
      rw [Int.sub_zero]
      exact List.map_congr_left fun k _ => by rw [Int.zero_add]
    rw [e2]
    rw [List.map_map] at e
    exact e
/-- two names at once, each with its own change of the cells -/
theorem x_par2 {k l : Nat} (a : At B ρ μ τ σ H) (h1 : Xv B ta ρ μ R) (h2 : ∀ d1 μ1, R d1 μ1 → Xv B tb ρ μ1 (R2' d1 μ1)) (q : ∀ d1 μ1 d2 μ2 σ' H', R d1 μ1 → R2' d1 μ1 d2 μ2 → At B ((ρ.set k (some d1)).set l (some d2)) μ2 τ σ' H' → D0.nx σ' H') : tPar k l (tCons ta (tCons tb tNil)) D0 σ H :=
  h1 τ σ H a _ fun v H1 d1 μ1 hr a1 => h2 d1 μ1 hr _ σ H1 a1 _ fun w H2 d2 μ2 hr2 a2 => ⟨v, w, rfl, q d1 μ1 d2 μ2 _ H2 hr hr2 (At.set l (At.sub (τ' := (w, d2) :: τ) (At.set k (At.sub (τ' := (v, d1) :: (w, d2) :: τ) a2 fun p hp => by
    rcases List.mem_cons.mp hp with e | e
    · rw [e]; exact List.mem_cons_of_mem _ (List.mem_cons_self ..)
    · rcases List.mem_cons.mp e with e | e
      · rw [e]; exact List.mem_cons_self ..
      · exact List.mem_cons_of_mem _ (List.mem_cons_of_mem _ e))) fun p hp => hp))⟩
/-- append to a cell -/
theorem x_append {k : Nat} (a : At B ρ μ τ σ H) (ho : ∀ τ σ H, At B ρ μ τ σ H → ∀ Q : VK, (∀ H', At B ρ μ τ σ H' → Q (.ref l) H') → ta σ H Q) (hm : μ[k]? = some (l, .lst ds)) (he : Xv B te ρ μ R) (hR : ∀ d μ', R d μ' → μ'[k]? = some (l, .lst ds)) (hz : ds.length < 100000)
    (q : ∀ d μ' H', R d μ' → At B ρ (μ'.set k (l, .lst (ds ++ [d]))) τ σ H' → D0.nx σ H') : tDrop (tBM B.K "list" rAppend ta (tCons te tNil)) D0 σ H :=
  ho τ σ H a _ fun H1 a1 => by
    obtain ⟨G, g⟩ := id a1
    obtain ⟨vs, e, _⟩ := (g.cells _ (List.mem_of_getElem? hm)).2.2.2
    refine ⟨.inl ⟨rfl, _, .inl (.inl e)⟩, he τ σ H1 a1 _ fun v H2 d μ' hr a2 => ?_⟩
    obtain ⟨G2, g2⟩ := id a2
    obtain ⟨us, e2, k2⟩ := (g2.cells _ (List.mem_of_getElem? (hR d μ' hr))).2.2.2
    refine ⟨l, us, v, rfl, rfl, e2, by rw [k2.length]; exact Nat.lt_trans hz (by decide), q d μ' _ hr (At.pop (At.write (c' := .lst (ds ++ [d])) a2 (hR d μ' hr) fun G' k' hc => ?_))⟩
    obtain ⟨us', e3, k3⟩ := hc
    rw [e2] at e3
    cases e3
    exact ⟨_, upd_same, k3.append ⟨v, [], rfl, k' _ (List.mem_cons_self ..), rfl⟩⟩
/-- the name of a cell -/
theorem o_var {n : Nat} (h : ρ[n]? = some (some (.raw (.ref l)))) : ∀ τ σ H, At B ρ μ τ σ H → ∀ Q : VK, (∀ H', At B ρ μ τ σ H' → Q (.ref l) H') → tVar n σ H Q := fun τ σ H a Q q => by
  obtain ⟨v, h1, h2⟩ := a.var h
  obtain ⟨G, g, hv⟩ := h2.top
  exact ⟨v, h1, by rw [show v = V.ref l from hv]; exact q H ⟨G, g⟩⟩
/-- pop at a place -/
theorem xv_popAt {k : Nat} (ho : ∀ τ σ H, At B ρ μ τ σ H → ∀ Q : VK, (∀ H', At B ρ μ τ σ H' → Q (.ref l) H') → ta σ H Q) (hm : μ[k]? = some (l, .lst ds)) (he : Ev B te ρ μ fun d => ∃ i : Int, d = .int i ∧ 0 ≤ i ∧ i < ds.length) (hz : ds.length ≤ 100000) :
    Xv B (tBM B.K "list" rPopAt ta (tCons te tNil)) ρ μ fun d μ' => ∃ n, n < ds.length ∧ ds[n]? = some d ∧ μ' = μ.set k (l, .lst (ds.eraseIdx n)) := fun τ σ H a Q q => ho τ σ H a _ fun H1 a1 => by
  obtain ⟨G, g⟩ := id a1
  obtain ⟨vs, e, _⟩ := (g.cells _ (List.mem_of_getElem? hm)).2.2.2
  refine ⟨.inl ⟨rfl, _, .inl (.inl e)⟩, he.go a1 fun v H2 d hd a2 => ?_⟩
  obtain ⟨i, rfl, h0, h1⟩ := hd
  obtain ⟨G2, g2, hv⟩ := id a2.top
  obtain ⟨us, e2, k2⟩ := (g2.cells _ (List.mem_of_getElem? hm)).2.2.2
  have hn : i.toNat < ds.length := by omega
  obtain ⟨y, hy, dy⟩ := k2.get (getD_of hn)
  refine ⟨l, us, i, i.toNat, y, rfl, by rw [show v = V.int i from hv], e2, by omega, by omega, ?_, hy, q y _ (ds.getD i.toNat .non) _ ⟨i.toNat, hn, getD_of hn, rfl⟩ ?_⟩
  · unfold seqIndex?
    rw [k2.length]
    have e3 : (if i < 0 then i + (ds.length : Int) else i) = i := if_neg (by omega)
    simp only [e3]
    have h3 : (decide (0 ≤ i) && decide (i < (ds.length : Int))) = true := by rw [decide_eq_true h0, decide_eq_true h1]; rfl
    rw [if_pos h3]
  · refine At.write (c' := .lst (ds.eraseIdx i.toNat)) ⟨G2, g2.push dy⟩ hm fun G' k' hc => ?_
    obtain ⟨us', e3, k3⟩ := hc
    rw [e2] at e3
    cases e3
    refine ⟨_, upd_same, ?_⟩
    rw [List.eraseIdx_eq_take_drop_succ, List.eraseIdx_eq_take_drop_succ]
    exact (k3.take _).append (k3.drop _)
end
end Cal


namespace Cal
open PySem PySem.Spec PyProof.Rows L2
/-! ### the deck: an object of three things, and its list -/
abbrev kL : Key := .inr "left"
abbrev kM : Key := .inr "mixed"
abbrev kD : Key := .inr "draws"
theorem kLM : decide (kL = kM) = false := by decide +kernel
theorem kLD : decide (kL = kD) = false := by decide +kernel
theorem kMD : decide (kM = kD) = false := by decide +kernel
theorem kML : decide (kM = kL) = false := by decide +kernel
theorem kDL : decide (kD = kL) = false := by decide +kernel
theorem kDM : decide (kD = kM) = false := by decide +kernel
def dkv (l : Addr) (m n : Int) : List (Key × V) := [(kL, .ref l), (kM, .int m), (kD, .int n)]
theorem dkv_left (l : Addr) (m n : Int) : valV (dkv l m n) kL = some (.ref l) := by
  unfold valV dkv
  rw [List.find?_cons_of_pos (by exact decide_eq_true rfl)]; rfl
theorem dkv_mixed (l : Addr) (m n : Int) : valV (dkv l m n) kM = some (.int m) := by
  unfold valV dkv
  rw [List.find?_cons_of_neg (by rw [kLM]; exact Bool.false_ne_true), List.find?_cons_of_pos (by exact decide_eq_true rfl)]; rfl
theorem dkv_draws (l : Addr) (m n : Int) : valV (dkv l m n) kD = some (.int n) := by
  unfold valV dkv
  rw [List.find?_cons_of_neg (by rw [kLD]; exact Bool.false_ne_true), List.find?_cons_of_neg (by rw [kMD]; exact Bool.false_ne_true), List.find?_cons_of_pos (by exact decide_eq_true rfl)]; rfl
theorem dkv_put (l : Addr) (m n n' : Int) : putK (dkv l m n) kD (.int n') = dkv l m n' := by
  unfold putK dkv
  rw [if_pos (by simp only [List.any_cons, kLD, kMD, List.any_nil, Bool.false_or, Bool.or_false]; exact decide_eq_true trivial)]
  simp only [List.map_cons, List.map_nil]
  rw [if_neg (of_decide_eq_false kLD), if_neg (of_decide_eq_false kMD)]
  first | rfl | rw [if_pos trivial] | rw [if_pos rfl]
theorem dkv_merge (l : Addr) (m n : Int) : mergeK [] [(kL, .ref l), (kM, .int m), (kD, .int n)] = dkv l m n := by
  unfold mergeK
  simp only [List.foldl_cons, List.foldl_nil]
  have e1 : putK ([] : List (Key × V)) kL (.ref l) = [(kL, .ref l)] := by unfold putK; rw [if_neg (by simp)]; rfl
  have e2 : putK [(kL, V.ref l)] kM (.int m) = [(kL, .ref l), (kM, .int m)] := by
    unfold putK; rw [if_neg (by simp only [List.any_cons, kLM, List.any_nil, Bool.or_false]; exact Bool.false_ne_true)]; rfl
  have e3 : putK [(kL, V.ref l), (kM, .int m)] kD (.int n) = [(kL, .ref l), (kM, .int m), (kD, .int n)] := by
    unfold putK; rw [if_neg (by simp only [List.any_cons, kLD, kMD, List.any_nil, Bool.or_false]; exact Bool.false_ne_true)]; rfl
  rw [e1, e2, e3]; rfl
def DkI (dk l : Addr) (k : Nat) (H : Hp) : Prop := ∃ (ns : List Int) (m n : Int), H dk = some (.dK (dkv l m n)) ∧ H l = some (.lst (ns.map V.int)) ∧ ns.length ≤ k
theorem dkLoc {dk l : Addr} {k : Nat} : ∀ H H', DkI dk l k H → (∀ b ∈ [dk, l], H' b = H b) → DkI dk l k H' := fun H H' ⟨ns, m, n, h1, h2, h3⟩ e => ⟨ns, m, n, by rw [e dk (by simp)]; exact h1, by rw [e l (by simp)]; exact h2, h3⟩
theorem DkI.ent {dk l : Addr} {k : Nat} {H : Hp} (h : DkI dk l k H) : ∀ b ∈ [dk, l], Ent H b := fun b hb => by
  obtain ⟨ns, m, n, h1, h2, _⟩ := h
  unfold Ent
  rcases List.mem_cons.mp hb with z | z
  · rw [z, h1]; simp
  · rw [List.mem_singleton.mp z, h2]; simp
def Bd (K : PySem.W.Frag) (dk l : Addr) (k : Nat) (G0 H0 : Hp) : Bs := ⟨K, DkI dk l k, [dk, l], dkLoc, G0, H0⟩
section
variable {K : PySem.W.Frag} {dk l : Addr} {k : Nat} {G0 H0 : Hp} {ρ ρ' : Ro} {μ μ' : Mu} {τ : List (V × D)} {σ σ2 : L2.St} {H : Hp} {te ta : TE} {P : D → Prop} {D0 : Ends} {t1 t2 : TS} {j i : Nat}
theorem Bd.to {k' : Nat} (h : k ≤ k') (a : At (Bd K dk l k G0 H0) ρ μ τ σ H) : At (Bd K dk l k' G0 H0) ρ μ τ σ H := by
  obtain ⟨G, g⟩ := a
  obtain ⟨ns, m, n, h1, h2, h3⟩ := (g.inv : DkI dk l k H)
  exact ⟨G, g.sub, ⟨ns, m, n, h1, h2, Nat.le_trans h3 h⟩, g.out, g.tup, g.base, g.ext, g.len, g.slots, g.cells, g.nd, g.temps⟩
/-- what all change is changed -/
theorem Bd.write {k' : Nat} {o : HO} {p : Addr} {G : Hp} (g : AtG (Bd K dk l k G0 H0) ρ μ τ σ H G) (hp : p ∈ [dk, l]) (hI : DkI dk l k' (upd H p o)) : AtG (Bd K dk l k' G0 H0) ρ μ τ σ (upd H p o) G := by
  have n1 : G p = none := (g.out p hp).1
  refine ⟨fun b u e => ?_, hI, fun b hb => ⟨(g.out b hb).1, ?_⟩, fun b vs e => ?_, fun b u e hb => ?_, g.ext, g.len, g.slots, fun q hq => ?_, g.nd, g.temps⟩
  · rw [upd_ne (fun z => by subst z; rw [n1] at e; cases e)]; exact g.sub b u e
  · exact DkI.ent hI b hb
  · by_cases hb : b = p
    · subst hb; exact absurd e ((DkI.ent hI b hp).2 vs)
    · rw [upd_ne hb] at e; exact g.tup b vs e
  · rw [upd_ne (show b ≠ p from fun z => hb (show b ∈ [dk, l] by rw [z]; exact hp))]; exact g.base b u e hb
  · obtain ⟨a, b, c, d⟩ := g.cells q hq
    exact ⟨a, b, c, d.mono (Same.refl G) fun o' z => by rw [upd_ne (show q.1 ≠ p from fun e => c (show q.1 ∈ [dk, l] by rw [e]; exact hp))]; exact z⟩
theorem deck_at (a : At (Bd K dk l k G0 H0) ρ μ τ σ H) (h : ρ[j]? = some (some (.raw (.ref dk)))) : σ[j]? = some (some (.ref dk)) := by
  obtain ⟨v, h1, h2⟩ := a.var h
  obtain ⟨G, g, hv⟩ := h2.top
  rw [h1, show v = V.ref dk from hv]
theorem ev_dgetI (h : ρ[j]? = some (some (.raw (.ref dk)))) {x : Str} (hx : ∀ m n, ∃ z, valV (dkv l m n) (.inr x) = some (.int z)) : Ev (Bd K dk l k G0 H0) (tDGet (tVar j) (tC (.str x))) ρ μ (fun d => ∃ z, d = .int z) := Ev.mk fun τ σ H a Q q => by
  obtain ⟨G, g⟩ := id a
  obtain ⟨ns, m, n, h1, h2, h3⟩ := (g.inv : DkI dk l k H)
  obtain ⟨z, hz⟩ := hx m n
  refine ⟨_, deck_at a h, dk, .int z, rfl, ?_, q _ H _ ⟨z, rfl⟩ (At.flat a fun _ => rfl)⟩
  rw [← hz]
  exact DGet.k (k := Sum.inr x) h1
theorem ev_draws (h : ρ[j]? = some (some (.raw (.ref dk)))) : Ev (Bd K dk l k G0 H0) (tDGet (tVar j) (tC (.str "draws"))) ρ μ (fun d => ∃ z, d = .int z) := ev_dgetI h fun m n => ⟨n, dkv_draws l m n⟩
theorem ev_mixed (h : ρ[j]? = some (some (.raw (.ref dk)))) : Ev (Bd K dk l k G0 H0) (tDGet (tVar j) (tC (.str "mixed"))) ρ μ (fun d => ∃ z, d = .int z) := ev_dgetI h fun m n => ⟨m, dkv_mixed l m n⟩
theorem left_at (a : At (Bd K dk l k G0 H0) ρ μ τ σ H) (h : ρ[j]? = some (some (.raw (.ref dk)))) {Q : VK} (q : Q (.ref l) H) : tDGet (tVar j) (tC (.str "left")) σ H Q := by
  obtain ⟨G, g⟩ := id a
  obtain ⟨ns, m, n, h1, h2, h3⟩ := (g.inv : DkI dk l k H)
  refine ⟨_, deck_at a h, dk, .ref l, rfl, ?_, q⟩
  rw [← dkv_left l m n]
  exact DGet.k (k := kL) h1
theorem x_putDraws (a : At (Bd K dk l k G0 H0) ρ μ τ σ H) (h : ρ[j]? = some (some (.raw (.ref dk)))) (he : Ev (Bd K dk l k G0 H0) te ρ μ (fun d => ∃ z, d = .int z)) (q : ∀ H', At (Bd K dk l k G0 H0) ρ μ τ σ H' → D0.nx σ H') : sDPut (tVar j) (tC (.str "draws")) te D0 σ H := he.go a fun v H1 d hd a1 => by
  obtain ⟨z, rfl⟩ := hd
  obtain ⟨G, g, hv⟩ := a1.top
  obtain ⟨ns, m, n, h1, h2, h3⟩ := (g.inv : DkI dk l k H1)
  refine ⟨_, deck_at ⟨G, g⟩ h, dk, _, rfl, DPut.k (k := kD) h1 (by show 3 < sizeLine; decide), q _ ⟨G, Bd.write g (by simp) ⟨ns, m, z, ?_, ?_, h3⟩⟩⟩
  · rw [upd_same, show v = V.int z from hv, dkv_put]
  · have hne : l ≠ dk := fun e => by rw [e, h1] at h2; cases h2
    rw [upd_ne hne]; exact h2
theorem pyA_ints : ∀ ns : List Int, pyA (ns.map D.int) = ns.map PyData.int
  | [] => rfl
  | n :: ns => by rw [List.map_cons, List.map_cons, ← pyA_ints ns]; rfl
theorem plainA_ints : ∀ ns : List Int, plainA (ns.map D.int) = true
  | [] => rfl
  | n :: ns => by simp [plainA, plain, plainA_ints ns]
theorem depA_ints : ∀ ns : List Int, depA (ns.map D.int) = 0
  | [] => rfl
  | n :: ns => by simp [depA, dep, depA_ints ns]
theorem x_ifLeft (a : At (Bd K dk l k G0 H0) ρ μ τ σ H) (h : ρ[j]? = some (some (.raw (.ref dk)))) (q1 : ∀ H', At (Bd K dk l k G0 H0) ρ μ τ σ H' → (∃ ns : List Int, H' l = some (.lst (ns.map V.int)) ∧ ns ≠ []) → t1 D0 σ H')
    (q2 : ∀ H', At (Bd K dk l k G0 H0) ρ μ τ σ H' → t2 D0 σ H') : tIfS (tTest (tOp (rNeD K) (tDGet (tVar j) (tC (.str "left"))) (tLst tNil))) t1 t2 D0 σ H := by
  refine left_at a h ⟨Nat.zero_le _, fun p hp => ?_⟩
  have a1 := (At.new (o := .lst []) (dn := .lst []) a hp fun G _ e => ⟨p, [], rfl, e, rfl⟩)
  obtain ⟨G1, g1⟩ := a1.pop
  obtain ⟨ns, m, n, h1, h2, h3⟩ := (g1.inv : DkI dk l k _)
  refine ⟨.list (ns.map PyData.int), .list [], ?_, .lst (.inl (.inl upd_same)) .nil, ?_, by decide, _, rfl, ?_⟩
  · have := DtA.dp (Same.refl _) (ns.map D.int) (plainA_ints ns) (DtA.of_ints (K := K) (G := upd H p (.lst [])) ns)
    rw [pyA_ints] at this
    exact .lst (.inl (.inl h2)) this
  · have e := shaped_py (d := .lst (ns.map D.int)) (by simpa [plain] using plainA_ints ns) (by show depA (ns.map D.int) + 1 ≤ 64; rw [depA_ints]; decide)
    have e2 : py (.lst (ns.map D.int)) = .list (ns.map PyData.int) := by show PyData.list (pyA (ns.map D.int)) = _; rw [pyA_ints]
    rw [e2] at e
    exact e
  · cases ns with
    | nil => exact q2 _ a1.pop
    | cons x r => exact q1 _ a1.pop ⟨x :: r, h2, by simp⟩
theorem map_int_inj : ∀ {xs ys : List Int}, xs.map V.int = ys.map V.int → xs = ys
  | [], [], _ => rfl
  | [], y :: ys, h => by simp at h
  | x :: xs, [], h => by simp at h
  | x :: xs, y :: ys, h => by
    rw [List.map_cons, List.map_cons] at h
    injection h with h1 h2
    rw [V.int.inj h1, map_int_inj h2]
theorem x_popLeft (a : At (Bd K dk l (k + 1) G0 H0) ρ μ τ σ H) (h : ρ[j]? = some (some (.raw (.ref dk)))) (hne : ∃ ns : List Int, H l = some (.lst (ns.map V.int)) ∧ ns ≠ [])
    (q : ∀ c σ' H', At (Bd K dk l k G0 H0) (ρ.set i (some (.int c))) μ τ σ' H' → D0.nx σ' H') : tAsg (tBM0 K "list" rPop (tDGet (tVar j) (tC (.str "left")))) (gName i) D0 σ H := by
  refine left_at a h ?_
  obtain ⟨G, g⟩ := a
  obtain ⟨ns', m, n, h1, h2', h3⟩ := (g.inv : DkI dk l (k + 1) H)
  obtain ⟨ns, h2, hn⟩ := hne
  have en : ns' = ns := by
    rw [h2'] at h2
    have := HO.lst.inj (Option.some.inj h2)
    exact map_int_inj this
  subst en
  have hlen : 0 < ns'.length := List.length_pos_iff.mpr hn
  have hl2 : ns'.length - 1 < ns'.length := by omega
  refine ⟨.inl ⟨rfl, _, .inl (.inl h2)⟩, l, ns'.map V.int, .int (ns'[ns'.length - 1]), rfl, rfl, h2, ?_, ?_⟩
  · rw [List.length_map, List.getElem?_map, List.getElem?_eq_getElem hl2]; rfl
  · have hne2 : dk ≠ l := fun e => by rw [e, h2] at h1; cases h1
    refine q (ns'[ns'.length - 1]) _ _ (At.set i ⟨G, AtG.push (Bd.write g (by simp) ⟨ns'.dropLast, m, n, ?_, ?_, ?_⟩) rfl⟩)
    · rw [upd_ne hne2]; exact h1
    · rw [upd_same, List.map_dropLast]
    · rw [List.length_dropLast]; omega
theorem x_appLeft (a : At (Bd K dk l k G0 H0) ρ μ τ σ H) (h : ρ[j]? = some (some (.raw (.ref dk)))) (he : Ev (Bd K dk l k G0 H0) te ρ μ (fun d => ∃ z, d = .int z)) (hk : k < 100000)
    (q : ∀ H', At (Bd K dk l (k + 1) G0 H0) ρ μ τ σ H' → D0.nx σ H') : tDrop (tBM K "list" rAppend (tDGet (tVar j) (tC (.str "left"))) (tCons te tNil)) D0 σ H := by
  refine left_at a h ?_
  obtain ⟨G, g⟩ := id a
  obtain ⟨ns, m, n, h1, h2, h3⟩ := (g.inv : DkI dk l k H)
  refine ⟨.inl ⟨rfl, _, .inl (.inl h2)⟩, he.go a fun v H1 d hd a1 => ?_⟩
  obtain ⟨z, rfl⟩ := hd
  obtain ⟨G1, g1, hv⟩ := a1.top
  obtain ⟨ns1, m1, n1, e1, e2, e3⟩ := (g1.inv : DkI dk l k H1)
  have hne2 : dk ≠ l := fun e => by rw [e, e2] at e1; cases e1
  refine ⟨l, ns1.map V.int, v, rfl, rfl, e2, by rw [List.length_map]; exact Nat.lt_of_le_of_lt e3 (Nat.lt_trans hk (by decide)), q _ ⟨G1, Bd.write g1 (by simp) ⟨ns1 ++ [z], m1, n1, ?_, ?_, ?_⟩⟩⟩
  · rw [upd_ne hne2]; exact e1
  · rw [upd_same, List.map_append, show v = V.int z from hv]; rfl
  · rw [List.length_append]; show ns1.length + 1 ≤ k + 1; omega
/-- what a def with the deck promises -/
def dsp (K : PySem.W.Frag) (pre : List D → Prop) (post : List D → D → Prop) : Sp := fun vs H Q E => ∃ dk l, fsp K (DkI dk l 64) [dk, l] (fun ds => ∃ es, ds = .raw (.ref dk) :: es ∧ pre es) (fun ds e => ∃ es, ds = .raw (.ref dk) :: es ∧ post es e) vs H Q E
theorem ev_d {pre : List D → Prop} {post : List D → D → Prop} {t : TA} {E : XK} {Ps : List D → Prop} (h : Ea (Bd K dk l 64 G0 H0) t ρ μ (fun ds => ∃ es, ds = .raw (.ref dk) :: es ∧ Ps es)) (hpre : ∀ es, Ps es → pre es) (hpost : ∀ es e, Ps es → post es e → P e) : Ev (Bd K dk l 64 G0 H0) (tCall (dsp K pre post) [] E t) ρ μ P :=
  ev_callS (B := Bd K dk l 64 G0 H0) (I' := DkI dk l 64) (M' := [dk, l]) h (fun vs H Q z => ⟨dk, l, z⟩) (fun ds ⟨es, e1, e2⟩ => ⟨es, e1, hpre es e2⟩) (fun ds d ⟨es, e1, e2⟩ ⟨es', e3, e4⟩ => by
    rw [e1] at e3
    cases e3
    exact hpost es d e2 e4) (fun _ h => h) (fun _ h => h) fun _ _ _ i _ _ => i
theorem ea_deck {tr : TA} {Ps : List D → Prop} {B : Bs} (h : ρ[j]? = some (some (.raw (.ref dk)))) (hr : Ea B tr ρ μ Ps) : Ea B (tCons (tVar j) tr) ρ μ (fun ds => ∃ es, ds = .raw (.ref dk) :: es ∧ Ps es) := ea_cons (ed_var h) fun d hd => by
  subst hd
  exact fun τ σ H a Q q => hr τ σ H a Q fun vs H' es z => q vs H' es ⟨es, rfl, z⟩
theorem ed_d {pre : List D → Prop} {post : List D → D → Prop} {t : TA} {E : XK} {es : List D} (h : ρ[j]? = some (some (.raw (.ref dk)))) (ht : Ea (Bd K dk l 64 G0 H0) t ρ μ (fun l => l = es)) (hpre : pre es) (hpost : ∀ e, post es e → P e) : Ev (Bd K dk l 64 G0 H0) (tCall (dsp K pre post) [] E (tCons (tVar j) t)) ρ μ P :=
  ev_d (ea_deck h ht) (fun l e => by rw [e]; exact hpre) fun l e he z => hpost e (by rw [← he]; exact z)
theorem dsp_start {pre : List D → Prop} {post : List D → D → Prop} {vs : List V} {H : Hp} {Q : VK} {E : XK} (N : List Str) (h : dsp K pre post vs H Q E) :
    ∃ (dk l : Addr) (G : Hp) (es : List D), pre es ∧ vs.length = es.length + 1 ∧ At (Bd K dk l 64 G H) (some (.raw (.ref dk)) :: es.map some ++ List.replicate (N.length - (es.length + 1)) none) [] [] (start N vs) H ∧
      ∀ {ρ μ τ σ v H' d}, post es d → At (Bd K dk l 64 G H) ρ μ ((v, d) :: τ) σ H' → Q v H' := by
  obtain ⟨dk, l, h⟩ := h
  obtain ⟨G, ds, ⟨es, rfl, hp⟩, hl, a, q⟩ := fsp_start dkLoc N h
  exact ⟨dk, l, G, es, hp, hl, a, fun hd a => q ⟨es, rfl, hd⟩ a⟩
end
end Cal


namespace Cal
open PySem PySem.Spec PyProof.Rows L2
/-! ### a statement with a block behind it -/
section
variable {B : Bs} {ρ ρ' : Ro} {μ μ' : Mu} {τ : List (V × D)} {σ σ2 : L2.St} {H : Hp} {ta tb tc te tx : TE} {tt tu : TT} {P : D → Prop} {d : D} {R : D → Mu → Prop} {R2' : D → Mu → D → Mu → Prop} {b : Bool} {p l : Addr} {ds es : List D} {D0 : Ends} {ts t1 t2 tz : TS} {g : TG} {k : Nat}
theorem y_asg (a : At B ρ μ τ σ H) (he : Xv B te ρ μ R) (q : ∀ d μ' σ' H', R d μ' → At B (ρ.set k (some d)) μ' τ σ' H' → tz D0 σ' H') : tSeq (tAsg te (gName k)) tz D0 σ H := x_asg (D0 := { D0 with nx := tz D0 }) a he q
theorem y_set (a : At B ρ μ τ σ H) (he : Ed B te ρ μ d) (q : ∀ σ' H', At B (ρ.set k (some d)) μ τ σ' H' → tz D0 σ' H') : tSeq (tAsg te (gName k)) tz D0 σ H := x_set (D0 := { D0 with nx := tz D0 }) a he q
theorem y_setV (a : At B ρ μ τ σ H) (he : Ev B te ρ μ P) (q : ∀ d σ' H', P d → At B (ρ.set k (some d)) μ τ σ' H' → tz D0 σ' H') : tSeq (tAsg te (gName k)) tz D0 σ H := x_setV (D0 := { D0 with nx := tz D0 }) a he q
theorem y_if {Pb : Bool → Prop} (a : At B ρ μ τ σ H) (h : Et B tt ρ μ Pb) (q1 : Pb true → ∀ H', At B ρ μ τ σ H' → t1 { D0 with nx := tz D0 } σ H') (q2 : Pb false → ∀ H', At B ρ μ τ σ H' → tz D0 σ H') : tSeq (tIfS tt t1 tNext) tz D0 σ H := x_if (D0 := { D0 with nx := tz D0 }) a h q1 q2
theorem y_ifb (a : At B ρ μ τ σ H) (h : Eb B tt ρ μ b) (q1 : b = true → ∀ H', At B ρ μ τ σ H' → t1 { D0 with nx := tz D0 } σ H') (q2 : b = false → ∀ H', At B ρ μ τ σ H' → tz D0 σ H') : tSeq (tIfS tt t1 tNext) tz D0 σ H := x_ifb (D0 := { D0 with nx := tz D0 }) a h q1 q2
theorem y_drop (a : At B ρ μ τ σ H) (he : Xv B te ρ μ R) (q : ∀ d μ' H', R d μ' → At B ρ μ' τ σ H' → tz D0 σ H') : tSeq (tDrop te) tz D0 σ H := x_drop (D0 := { D0 with nx := tz D0 }) a he q
theorem y_par {k l : Nat} {t : TA} {Ps : D → D → Prop} (a : At B ρ μ τ σ H) (he : Ea B t ρ μ fun ds => ∃ d1 d2, ds = [d1, d2] ∧ Ps d1 d2) (q : ∀ d1 d2 σ' H', Ps d1 d2 → At B ((ρ.set k (some d1)).set l (some d2)) μ τ σ' H' → tz D0 σ' H') : tSeq (tPar k l t) tz D0 σ H := x_par (D0 := { D0 with nx := tz D0 }) a he q
theorem y_par2 {k l : Nat} (a : At B ρ μ τ σ H) (h1 : Xv B ta ρ μ R) (h2 : ∀ d1 μ1, R d1 μ1 → Xv B tb ρ μ1 (R2' d1 μ1)) (q : ∀ d1 μ1 d2 μ2 σ' H', R d1 μ1 → R2' d1 μ1 d2 μ2 → At B ((ρ.set k (some d1)).set l (some d2)) μ2 τ σ' H' → tz D0 σ' H') : tSeq (tPar k l (tCons ta (tCons tb tNil))) tz D0 σ H := x_par2 (D0 := { D0 with nx := tz D0 }) a h1 h2 q
theorem y_asgG {ρ' : Ro} {js : List Nat} (a : At B ρ μ τ σ H) (he : Ed B te ρ μ d) (hg : Gd B g ρ μ d ρ' js) (q : ∀ σ' H', At B ρ' μ τ σ' H' → tz D0 σ' H') : tSeq (tAsg te g) tz D0 σ H := x_asgG (D0 := { D0 with nx := tz D0 }) a he hg q
theorem y_append (a : At B ρ μ τ σ H) (ho : ∀ τ σ H, At B ρ μ τ σ H → ∀ Q : VK, (∀ H', At B ρ μ τ σ H' → Q (.ref l) H') → ta σ H Q) (hm : μ[k]? = some (l, .lst ds)) (he : Xv B te ρ μ R) (hR : ∀ d μ', R d μ' → μ'[k]? = some (l, .lst ds)) (hz : ds.length < 100000)
    (q : ∀ d μ' H', R d μ' → At B ρ (μ'.set k (l, .lst (ds ++ [d]))) τ σ H' → tz D0 σ H') : tSeq (tDrop (tBM B.K "list" rAppend ta (tCons te tNil))) tz D0 σ H := x_append (D0 := { D0 with nx := tz D0 }) a ho hm he hR hz q
theorem y_for {wi : TI} {n : Nat} {f : Nat → D} {tb : TS} (a : At B ρ μ τ σ H) (hi : Ei B wi ρ μ n f) (Inv : Nat → Ro → Mu → Prop) (h0 : Inv 0 ρ μ)
    (hs : ∀ i ρ' μ' τ1 σ' H' v (Dn : Ends), i < n → Inv i ρ' μ' → (∀ p ∈ τ, p ∈ τ1) → At B ρ' μ' ((v, f i) :: τ1) σ' H' → (∀ ρ2 μ2 σ2 H2, Inv (i + 1) ρ2 μ2 → At B ρ2 μ2 τ1 σ2 H2 → Dn.nx σ2 H2) → (∀ ρ2 μ2 σ2 H2, Inv (i + 1) ρ2 μ2 → At B ρ2 μ2 τ1 σ2 H2 → Dn.ct σ2 H2) → Dn.bk = tz D0 → Dn.rt = D0.rt → g v σ' H' (tb Dn))
    (hd : ∀ ρ' μ' σ' H', Inv n ρ' μ' → At B ρ' μ' τ σ' H' → tz D0 σ' H') : tSeq (tFor wi g tb) tz D0 σ H := x_for (js := []) (D0 := { D0 with nx := tz D0 }) a hi Inv h0 hs hd
theorem RC.imp {r : List V → Hp → VK → Prop} {P P' : D → Prop} (h : RC B r ρ μ ds P) (k : ∀ d, P d → P' d) : RC B r ρ μ ds P' := fun τ σ H xs hl a Q q => h τ σ H xs hl a Q fun v H' d hd a' => q v H' d (k d hd) a'
theorem RD.imp {r : R2} {d1 d2 : D} {P P' : D → Prop} (h : RD B r ρ μ d1 d2 P) (k : ∀ d, P d → P' d) : RD B r ρ μ d1 d2 P' := fun τ σ H x y a Q q => h τ σ H x y a Q fun v H' d hd a' => q v H' d (k d hd) a'
theorem Ea.imp {t : TA} {P P' : List D → Prop} (h : Ea B t ρ μ P) (k : ∀ d, P d → P' d) : Ea B t ρ μ P' := fun τ σ H a Q q => h τ σ H a Q fun vs H' ds hd => q vs H' ds (k ds hd)
theorem ea1P (h : Ev B ta ρ μ P) : Ea B (tCons ta tNil) ρ μ (fun ds => ∃ d, ds = [d] ∧ P d) := ea_cons h fun d hd => ea_nil.imp fun ds e => ⟨d, by rw [e], hd⟩
theorem ea2P {d1 : D} (h1 : Ed B ta ρ μ d1) (h : Ev B tb ρ μ P) : Ea B (tCons ta (tCons tb tNil)) ρ μ (fun ds => ∃ d, ds = [d1, d] ∧ P d) := ea_cons h1 fun e he => (ea1P h).imp fun ds ⟨d, e1, e2⟩ => ⟨d, by rw [e1, he], e2⟩
theorem x_retCell {k : Nat} {p : Addr} (a : At B ρ ((p, .lst ds) :: μ) τ σ H) (h : ρ[k]? = some (some (.raw (.ref p)))) (q : At B ρ μ ((.ref p, .lst ds) :: τ) σ H → D0.rt (.ref p) H) : tRet (tVar k) D0 σ H := by
  obtain ⟨v, h1, h2⟩ := a.var h
  obtain ⟨G, g, hv⟩ := h2.top
  exact ⟨v, h1, by rw [show v = V.ref p from hv]; exact q a.freeze⟩
/-- for with a name as its target -/
theorem x_forN {wi : TI} {n : Nat} {f : Nat → D} {tb : TS} (a : At B ρ μ τ σ H) (hi : Ei B wi ρ μ n f) (Inv : Nat → Ro → Mu → Prop) (h0 : Inv 0 ρ μ)
    (hs : ∀ i ρ' μ' τ1 σ' H' (Dn : Ends), i < n → Inv i ρ' μ' → At B (ρ'.set k (some (f i))) μ' τ1 σ' H' → (∀ ρ2 μ2 σ2 H2, Inv (i + 1) ρ2 μ2 → At B ρ2 μ2 τ1 σ2 H2 → Dn.nx σ2 H2) → (∀ ρ2 μ2 σ2 H2, Inv (i + 1) ρ2 μ2 → At B ρ2 μ2 τ1 σ2 H2 → Dn.ct σ2 H2) → Dn.bk = D0.nx → Dn.rt = D0.rt → tb Dn σ' H')
    (hd : ∀ ρ' μ' σ' H', Inv n ρ' μ' → At B ρ' μ' τ σ' H' → D0.nx σ' H') : tFor wi (gName k) tb D0 σ H := x_for (js := []) a hi Inv h0 (fun i ρ' μ' τ1 σ' H' v Dn hi hI hsub a1 h1 h2 h3 h4 => hs i ρ' μ' τ1 _ H' Dn hi hI (a1.set k) h1 h2 h3 h4) hd
theorem y_forN {wi : TI} {n : Nat} {f : Nat → D} {tb : TS} (a : At B ρ μ τ σ H) (hi : Ei B wi ρ μ n f) (Inv : Nat → Ro → Mu → Prop) (h0 : Inv 0 ρ μ)
    (hs : ∀ i ρ' μ' τ1 σ' H' (Dn : Ends), i < n → Inv i ρ' μ' → At B (ρ'.set k (some (f i))) μ' τ1 σ' H' → (∀ ρ2 μ2 σ2 H2, Inv (i + 1) ρ2 μ2 → At B ρ2 μ2 τ1 σ2 H2 → Dn.nx σ2 H2) → (∀ ρ2 μ2 σ2 H2, Inv (i + 1) ρ2 μ2 → At B ρ2 μ2 τ1 σ2 H2 → Dn.ct σ2 H2) → Dn.bk = tz D0 → Dn.rt = D0.rt → tb Dn σ' H')
    (hd : ∀ ρ' μ' σ' H', Inv n ρ' μ' → At B ρ' μ' τ σ' H' → tz D0 σ' H') : tSeq (tFor wi (gName k) tb) tz D0 σ H := x_forN (D0 := { D0 with nx := tz D0 }) a hi Inv h0 hs hd
/-- for over range(e), e any -/
theorem y_forRP {te : TE} {tb : TS} {Pi : Int → Prop} (a : At B ρ μ τ σ H) (he : Ev B te ρ μ fun d => ∃ i : Int, d = .int i ∧ Pi i) (hb : ∀ i, Pi i → -(2 ^ 62) ≤ i ∧ i < 2 ^ 62) (Inv : Int → Nat → Ro → Mu → Prop) (h0 : ∀ m, Pi m → Inv m 0 ρ μ)
    (hs : ∀ (m : Int) i ρ' μ' τ1 σ' H' (Dn : Ends), Pi m → i < m.toNat → Inv m i ρ' μ' → At B (ρ'.set k (some (.int i))) μ' τ1 σ' H' → (∀ ρ2 μ2 σ2 H2, Inv m (i + 1) ρ2 μ2 → At B ρ2 μ2 τ1 σ2 H2 → Dn.nx σ2 H2) → (∀ ρ2 μ2 σ2 H2, Inv m (i + 1) ρ2 μ2 → At B ρ2 μ2 τ1 σ2 H2 → Dn.ct σ2 H2) → Dn.bk = tz D0 → Dn.rt = D0.rt → tb Dn σ' H')
    (hd : ∀ (m : Int) ρ' μ' σ' H', Pi m → Inv m m.toNat ρ' μ' → At B ρ' μ' τ σ' H' → tz D0 σ' H') : tSeq (tFor (iRng1 (tCons te tNil)) (gName k) tb) tz D0 σ H := by
  refine he.go a fun v H1 d hd' a1 => ?_
  obtain ⟨m, rfl, hm⟩ := hd'
  obtain ⟨G, g, hv⟩ := a1.top
  have hv' : v = V.int m := hv
  subst hv'
  exact y_forN (wi := iRng1 (tCons (tC (.int m)) tNil)) (tz := tz) (D0 := D0) ⟨G, g⟩ (ei_rng1 (ead_cons ed_int ea_nil) (hb m hm)) (Inv m) (h0 m hm) (fun i ρ' μ' τ1 σ' H' Dn hi hI a1 h1 h2 h3 h4 => hs m i ρ' μ' τ1 σ' H' Dn hm hi hI a1 h1 h2 h3 h4) fun ρ' μ' σ' H' hI a2 => hd m ρ' μ' σ' H' hm hI a2
theorem y_cut {M : L2.St → Hp → Prop} (h : t1 { D0 with nx := M } σ H) (q : ∀ σ' H', M σ' H' → tz D0 σ' H') : C8.tCut t1 tz D0 σ H := ⟨M, h, q⟩
theorem y_putDraws {K : PySem.W.Frag} {dk l : Addr} {k j : Nat} {G0 H0 : Hp} (a : At (Bd K dk l k G0 H0) ρ μ τ σ H) (h : ρ[j]? = some (some (.raw (.ref dk)))) (he : Ev (Bd K dk l k G0 H0) te ρ μ (fun d => ∃ z, d = .int z)) (q : ∀ H', At (Bd K dk l k G0 H0) ρ μ τ σ H' → tz D0 σ H') : tSeq (sDPut (tVar j) (tC (.str "draws")) te) tz D0 σ H := x_putDraws (D0 := { D0 with nx := tz D0 }) a h he q
theorem y_popLeft {K : PySem.W.Frag} {dk l : Addr} {k i j : Nat} {G0 H0 : Hp} (a : At (Bd K dk l (k + 1) G0 H0) ρ μ τ σ H) (h : ρ[j]? = some (some (.raw (.ref dk)))) (hne : ∃ ns : List Int, H l = some (.lst (ns.map V.int)) ∧ ns ≠ [])
    (q : ∀ c σ' H', At (Bd K dk l k G0 H0) (ρ.set i (some (.int c))) μ τ σ' H' → tz D0 σ' H') : tSeq (tAsg (tBM0 K "list" rPop (tDGet (tVar j) (tC (.str "left")))) (gName i)) tz D0 σ H := x_popLeft (D0 := { D0 with nx := tz D0 }) a h hne q
theorem y_appLeft {K : PySem.W.Frag} {dk l : Addr} {k j : Nat} {G0 H0 : Hp} (a : At (Bd K dk l k G0 H0) ρ μ τ σ H) (h : ρ[j]? = some (some (.raw (.ref dk)))) (he : Ev (Bd K dk l k G0 H0) te ρ μ (fun d => ∃ z, d = .int z)) (hk : k < 100000)
    (q : ∀ H', At (Bd K dk l (k + 1) G0 H0) ρ μ τ σ H' → tz D0 σ H') : tSeq (tDrop (tBM K "list" rAppend (tDGet (tVar j) (tC (.str "left"))) (tCons te tNil))) tz D0 σ H := x_appLeft (D0 := { D0 with nx := tz D0 }) a h he hk q
end
end Cal


namespace Cal
open PySem PySem.Spec PyProof.Rows L2
/-! ### a list of lists that change -/
section
variable {B : Bs} {ρ ρ' : Ro} {μ μ' : Mu} {τ : List (V × D)} {σ σ2 : L2.St} {H : Hp} {ta tb tc te tx : TE} {tt tu : TT} {P : D → Prop} {d : D} {R : D → Mu → Prop} {b : Bool} {p l : Addr} {ds es : List D} {D0 : Ends} {ts t1 t2 tz : TS} {g : TG} {k : Nat} {v : V}
theorem At.perm (a : At B ρ μ τ σ H) (h : μ'.Perm μ) : At B ρ μ' τ σ H := by
  obtain ⟨G, g⟩ := a
  exact ⟨G, { g with cells := fun q hq => g.cells q (h.mem_iff.mp hq), nd := (h.map _).nodup_iff.mpr g.nd }⟩
def rr (l : Addr) : D := .raw (.ref l)
def rowsMu (ls : List Addr) (rows : List (List D)) : Mu := List.zipWith (fun l r => (l, Cl.lst r)) ls rows
/-- for over the items of a tuple that some call hands back -/
def EiAt (B : Bs) (wi : TI) (ρ : Ro) (μ : Mu) (n : Nat) (f : Nat → D) (τ : List (V × D)) (σ : L2.St) (H : Hp) : Prop := ∀ Rr : It → Hp → Prop,
  (∀ J H1 τ1, (∀ p ∈ τ, p ∈ τ1) → At B ρ μ τ1 σ H1 → (∀ i ρ' μ' τ' σ' H', (∀ p ∈ τ1, p ∈ τ') → At B ρ' μ' τ' σ' H' → (n ≤ i → J.stop i H') ∧ (i < n → J.go i H' ∧ ∀ x H2, J.yld i H' x H2 → At B ρ' μ' ((x, f i) :: τ') σ' H2)) → Rr J H1) → wi σ H Rr
theorem x_forAt {wi : TI} {n : Nat} {f : Nat → D} {tb : TS} (hi : EiAt B wi ρ μ n f τ σ H) (Inv : Nat → Ro → Mu → Prop) (h0 : Inv 0 ρ μ)
    (hs : ∀ i ρ' μ' τ1 σ' H' (Dn : Ends), i < n → Inv i ρ' μ' → (∀ p ∈ τ, p ∈ τ1) → At B (ρ'.set k (some (f i))) μ' τ1 σ' H' → (∀ ρ2 μ2 σ2 H2, Inv (i + 1) ρ2 μ2 → At B ρ2 μ2 τ1 σ2 H2 → Dn.nx σ2 H2) → (∀ ρ2 μ2 σ2 H2, Inv (i + 1) ρ2 μ2 → At B ρ2 μ2 τ1 σ2 H2 → Dn.ct σ2 H2) → Dn.bk = D0.nx → Dn.rt = D0.rt → tb Dn σ' H')
    (hd : ∀ ρ' μ' σ' H', Inv n ρ' μ' → At B ρ' μ' τ σ' H' → D0.nx σ' H') : tFor wi (gName k) tb D0 σ H := hi _ fun J H1 τ1 hsub a1 hJ => by
  refine ⟨fun i m σ H => m = n - i ∧ i ≤ n ∧ ∃ ρ' μ', Inv i ρ' μ' ∧ At B ρ' μ' τ1 σ H, ⟨n, by omega, by omega, ρ, μ, h0, a1⟩, fun i m σ2 H2 hW => ?_⟩
  obtain ⟨rfl, hin, ρ', μ', hI, a2⟩ := hW
  obtain ⟨s1, s2⟩ := hJ i ρ' μ' τ1 σ2 H2 (fun _ z => z) a2
  by_cases hlt : i < n
  · obtain ⟨s3, s4⟩ := s2 hlt
    refine .inr ⟨s3, fun σ3 H3 => ∃ ρ' μ', Inv (i + 1) ρ' μ' ∧ At B ρ' μ' τ1 σ3 H3, fun σ3 H3 ⟨ρ3, μ3, i3, a3⟩ => ⟨n - (i + 1), by omega, rfl, hlt, ρ3, μ3, i3, a3⟩, fun x H3 hy => ?_⟩
    exact hs i ρ' μ' τ1 _ H3 { D0 with nx := fun σ3 H3 => ∃ ρ' μ', Inv (i + 1) ρ' μ' ∧ At B ρ' μ' τ1 σ3 H3, ct := fun σ3 H3 => ∃ ρ' μ', Inv (i + 1) ρ' μ' ∧ At B ρ' μ' τ1 σ3 H3, bk := D0.nx } hlt hI hsub ((s4 x H3 hy).set k) (fun ρ2 μ2 σ2 H2 i2 a2 => ⟨ρ2, μ2, i2, a2⟩) (fun ρ2 μ2 σ2 H2 i2 a2 => ⟨ρ2, μ2, i2, a2⟩) rfl rfl
  · have e : i = n := by omega
    subst e
    exact .inl ⟨s1 (Nat.le_refl _), hd ρ' μ' σ2 H2 hI (a2.sub hsub)⟩
theorem eiAt_tup (a1 : At B ρ μ ((v, .tup ds) :: τ) σ H) : EiAt B (iTup B.K (fun σ H Q => Q v H)) ρ μ ds.length (fun i => ds.getD i .non) τ σ H := fun Rr q => by
  obtain ⟨G, g, p, vs, rfl, e, k⟩ := id a1.top
  refine ⟨p, rfl, ⟨vs, .inl (.inl (g.sub _ _ e))⟩, q _ H _ (fun z hz => List.mem_cons_of_mem _ hz) a1 fun i ρ' μ' τ' σ' H' hsub a2 => ?_⟩
  obtain ⟨G2, g2⟩ := a2
  obtain ⟨p', vs', e', e2, k2⟩ := g2.temps _ (hsub _ (List.mem_cons_self ..))
  cases e'
  have e3 : SqT B.K H' p vs' := .inl (.inl (g2.sub _ _ e2))
  refine ⟨fun hi => ⟨vs', e3, by rw [k2.length]; exact hi⟩, fun hi => ?_⟩
  obtain ⟨x, hx, dx⟩ := k2.get (getD_of hi)
  refine ⟨⟨vs', x, e3, hx⟩, fun y H2 hy => ?_⟩
  obtain ⟨rfl, hy⟩ := hy
  have ey : x = y := Option.some.inj (hx.symm.trans (hy vs' e3))
  subst ey
  exact ⟨G2, g2.push dx⟩
theorem x_forTP {tb : TS} {Pd : List D → Prop} (a : At B ρ μ τ σ H) (he : Ev B te ρ μ fun d => ∃ ds, d = .tup ds ∧ Pd ds) (Inv : List D → Nat → Ro → Mu → Prop) (h0 : ∀ ds, Pd ds → Inv ds 0 ρ μ)
    (hs : ∀ (ds : List D) i ρ' μ' τ1 σ' H' (Dn : Ends), Pd ds → i < ds.length → Inv ds i ρ' μ' → (∀ p ∈ τ, p ∈ τ1) → At B (ρ'.set k (some (ds.getD i .non))) μ' τ1 σ' H' → (∀ ρ2 μ2 σ2 H2, Inv ds (i + 1) ρ2 μ2 → At B ρ2 μ2 τ1 σ2 H2 → Dn.nx σ2 H2) → (∀ ρ2 μ2 σ2 H2, Inv ds (i + 1) ρ2 μ2 → At B ρ2 μ2 τ1 σ2 H2 → Dn.ct σ2 H2) → Dn.bk = D0.nx → Dn.rt = D0.rt → tb Dn σ' H')
    (hd : ∀ (ds : List D) ρ' μ' σ' H', Pd ds → Inv ds ds.length ρ' μ' → At B ρ' μ' τ σ' H' → D0.nx σ' H') : tFor (iTup B.K te) (gName k) tb D0 σ H := by
  refine he.go a fun v H1 d hd' a1 => ?_
  obtain ⟨ds, rfl, hds⟩ := hd'
  exact x_forAt (D0 := D0) (eiAt_tup a1) (Inv ds) (h0 ds hds) (fun i ρ' μ' τ1 σ' H' Dn hi hI hsub a1 h1 h2 h3 h4 => hs ds i ρ' μ' τ1 σ' H' Dn hds hi hI hsub a1 h1 h2 h3 h4) fun ρ' μ' σ' H' hI a2 => hd ds ρ' μ' σ' H' hds hI a2
theorem tYes_if {A C : Hp → Prop} (h : A H) : tYes σ H fun b H3 => if b = true then A H3 else C H3 := by
  show (if true = true then A H else C H)
  rw [if_pos rfl]
  exact h
/-- [[] for .. in range(n)]: so many new lists -/
theorem xl_rows {t : TA} {vs : List Nat} {n : Int} (h : Ea B t ρ μ (fun es => es = [.int n])) (hn : 0 ≤ n ∧ n ≤ 1000) (hk : k ∈ vs) :
    Xv B (tLc (iRng1 t) (gName k) tYes (tLst tNil) vs) ρ μ fun d μ' => ∃ p ls, ls.length = n.toNat ∧ d = rr p ∧ μ' = (p, .lst (ls.map rr)) :: (rowsMu ls (ls.map fun _ => []) ++ μ) := fun τ σ H a Q q => (ei_rng1 h ⟨by omega, by omega⟩) (sv ρ σ ++ τ) σ H a.save _ fun J H1 τ1 hsub a1 hJ Dl hD => by
  have hf := a.fits
  refine ⟨fun i m H => m = n.toNat - i ∧ i ≤ n.toNat ∧ ∃ ls : List Addr, ls.length = i ∧ At B ρ ((Dl, .lst (ls.map rr)) :: (rowsMu ls (ls.map fun _ => []) ++ μ)) τ1 σ H, ⟨n.toNat, by omega, Nat.zero_le _, [], rfl, (At.newCell (c := .lst []) (o := .lst []) a1 hD fun G _ => ⟨[], upd_same, rfl⟩).1⟩, fun i m H2 hW => ?_⟩
  obtain ⟨rfl, hin, ls, hls, a2⟩ := hW
  obtain ⟨s1, s2⟩ := hJ i ρ _ τ1 σ H2 (fun _ z => z) a2
  by_cases hlt : i < n.toNat
  · obtain ⟨s3, s4⟩ := s2 hlt
    refine .inr ⟨s3, fun H => ∃ ls : List Addr, ls.length = i + 1 ∧ At B ρ ((Dl, .lst (ls.map rr)) :: (rowsMu ls (ls.map fun _ => []) ++ μ)) τ1 σ H, fun H' ⟨ls, h1, h2⟩ => ⟨n.toNat - (i + 1), by omega, rfl, hlt, ls, h1, h2⟩, fun x H3 hy => ?_⟩
    refine gd_name k τ1 (wipe σ vs) H3 x (At.wiped (s4 x H3 hy) vs) _ fun σ' a3 hl3 hk3 => ⟨wipe_ext (js := [k]) (fun z hz => by rw [List.mem_singleton.mp hz]; exact hk) hl3 hk3, ?_⟩
    refine tYes_if ?_
    refine ⟨Nat.zero_le _, fun p hp => ?_⟩
    obtain ⟨a4, hnew⟩ := At.newCell (c := .lst []) (o := .lst []) a3 hp fun G _ => ⟨[], upd_same, rfl⟩
    obtain ⟨G, g5, us, e5, k5⟩ := a4.cell (j := 1) rfl
    refine ⟨us, e5, by rw [k5.length, List.length_map, hls]; exact Nat.lt_of_lt_of_le hlt (Nat.le_trans (by omega : n.toNat ≤ 1000) (by decide)), ls ++ [p], by rw [List.length_append, hls]; rfl, ?_⟩
    have a6 := At.write (j := 1) (c' := .lst (ls.map rr ++ [rr p])) (o := .lst (us ++ [.ref p])) a4 rfl fun G k1 ⟨vs6, e6, k6⟩ => by
      rw [e5] at e6
      cases e6
      exact ⟨_, upd_same, k6.append ⟨.ref p, [], rfl, rfl, rfl⟩⟩
    refine At.restore hf (At.perm a6 ?_) fun q hq => hsub q (List.mem_append_left _ hq)
    have e7 : rowsMu (ls ++ [p]) ((ls ++ [p]).map fun _ => []) = rowsMu ls (ls.map fun _ => []) ++ [(p, .lst [])] := by
      unfold rowsMu
      rw [List.map_append, List.zipWith_append (by rw [List.length_map])]
      rfl
    rw [e7, List.map_append]
    show List.Perm ((Dl, Cl.lst (ls.map rr ++ [rr p])) :: (rowsMu ls (ls.map fun _ => []) ++ [(p, Cl.lst [])] ++ μ)) ((p, Cl.lst []) :: (Dl, Cl.lst (ls.map rr ++ [rr p])) :: (rowsMu ls (ls.map fun _ => []) ++ μ))
    refine (List.Perm.cons _ ?_).trans (List.Perm.swap _ _ _)
    rw [List.append_assoc]
    exact List.perm_middle
  · have e : i = n.toNat := by omega
    subst e
    refine .inl ⟨s1 (Nat.le_refl _), ?_⟩
    exact q _ H2 _ _ ⟨Dl, ls, hls, rfl, rfl⟩ (At.flat (a2.sub fun z hz => hsub z (List.mem_append_right _ hz)) fun _ => rfl)
/-- a name that is a cell, by what an expression says -/
theorem ho_of {te : TE} (h : Ed B te ρ μ (rr l)) : ∀ τ σ H, At B ρ μ τ σ H → ∀ Q : VK, (∀ H', At B ρ μ τ σ H' → Q (.ref l) H') → te σ H Q := fun τ σ H a Q q => h.go a fun v H' d hd a1 => by
  subst hd
  obtain ⟨G, g, hv⟩ := a1.top
  rw [show v = V.ref l from hv]
  exact q H' ⟨G, g⟩
theorem rowsMu_get {ls : List Addr} {rows : List (List D)} {i : Nat} {r : List D} (h1 : ls[i]? = some l) (h2 : rows[i]? = some r) : (rowsMu ls rows)[i]? = some (l, .lst r) := by
  unfold rowsMu
  rw [List.getElem?_zipWith, h1, h2]
theorem rowsMu_set {ls : List Addr} {rows : List (List D)} {i : Nat} {r : List D} (h1 : ls[i]? = some l) : (rowsMu ls rows).set i (l, .lst r) = rowsMu ls (rows.set i r) := by
  unfold rowsMu
  refine List.ext_getElem? fun j => ?_
  by_cases hj : i = j
  · subst hj
    rw [List.getElem?_zipWith, h1]
    by_cases hl : i < rows.length
    · rw [List.getElem?_set_self hl, List.getElem?_set_self]
      rw [List.length_zipWith]
      have := (List.getElem?_eq_some_iff.mp h1).1
      omega
    · rw [List.getElem?_eq_none (by rw [List.length_set, List.length_zipWith]; omega), List.getElem?_eq_none (l := rows.set i r) (by rw [List.length_set]; omega)]
  · rw [List.getElem?_set_ne hj, List.getElem?_zipWith, List.getElem?_zipWith, List.getElem?_set_ne hj]
/-- all rows and the list of them change no more -/
theorem freeze_rows : ∀ (ls : List Addr) (rows : List (List D)) {μ : Mu} {τ : List (V × D)}, ls.length = rows.length → At B ρ (rowsMu ls rows ++ μ) τ σ H → At B ρ μ ((List.zipWith (fun l r => (V.ref l, D.lst r)) ls rows).reverse ++ τ) σ H
  | [], [], μ, τ, _, a => a
  | [], r :: rows, μ, τ, h, _ => by simp at h
  | l :: ls, [], μ, τ, h, _ => by simp at h
  | l :: ls, r :: rows, μ, τ, h, a => by
    have a1 : At B ρ ((l, .lst r) :: (rowsMu ls rows ++ μ)) τ σ H := a
    have a2 := freeze_rows ls rows (by simpa using h) a1.freeze
    rw [List.zipWith_cons_cons, List.reverse_cons, List.append_assoc]
    exact a2
theorem freezeAll {ls : List Addr} {rows : List (List D)} (h : ls.length = rows.length) (a : At B ρ ((p, .lst (ls.map rr)) :: (rowsMu ls rows ++ μ)) τ σ H) : At B ρ μ ((.ref p, .lst (rows.map .lst)) :: τ) σ H := by
  have a1 := freeze_rows ls rows h (μ := (p, .lst (ls.map rr)) :: μ) (At.perm a List.perm_middle)
  have a2 := a1.freeze
  obtain ⟨G, g, p', vs, e1, e2, k2⟩ := id a2.top
  cases e1
  refine ⟨G, AtG.push { g with temps := fun q hq => g.temps q (List.mem_append_right _ hq) } ⟨p, vs, rfl, e2, ?_⟩⟩
  have hd : ∀ (ls : List Addr) (rows : List (List D)) (vs : List V), ls.length = rows.length → (∀ q ∈ List.zipWith (fun l r => (V.ref l, D.lst r)) ls rows, Dt B.K G q.2 q.1) → DtA B.K G (ls.map rr) vs → DtA B.K G (rows.map .lst) vs := by
    intro ls
    induction ls with
    | nil => intro rows vs h _ k; cases rows with
      | nil => exact k
      | cons r rows => simp at h
    | cons l ls ih => intro rows vs h k1 k; cases rows with
      | nil => simp at h
      | cons r rows =>
        obtain ⟨v, rest, rfl, hv, hr⟩ := k
        have hv' : v = V.ref l := hv
        subst hv'
        exact ⟨_, rest, rfl, k1 (V.ref l, D.lst r) (List.mem_cons_self ..), ih rows rest (by simpa using h) (fun q hq => k1 q (List.mem_cons_of_mem _ hq)) hr⟩
  exact hd ls rows vs h (fun q hq => g.temps q (List.mem_append_left _ (List.mem_reverse.mpr hq))) k2
/-- a slot told anew: what it holds is data now -/
theorem At.reslot {d : D} (a : At B ρ μ ((v, d) :: τ) σ H) (h : ρ[k]? = some (some (.raw v))) : At B (ρ.set k (some d)) μ τ σ H := by
  have a2 := a.set k
  obtain ⟨u, h1, h2⟩ := a.pop.var h
  obtain ⟨G, g, hv⟩ := h2.top
  have hv' : u = v := hv
  subst hv'
  have e : σ.set k (some u) = σ := by
    refine List.ext_getElem? fun i => ?_
    by_cases hi : k = i
    · subst hi
      rw [h1, List.getElem?_set_self (List.getElem?_eq_some_iff.mp h1).1]
    · rw [List.getElem?_set_ne hi]
  rw [e] at a2
  exact a2
end
end Cal


namespace Cal
open PySem PySem.Spec PyProof.Rows L2 HT
section
variable {M : Model} {prog : Program} {w : World} {A : Around} {E : Value → Shared → Prop} {s : Shared}
theorem sliceApplied_rev {sl : Addr} {vs : Value} {n : Nat} {Q : Int × Int × Nat → Shared → Prop} (hs : s.heap.IsSliceOf sl .none .none vs) (ps : IsPart vs (some (-1))) (h : Q ((n : Int) - 1, -1, n) s) : wpAny (model prog w) A (Builtin.Slice.sliceApplied (.ref sl) (pure (n : Int))) Q E s := by
  obtain ⟨os, hos, hcs, hds⟩ := id hs
  unfold Builtin.Slice.sliceApplied Builtin.Slice.sliceFields
  refine wpAny_bind (wpAny_bind (wpAny_field hos hds (x := .none) rfl (wpAny_bind (wpAny_field hos hds (x := .none) rfl (wpAny_bind (wpAny_field hos hds (x := vs) rfl (wpAny_pure ?_)))))))
  refine wpAny_bind (slicePart_ ps ?_)
  show wpAny _ _ (if ((-1 : Int) == 0) = true then _ else _) _ _ s
  rw [if_neg (by decide)]
  refine wpAny_bind (slicePart_ .none (wpAny_bind (slicePart_ .none (wpAny_bind (wpAny_pure ?_)))))
  show wpAny _ _ (pure ((n : Int) - 1, (-1 : Int), Builtin.Slice.slicePlaces ((n : Int) - 1) (-1) (-1))) _ _ s
  have e : Builtin.Slice.slicePlaces ((n : Int) - 1) (-1) (-1) = n := by
    unfold Builtin.Slice.slicePlaces
    have h1 : ¬ ((-1 : Int) > 0) := by decide
    simp only [h1, if_false]
    split
    · rw [show (-(-1) : Int) = 1 by decide, Int.ediv_one]; omega
    · omega
  rw [e]
  exact wpAny_pure h
theorem pick_rev (xs : Array Value) : ((List.range xs.size).filterMap fun (m : Nat) => xs[((xs.size : Int) - 1 + (m : Int) * -1).toNat]?).toArray = xs.toList.reverse.toArray := by
  congr 1
  have e1 : (List.range xs.size).filterMap (fun (m : Nat) => xs[((xs.size : Int) - 1 + (m : Int) * -1).toNat]?) = ((List.range xs.size).map fun (m : Nat) => ((xs.size : Int) - 1 + (m : Int) * -1).toNat).filterMap (xs[·]?) := by
    rw [List.filterMap_map]; rfl
  have e2 : (List.range xs.size).map (fun (m : Nat) => ((xs.size : Int) - 1 + (m : Int) * -1).toNat) = (List.range xs.size).map fun k => xs.size - 1 - k :=
    List.map_congr_left fun m hm => by
      have := List.mem_range.mp hm
      omega
  rw [e1, e2, PySem.W.krv_range, List.filterMap_reverse, PySem.W.krv_all]
theorem getItem_tuple_rev {t sl : Addr} {items : Array Value} {vs : Value} {Q : Value → Shared → Prop} (ht : IsTup s.heap t items) (hs : s.heap.IsSliceOf sl .none .none vs) (ps : IsPart vs (some (-1)))
    (h : Q (.ref s.heap.objs.size) { s with heap := s.heap.push { cls := .type "tuple", data := .seq items.toList.reverse.toArray } })
    (hsz : items.size ≤ sizeLine) : wpAny (model prog w) A (getItem (.ref t) (.ref sl)) Q E s := by
  have htake : sizeOk (.seq items.toList.reverse.toArray) := by
    show items.toList.reverse.toArray.size ≤ sizeLine
    rw [List.size_toArray, List.length_reverse, Array.length_toList]
    exact hsz
  obtain ⟨os, hos, hcs, hds⟩ := id hs
  have hTs : s.TypeIs (.ref sl) "slice" := ⟨os, hos, hcs⟩
  unfold getItem
  try with_reducible refine wpAny_holding ?_
  first | refine wpAny_bind (wpAny_pure ?_) | skip
  refine wpAny_bind (wpAny_sequenceKey ht.typeIs (by decide) ?_)
  refine wpAny_bind (wpAny_callSpecial?_slot (name := Str.ofString "__getitem__") ht.typeIs PyProof.Rows.slot_tuple_getitem
    (wpAny_call_entry PyProof.Rows.slot_tuple_getitem ht.typeIs entry_tuple_getitem ?_ (args_tuple_getitem _ _)))
  show wpAny _ _ (Builtin.Tuple.tupleItemsOf (.ref t) >>= _) _ _ s
  refine wpAny_bind (tupleItemsOf_ ht ?_)
  refine wpAny_bind (wpAny_typeOf hTs ?_)
  rw [if_pos (by decide)]
  refine wpAny_bind (sliceApplied_rev hs ps ?_)
  have hno : ¬ ((((items.size : Int) - 1) == 0 && (-1 : Int) == 1 && items.size == items.size) = true) := by
    intro q
    rw [Bool.and_eq_true, Bool.and_eq_true] at q
    exact absurd q.1.2 (by decide)
  show wpAny _ _ (if (((items.size : Int) - 1) == 0 && (-1 : Int) == 1 && items.size == items.size) = true then _ else _) _ _ s
  rw [if_neg hno, pick_rev]
  first
    | exact wpAny_bind (m := Builtin.Tuple.tupleExact _) (wpAny_newObj_type (wpAny_pure ⟨_, rfl, wpAny_pure h⟩) htake)
    | exact wpAny_bind (m := Builtin.Tuple.tupleExact _) (wpAny_newObj_type (wpAny_bind (wpAny_pure (wpAny_pure ⟨_, rfl, wpAny_pure h⟩))) htake)
    | exact wpAny_bind (wpAny_bind (m := Builtin.Tuple.tupleExact _) (wpAny_newObj_type (wpAny_pure (wpAny_pure ⟨_, rfl, wpAny_pure h⟩)) htake))
    | exact wpAny_bind (wpAny_bind (m := Builtin.Tuple.tupleExact _) (wpAny_newObj_type (wpAny_pure ⟨_, rfl, wpAny_pure h⟩) htake))
end
section
variable {X : Cx}
/-- t[::-1], t a tuple -/
def tRevT (K : PySem.W.Frag) (te : TE) : TE := fun σ H Q => te σ H fun x H1 => ∃ a xs, x = .ref a ∧ SqT K H1 a xs ∧ ∀ p, H1 p = none → Q (.ref p) (upd H1 p (.tup xs.reverse))
theorem pe_revT {e : Expr} {te : TE} {k : Nat} {p1 p2 p3 pos : Pos} (he : PE X e te) : PE X (.Subscript e (.Slice none none (some (.UnaryOp .USub (.Constant (.int 1) k p1) p2)) p3) pos) (tRevT X.K te) := by
  refine ⟨fun pins s σ H Q I h => ?_⟩
  refine Subscript_ (thn (he.run pins s σ H _ I h) fun v s1 ⟨x, H1, I1, r1, q1⟩ => ?_)
  obtain ⟨a, xs, ex, hx, q⟩ := q1
  subst ex
  cases r1
  have hst : PO X (some (.UnaryOp .USub (.Constant (.int 1) k p1) p2)) (tPart (tUn (rU fun i => .int (-i)) (tC (.int 1)))) := po_some (pe_un un_neg pe_int)
  refine wpAny_Slice (thn (po_none.run pins s1 σ H1 (fun o H2 => o = none ∧ H2 = H1) I1 ⟨rfl, rfl⟩) fun vl s2 ⟨l, H2, I2, pl, el, e2⟩ => ?_)
  subst el e2
  refine thn (po_none.run pins s2 σ H2 (fun o H3 => o = none ∧ H3 = H2) I2 ⟨rfl, rfl⟩) fun vu s3 ⟨u, H3, I3, pu, eu, e3⟩ => ?_
  subst eu e3
  refine thn (hst.run pins s3 σ H3 (fun o H4 => o = some (-1) ∧ H4 = H3) I3 ⟨1, rfl, -1, rfl, rfl, rfl⟩) fun vs s4 ⟨o, H4, I4, ps, eo, e4⟩ => ?_
  subst eo e4
  cases pl
  cases pu
  have I5 : Inv X pins σ H4 { s4 with heap := s4.heap.push { cls := .type "slice", data := .fields #[.none, .none, vs] } } := I4.kept (t' := s4.toks) fun b ob q => Heap.get?_push_of_some _ q
  obtain ⟨its, r, ht, hz⟩ := I5.tuple hx
  have hlen := r.length
  show wpAny (model X.prog X.w) X.A (subscriptTail e (.Slice none none (some (.UnaryOp .USub (.Constant (.int 1) k p1) p2)) p3) (.ref a) (.ref s4.heap.objs.size)) (EP X pins σ Q) X.xe { s4 with heap := s4.heap.push { cls := .type "slice", data := .fields #[.none, .none, vs] } }
  refine tail_any (ops := [.ref a, .ref s4.heap.objs.size]) ht.typeIs (PyProof.Rows.slot_tuple_getitem.lookup) ?_ (by with_unfolding_all rfl)
  refine getItem_tuple_rev ht (Heap.IsSliceOf.new _ .none .none vs) ps ?_ (by rw [List.size_toArray]; omega)
  refine ⟨.ref _, _, I5.laid (t' := s4.toks) (o := .tup xs.reverse) (fun b ob q => Heap.get?_push_of_some _ q) (Nat.le_refl _) ?_, rfl, q _ (I5.hok.fresh (Nat.le_refl _))⟩
  exact ⟨by rw [List.length_reverse]; omega, _, r.reverse, ⟨_, Heap.get?_push_size _ rfl, rfl, 0, rfl⟩⟩
end
end Cal


/-! Own text: the text of data with dicts; of a dict alone it is asked that it is not that of the modules. -/
namespace Cal
open PySem PySem.Spec PyProof.Rows L2
mutual
inductive RdX (h : Heap) : Value → PyData → Prop where
  | none : RdX h .none .none
  | bl (b) : RdX h (.bool b) (.bool b)
  | int (i t) : RdX h (.int i t) (.int i)
  | str (x t) : RdX h (.str x t) (.str x)
  | lst {a o vs n xs} : h.get? a = some o → o.cls = .type "list" → o.data = .seq vs n → RdXA h vs.toList xs → RdX h (.ref a) (.list xs)
  | tup {a o vs n xs} : h.get? a = some o → o.cls = .type "tuple" → o.data = .seq vs n → RdXA h vs.toList xs → RdX h (.ref a) (.tuple xs)
  | dk {a o es n kvs} : h.get? a = some o → o.cls = .type "dict" → o.data = .dict es n → a ≠ sysModules → RdXA h (es.toList.map (·.key)) (kvs.map (·.1)) → RdXA h (es.toList.map (·.val)) (kvs.map (·.2)) → RdX h (.ref a) (.dict kvs)
inductive RdXA (h : Heap) : List Value → List PyData → Prop where
  | nil : RdXA h [] []
  | cons {v vs d ds} : RdX h v d → RdXA h vs ds → RdXA h (v :: vs) (d :: ds)
end
mutual
theorem RdX.rd {h : Heap} : ∀ {v : Value} {d : PyData}, RdX h v d → ∃ as, Reads h v d as
  | _, _, .none => ⟨_, .none⟩
  | _, _, .bl b => ⟨_, .bool b⟩
  | _, _, .int i t => ⟨_, .int i t⟩
  | _, _, .str x t => ⟨_, .str x t⟩
  | _, _, .lst h1 h2 h3 h4 => let ⟨_, r⟩ := RdXA.rd h4; ⟨_, .list h1 h2 h3 r⟩
  | _, _, .tup h1 h2 h3 h4 => let ⟨_, r⟩ := RdXA.rd h4; ⟨_, .tuple h1 h2 h3 r⟩
  | _, _, .dk h1 h2 h3 _ h4 h5 => let ⟨_, r⟩ := RdXA.rd h4; let ⟨_, s⟩ := RdXA.rd h5; ⟨_, .dict h1 h2 h3 r s⟩
theorem RdXA.rd {h : Heap} : ∀ {vs : List Value} {ds : List PyData}, RdXA h vs ds → ∃ as, ReadsAll h vs ds as
  | _, _, .nil => ⟨_, .nil⟩
  | _, _, .cons r rs => let ⟨_, a⟩ := RdX.rd r; let ⟨_, b⟩ := RdXA.rd rs; ⟨_, .cons a b⟩
end
section
variable {pr : Program} {w : World} {g : Heap}
mutual
theorem RdX.kp : ∀ {v : Value} {d : PyData}, RdX g v d → d.showable = true → d.shown.length ≤ sizeLine → ∃ bs, ReadAtMost g d.depth bs ∧ ReprK pr w bs g d.depth v d.shown
  | _, _, .none, _, _ => ⟨[], (fun _ z => nomatch z), by simp only [PyData.shown]; exact .of_is ReprIs.none _ _ _⟩
  | _, _, .bl b, _, _ => ⟨[], (fun _ z => nomatch z), by simp only [PyData.shown]; exact .of_is (ReprIs.bool b) _ _ _⟩
  | _, _, .int i t, o, _ => ⟨[], (fun _ z => nomatch z), by simp only [PyData.shown]; exact .of_is (ReprIs.int t (by simpa [PyData.showable] using o)) _ _ _⟩
  | _, _, .str x t, _, z => ⟨[], (fun _ z => nomatch z), by simp only [PyData.shown]; exact .of_is (ReprIs.str x t (by simpa only [PyData.shown] using z)) _ _ _⟩
  | _, _, .lst (a := a) (vs := vs) (xs := xs) h1 h2 h3 h4, o, z => by
    have z1 : (listText (PyData.shownAll xs)).length ≤ sizeLine := by simpa only [PyData.shown] using z
    obtain ⟨bs, m, k⟩ := RdXA.kp h4 (by simpa [PyData.showable] using o) fun t ht => Nat.le_trans (listText_mem_le ht) z1
    obtain ⟨as, r0⟩ := RdXA.rd h4
    have r : Reads g (.ref a) (.list xs) (a :: as) := .list h1 h2 h3 r0
    have q : a ∉ bs := not_mem_of_deeper r (by simp only [PyData.depth]; omega) m
    refine ⟨a :: bs, ReadAtMost.cons r (by simp only [PyData.depth]; omega) m, ?_⟩
    simp only [PyData.depth, PyData.shown]
    obtain ⟨us⟩ := vs
    cases us with
    | nil =>
      cases (show ReadsAll g [] xs as from r0)
      simp only [PyData.shownAll, listText_nil]
      exact ReprK.listEmpty h1 h2 h3
    | cons x us => exact ReprK.list h1 h2 h3 q (by simpa using k.length_eq) fun i y e => k.item i y (by simpa using e)
  | _, _, .tup (a := a) (xs := xs) h1 h2 h3 h4, o, z => by
    have z1 : (tupleText (PyData.shownAll xs)).length ≤ sizeLine := by simpa only [PyData.shown] using z
    obtain ⟨bs, m, k⟩ := RdXA.kp h4 (by simpa [PyData.showable] using o) fun t ht => Nat.le_trans (tupleText_mem_le ht) z1
    obtain ⟨as, r0⟩ := RdXA.rd h4
    have r : Reads g (.ref a) (.tuple xs) as := .tuple h1 h2 h3 r0
    refine ⟨a :: bs, ReadAtMost.cons r (by simp only [PyData.depth]; omega) m, ?_⟩
    simp only [PyData.depth, PyData.shown]
    exact ReprK.tuple h1 h2 h3 (not_mem_of_deeper r (by simp only [PyData.depth]; omega) m) k
  | _, _, .dk (a := a) (es := es) (kvs := kvs) h1 h2 h3 ne h4 h5, o, z => by
    have z1 : (dictText (PyData.shownKv kvs)).length ≤ sizeLine := by simpa only [PyData.shown] using z
    obtain ⟨o1, o2⟩ := PyData.showableKv_split kvs (by simpa [PyData.showable] using o)
    obtain ⟨b1, m1, k1⟩ := RdXA.kp h4 o1 fun t ht => by
      obtain ⟨p, hp, hl⟩ := PyData.shownKv_key_le kvs t ht
      exact Nat.le_trans hl (Nat.le_trans (dictText_mem_le hp) z1)
    obtain ⟨b2, m2, k2⟩ := RdXA.kp h5 o2 fun t ht => by
      obtain ⟨p, hp, hl⟩ := PyData.shownKv_val_le kvs t ht
      exact Nat.le_trans hl (Nat.le_trans (dictText_mem_le hp) z1)
    obtain ⟨as1, r1⟩ := RdXA.rd h4
    obtain ⟨as2, r2⟩ := RdXA.rd h5
    have r : Reads g (.ref a) (.dict kvs) (a :: as1 ++ as2) := .dict h1 h2 h3 r1 r2
    have m := (m1.mono (PyData.depthAll_keys_le kvs)).append (m2.mono (PyData.depthAll_vals_le kvs))
    have q : a ∉ b1 ++ b2 := not_mem_of_deeper r (by simp only [PyData.depth]; omega) m
    refine ⟨a :: (b1 ++ b2), ReadAtMost.cons r (by simp only [PyData.depth]; omega) m, ?_⟩
    simp only [PyData.depth, PyData.shown, PyData.shownKv_eq]
    refine ReprK.dict h1 h2 h3 (beq_eq_false_iff_ne.mpr ne) q (ReprEntriesK.of_two es.toList _ _ ?_ ?_)
    · exact k1.more_le (fun b y => List.mem_append_left _ y) (PyData.depthAll_keys_le kvs)
    · exact k2.more_le (fun b y => List.mem_append_right _ y) (PyData.depthAll_vals_le kvs)
theorem RdXA.kp : ∀ {vs : List Value} {ds : List PyData}, RdXA g vs ds → PyData.showableAll ds = true → (∀ t ∈ PyData.shownAll ds, t.length ≤ sizeLine) → ∃ bs, ReadAtMost g (PyData.depthAll ds) bs ∧ ReprAllK pr w bs g (PyData.depthAll ds) vs (PyData.shownAll ds)
  | _, _, .nil, _, _ => ⟨[], (fun _ z => nomatch z), by simp only [PyData.shownAll]; exact .nil⟩
  | _, _, .cons (d := d) (ds := ds) r rs, o, z => by
    have o1 : d.showable = true ∧ PyData.showableAll ds = true := by simpa [PyData.showableAll] using o
    obtain ⟨b1, m1, k1⟩ := RdX.kp r o1.1 (z _ (by simp only [PyData.shownAll]; exact List.mem_cons_self ..))
    obtain ⟨b2, m2, k2⟩ := RdXA.kp rs o1.2 fun t ht => z t (by simp only [PyData.shownAll]; exact List.mem_cons_of_mem _ ht)
    refine ⟨b1 ++ b2, ?_, ?_⟩
    · simp only [PyData.depthAll]
      exact (m1.mono (Nat.le_max_left ..)).append (m2.mono (Nat.le_max_right ..))
    · simp only [PyData.depthAll, PyData.shownAll]
      exact .cons ((k1.more fun b y => List.mem_append_left _ y).level_le (Nat.le_max_left _ _)) (k2.more_le (fun b y => List.mem_append_right _ y) (Nat.le_max_right _ _))
end
/-- repr of what is at a place -/
theorem RdX.repr {a : Addr} {d : PyData} {A : Around} {E : Value → Shared → Prop} {s : Shared} {Q : Value → Shared → Prop} (r : RdX g (.ref a) d) (o : d.showable = true) (z : d.shown.length ≤ sizeLine) (hg : A.guards = some []) (hu : A.units + (d.depth + 1) < cLine) (k0 : ∀ b o, g.get? b = some o → s.heap.get? b = some o)
    (hQ : ∀ h' u tk, (∀ b o, s.heap.get? b = some o → h'.get? b = some o) → Q (.str d.shown u) { s with heap := h', toks := tk }) : wpAny (model pr w) A (call (.builtin "repr") [.ref a]) Q E s := by
  have hin : A.in1.guards = some [] := hg
  cases r with
  | lst h1 h2 h3 h4 =>
    rename_i o1 vs n xs
    have z1 : (listText (PyData.shownAll xs)).length ≤ sizeLine := by simpa only [PyData.shown] using z
    obtain ⟨bs, m, k⟩ := RdXA.kp (pr := pr) (w := w) h4 (by simpa [PyData.showable] using o) fun t ht => Nat.le_trans (listText_mem_le ht) z1
    obtain ⟨as, r0⟩ := RdXA.rd h4
    have q : a ∉ bs := not_mem_of_deeper (.list h1 h2 h3 r0) (by simp only [PyData.depth]; omega) m
    simp only [PyData.depth] at hu
    simp only [PyData.shown] at hQ
    refine call_repr_slot (by omega) ⟨o1, k0 _ _ h1, h2⟩ F.slot_list_repr.toG ?_
    obtain ⟨us⟩ := vs
    cases us with
    | nil =>
      cases (show ReadsAll g [] xs as from r0)
      simp only [PyData.shownAll, listText_nil] at hQ
      exact call_list_repr_empty ⟨o1, k0 _ _ h1, h2⟩ (k0 _ _ h1) h3 ⟨_, _, rfl, hQ s.heap _ _ fun _ _ e => e⟩
    | cons x us =>
      exact call_list_reprK h1 h2 h3 q (by simpa using k.length_eq) (fun i y e => k.item i y (by simpa using e)) hin (fun b _ => Clear.nil b) (by show A.units + 1 + _ < _; omega) k0 (fun h' u tk hk => ⟨_, _, rfl, hQ h' u tk hk⟩) z1
  | tup h1 h2 h3 h4 =>
    rename_i o1 vs n xs
    have z1 : (tupleText (PyData.shownAll xs)).length ≤ sizeLine := by simpa only [PyData.shown] using z
    obtain ⟨bs, m, k⟩ := RdXA.kp (pr := pr) (w := w) h4 (by simpa [PyData.showable] using o) fun t ht => Nat.le_trans (tupleText_mem_le ht) z1
    obtain ⟨as, r0⟩ := RdXA.rd h4
    have q : a ∉ bs := not_mem_of_deeper (.tuple h1 h2 h3 r0) (by simp only [PyData.depth]; omega) m
    simp only [PyData.depth] at hu
    simp only [PyData.shown] at hQ
    refine call_repr_slot (by omega) ⟨o1, k0 _ _ h1, h2⟩ F.slot_tuple_repr ?_
    exact call_tuple_reprK h1 h2 h3 q k hin (fun b _ => Clear.nil b) (by show A.units + 1 + _ < _; omega) k0 (fun h' u tk hk => ⟨_, _, rfl, hQ h' u tk hk⟩) z1
  | dk h1 h2 h3 ne h4 h5 =>
    rename_i o1 es n kvs
    have z1 : (dictText (PyData.shownKv kvs)).length ≤ sizeLine := by simpa only [PyData.shown] using z
    obtain ⟨q1, q2⟩ := PyData.showableKv_split kvs (by simpa [PyData.showable] using o)
    obtain ⟨b1, m1, k1⟩ := RdXA.kp (pr := pr) (w := w) h4 q1 fun t ht => by
      obtain ⟨p, hp, hl⟩ := PyData.shownKv_key_le kvs t ht
      exact Nat.le_trans hl (Nat.le_trans (dictText_mem_le hp) z1)
    obtain ⟨b2, m2, k2⟩ := RdXA.kp (pr := pr) (w := w) h5 q2 fun t ht => by
      obtain ⟨p, hp, hl⟩ := PyData.shownKv_val_le kvs t ht
      exact Nat.le_trans hl (Nat.le_trans (dictText_mem_le hp) z1)
    obtain ⟨as1, r1⟩ := RdXA.rd h4
    obtain ⟨as2, r2⟩ := RdXA.rd h5
    have m := (m1.mono (PyData.depthAll_keys_le kvs)).append (m2.mono (PyData.depthAll_vals_le kvs))
    have q : a ∉ b1 ++ b2 := not_mem_of_deeper (.dict h1 h2 h3 r1 r2) (by simp only [PyData.depth]; omega) m
    simp only [PyData.depth] at hu
    simp only [PyData.shown, PyData.shownKv_eq] at hQ
    refine call_repr_slot (by omega) ⟨o1, k0 _ _ h1, h2⟩ F.slot_dict_repr ?_
    exact call_dict_reprK h1 h2 h3 (beq_eq_false_iff_ne.mpr ne) q (ReprEntriesK.of_two es.toList _ _ (k1.more_le (fun b y => List.mem_append_left _ y) (PyData.depthAll_keys_le kvs)) (k2.more_le (fun b y => List.mem_append_right _ y) (PyData.depthAll_vals_le kvs))) hin (fun b _ => Clear.nil b) (by show A.units + 1 + _ < _; omega) k0 (fun h' u tk hk => ⟨_, _, rfl, hQ h' u tk hk⟩) (by rw [← PyData.shownKv_eq]; exact z1)
end
end Cal


namespace Cal
open PySem PySem.Spec PyProof.Rows L2
/-! ### data that can be shown, and how long its text is -/
def okKey : Key → Bool
  | .inl i => decide (i.natAbs < 10 ^ 60) | .inr s => PyData.strOk s
def wdKey : Key → Nat
  | .inl _ => 210 | .inr s => 10 * s.length + 2
mutual
def okD : D → Bool
  | .non => true | .bl _ => true | .int i => decide (i.natAbs < 10 ^ 60) | .str s => PyData.strOk s | .raw _ => false
  | .lst ds => okA ds | .tup ds => okA ds | .dk kvs => okK kvs | .dt _ => false | .obj _ _ => false
def okA : List D → Bool
  | [] => true | d :: ds => okD d && okA ds
def okK : List (Key × D) → Bool
  | [] => true | (k, d) :: r => okKey k && okD d && okK r
end
mutual
def wd : D → Nat
  | .non => 5 | .bl _ => 5 | .int _ => 210 | .str s => 10 * s.length + 2 | .raw _ => 0
  | .lst ds => wdA ds + 3 | .tup ds => wdA ds + 3 | .dk kvs => wdK kvs + 2 | .dt _ => 0 | .obj _ _ => 0
def wdA : List D → Nat
  | [] => 0 | d :: ds => wd d + 2 + wdA ds
def wdK : List (Key × D) → Nat
  | [] => 0 | (k, d) :: r => wdKey k + wd d + 4 + wdK r
end
mutual
def noD : D → Bool
  | .lst ds => noDA ds | .tup ds => noDA ds | .dk _ => false | .dt _ => false | .obj _ _ => false | _ => true
def noDA : List D → Bool
  | [] => true | d :: ds => noD d && noDA ds
end
mutual
def noL : D → Bool
  | .lst _ => false | .tup ds => noLA ds | .dk kvs => kvs.isEmpty | _ => true
def noLA : List D → Bool
  | [] => true | d :: ds => noL d && noLA ds
end
theorem okA_app : ∀ (a b : List D), okA (a ++ b) = (okA a && okA b)
  | [], b => by simp [okA]
  | x :: a, b => by simp [okA, okA_app a b, Bool.and_assoc]
theorem noDA_app : ∀ (a b : List D), noDA (a ++ b) = (noDA a && noDA b)
  | [], b => by simp [noDA]
  | x :: a, b => by simp [noDA, noDA_app a b, Bool.and_assoc]
theorem noLA_app : ∀ (a b : List D), noLA (a ++ b) = (noLA a && noLA b)
  | [], b => by simp [noLA]
  | x :: a, b => by simp [noLA, noLA_app a b, Bool.and_assoc]
theorem wdA_app : ∀ (a b : List D), wdA (a ++ b) = wdA a + wdA b
  | [], b => by simp [wdA]
  | x :: a, b => by
    show wd x + 2 + wdA (a ++ b) = wd x + 2 + wdA a + wdA b
    rw [wdA_app a b]; omega
theorem depA_app : ∀ (a b : List D), depA (a ++ b) = max (depA a) (depA b)
  | [], b => by simp [depA]
  | x :: a, b => by
    show max (dep x) (depA (a ++ b)) = max (max (dep x) (depA a)) (depA b)
    rw [depA_app a b]; omega
theorem okA_all {ds : List D} (h : ∀ d ∈ ds, okD d = true) : okA ds = true := by
  induction ds with
  | nil => rfl
  | cons d r ih => simp [okA, h d (List.mem_cons_self ..), ih fun e he => h e (List.mem_cons_of_mem _ he)]
theorem noDA_all {ds : List D} (h : ∀ d ∈ ds, noD d = true) : noDA ds = true := by
  induction ds with
  | nil => rfl
  | cons d r ih => simp [noDA, h d (List.mem_cons_self ..), ih fun e he => h e (List.mem_cons_of_mem _ he)]
theorem noLA_all {ds : List D} (h : ∀ d ∈ ds, noL d = true) : noLA ds = true := by
  induction ds with
  | nil => rfl
  | cons d r ih => simp [noLA, h d (List.mem_cons_self ..), ih fun e he => h e (List.mem_cons_of_mem _ he)]
theorem okA_mem : ∀ {ds : List D}, okA ds = true → ∀ d ∈ ds, okD d = true
  | e :: r, h, d, hd => by
    have h' : okD e = true ∧ okA r = true := by simpa [okA] using h
    rcases List.mem_cons.mp hd with z | z
    · rw [z]; exact h'.1
    · exact okA_mem h'.2 d z
theorem wdA_mem : ∀ {ds : List D} {d : D}, d ∈ ds → wd d + 2 ≤ wdA ds
  | e :: r, d, hd => by
    unfold wdA
    rcases List.mem_cons.mp hd with z | z
    · rw [z]; omega
    · have := wdA_mem z; omega
theorem depA_mem : ∀ {ds : List D} {d : D}, d ∈ ds → dep d ≤ depA ds
  | e :: r, d, hd => by
    unfold depA
    rcases List.mem_cons.mp hd with z | z
    · rw [z]; omega
    · have := depA_mem z; omega
theorem wdA_len : ∀ ds : List D, 2 * ds.length ≤ wdA ds
  | [] => Nat.le_refl _
  | e :: r => by
    have := wdA_len r
    unfold wdA
    rw [List.length_cons]; omega
theorem wdA_le {ds : List D} {n : Nat} (h : ∀ d ∈ ds, wd d ≤ n) : wdA ds ≤ ds.length * (n + 2) := by
  induction ds with
  | nil => exact Nat.zero_le _
  | cons d r ih =>
    have h1 := h d (List.mem_cons_self ..)
    have h2 := ih fun e he => h e (List.mem_cons_of_mem _ he)
    unfold wdA
    rw [List.length_cons, Nat.succ_mul]; omega
theorem depA_le {ds : List D} {n : Nat} (h : ∀ d ∈ ds, dep d ≤ n) : depA ds ≤ n := by
  induction ds with
  | nil => exact Nat.zero_le _
  | cons d r ih =>
    have h1 := h d (List.mem_cons_self ..)
    have h2 := ih fun e he => h e (List.mem_cons_of_mem _ he)
    unfold depA
    omega
mutual
theorem sm_of : ∀ {d : D}, okD d = true → wd d ≤ 1000000 → Sm d
  | .non, _, _ => True.intro
  | .bl _, _, _ => True.intro
  | .int i, h, _ => by
    unfold okD at h
    show i.natAbs < 10 ^ 60
    exact of_decide_eq_true h
  | .str s, h, w => ⟨by have w' : 10 * s.length + 2 ≤ 1000000 := w; omega, by simpa only [okD] using h⟩
  | .raw _, h, _ => by simp [okD] at h
  | .dt _, h, _ => by simp [okD] at h
  | .obj _ _, h, _ => by simp [okD] at h
  | .dk kvs, h, w => smK_of (by simpa only [okD] using h) (by have w' : wdK kvs + 2 ≤ 1000000 := w; omega)
  | .lst ds, h, w => by
    have w' : wdA ds + 3 ≤ 1000000 := w
    have := wdA_len ds
    exact ⟨by omega, smA_of (by simpa only [okD] using h) (by omega)⟩
  | .tup ds, h, w => by
    have w' : wdA ds + 3 ≤ 1000000 := w
    have := wdA_len ds
    exact ⟨by omega, smA_of (by simpa only [okD] using h) (by omega)⟩
theorem smA_of : ∀ {ds : List D}, okA ds = true → wdA ds ≤ 1000000 → SmA ds
  | [], _, _ => True.intro
  | d :: ds, h, w => by
    have h' : okD d = true ∧ okA ds = true := by simpa [okA] using h
    have w' : wd d + 2 + wdA ds ≤ 1000000 := w
    exact ⟨sm_of h'.1 (by omega), smA_of h'.2 (by omega)⟩
theorem smK_of : ∀ {ds : List (Key × D)}, okK ds = true → wdK ds ≤ 1000000 → SmK ds
  | [], _, _ => True.intro
  | (k, d) :: r, h, w => by
    have h' : (okKey k = true ∧ okD d = true) ∧ okK r = true := by simpa [okK] using h
    have w' : wdKey k + wd d + 4 + wdK r ≤ 1000000 := w
    refine ⟨?_, sm_of h'.1.2 (by omega), smK_of h'.2 (by omega)⟩
    cases k with
    | inl i => exact of_decide_eq_true h'.1.1
    | inr s => exact h'.1.1
end
/-! ### its text -/
theorem lg_of {i : Int} (h : i.natAbs < 10 ^ 60) : i.natAbs.log2 < 201 := by
  by_cases h0 : i.natAbs = 0
  · rw [h0]; decide
  · exact Nat.lt_of_lt_of_le ((Nat.log2_lt h0).mpr (Nat.lt_of_lt_of_le h (by decide +kernel : 10 ^ 60 ≤ 2 ^ 200))) (by decide)
theorem showable_key {k : Key} (h : okKey k = true) : (pyKey k).showable = true := by
  cases k with
  | inl i =>
    have h' : i.natAbs < 10 ^ 60 := of_decide_eq_true h
    simp only [pyKey, PyData.showable]
    exact decide_eq_true (Nat.lt_of_lt_of_le (lg_of h') (by decide))
  | inr s => simp [pyKey, PyData.showable]
mutual
theorem showable_py : ∀ d : D, okD d = true → (py d).showable = true
  | .non, _ => by simp [py, PyData.showable]
  | .bl b, _ => by simp [py, PyData.showable]
  | .int i, h => by
    have h' : i.natAbs < 10 ^ 60 := of_decide_eq_true (by simpa only [okD] using h)
    simp only [py, PyData.showable]
    exact decide_eq_true (Nat.lt_of_lt_of_le (lg_of h') (by decide))
  | .str s, h => by simp [py, PyData.showable]
  | .raw u, p => by simp [okD] at p
  | .lst ds, p => by simpa only [py, PyData.showable] using showable_pyA ds (by simpa only [okD] using p)
  | .tup ds, p => by simpa only [py, PyData.showable] using showable_pyA ds (by simpa only [okD] using p)
  | .dk ds, p => by simpa only [py, PyData.showable] using showable_pyK ds (by simpa only [okD] using p)
  | .dt ds, p => by simp [okD] at p
  | .obj _ _, p => by simp [okD] at p
theorem showable_pyA : ∀ ds : List D, okA ds = true → PyData.showableAll (pyA ds) = true
  | [], _ => by simp [pyA, PyData.showableAll]
  | d :: ds, p => by
    have p' : okD d = true ∧ okA ds = true := by simpa [okA] using p
    simp [pyA, PyData.showableAll, showable_py d p'.1, showable_pyA ds p'.2]
theorem showable_pyK : ∀ ds : List (Key × D), okK ds = true → PyData.showableKv (pyK ds) = true
  | [], _ => by simp [pyK, PyData.showableKv]
  | (k, d) :: r, p => by
    have p' : (okKey k = true ∧ okD d = true) ∧ okK r = true := by simpa [okK] using p
    simp [pyK, PyData.showableKv, showable_key p'.1.1, showable_py d p'.1.2, showable_pyK r p'.2]
end
mutual
theorem hasDict_py : ∀ d : D, noD d = true → (py d).hasDict = false
  | .non, _ => by simp [py, PyData.hasDict]
  | .bl b, _ => by simp [py, PyData.hasDict]
  | .int i, h => by simp [py, PyData.hasDict]
  | .str s, h => by simp [py, PyData.hasDict]
  | .raw u, p => by simp [py, PyData.hasDict]
  | .lst ds, p => by simpa only [py, PyData.hasDict] using hasDict_pyA ds (by simpa only [noD] using p)
  | .tup ds, p => by simpa only [py, PyData.hasDict] using hasDict_pyA ds (by simpa only [noD] using p)
  | .dk ds, p => by simp [noD] at p
  | .dt ds, p => by simp [noD] at p
  | .obj _ _, p => by simp [noD] at p
theorem hasDict_pyA : ∀ ds : List D, noDA ds = true → PyData.hasDictAll (pyA ds) = false
  | [], _ => by simp [pyA, PyData.hasDictAll]
  | d :: ds, p => by
    have p' : noD d = true ∧ noDA ds = true := by simpa [noDA] using p
    simp [pyA, PyData.hasDictAll, hasDict_py d p'.1, hasDict_pyA ds p'.2]
end
theorem listText_len (ts : List Str) : (listText ts).length ≤ piled ts + 3 := by
  cases ts with
  | nil => decide
  | cons t r =>
    have h := textFrom_length_pos r 1 (("[" : Str) ++ (if (0 : Nat) > 0 then ", " else "" : String) ++ t) (Nat.succ_pos 0)
    have e : ((("[" : Str) ++ (if (0 : Nat) > 0 then ", " else "" : String) ++ t)).length = 1 + t.length := by
      rw [strLen_append, strLen_append]; rfl
    show (textFrom 1 (("[" : Str) ++ (if (0 : Nat) > 0 then ", " else "" : String) ++ t) r ++ "]").length ≤ _
    rw [strLen_append, h, e, piled_cons]
    show 1 + t.length + piled r + 1 ≤ _
    omega
theorem tupleText_len (ts : List Str) : (tupleText ts).length ≤ piled ts + 3 := by
  unfold tupleText
  rw [strLen_append, strLen_append]
  have e1 : ((("(" : String) : Str)).length = 1 := rfl
  have e3 : (((if ts.length == 1 then ",)" else ")" : String) : Str)).length ≤ 2 := by split <;> decide
  rw [e1]
  by_cases h : ts = []
  · subst h
    have : (Str.join ", " ([] : List Str)).length = 0 := rfl
    rw [this]; omega
  · have := join_length_add ts h
    omega
theorem dictText_len (ts : List Str) : (dictText ts).length ≤ piled ts + 2 := by
  unfold dictText
  rw [strLen_append, strLen_append]
  have e1 : ((("{" : String) : Str)).length = 1 := rfl
  have e2 : ((("}" : String) : Str)).length = 1 := rfl
  rw [e1, e2]
  by_cases h : ts = []
  · subst h
    have : (Str.join ", " ([] : List Str)).length = 0 := rfl
    rw [this]; omega
  · have := join_length_add ts h
    omega
theorem int_len {i : Int} (h : i.natAbs < 10 ^ 60) : (PyData.shown (.int i)).length ≤ 210 := by
  simp only [PyData.shown]
  have := int_text_length_le (a := i) (k := 201) (by decide) (lg_of h)
  have e : (Str.ofString (toString i)).length = (toString i).length := PySem.ofString_length _
  show (Str.ofString (toString i)).length ≤ 210
  rw [e]; omega
theorem str_len {s : Str} (h : PyData.strOk s = true) : (PyData.shown (.str s)).length ≤ 10 * s.length + 2 := by
  simp only [PyData.shown]
  refine StrLaws.reprText_len s fun c hc => ?_
  unfold PyData.strOk at h
  have := Array.all_eq_true_iff_forall_mem.mp h c (Array.mem_toList_iff.mp hc)
  have := of_decide_eq_true this
  omega
theorem key_len {k : Key} (h : okKey k = true) : (pyKey k).shown.length ≤ wdKey k := by
  cases k with
  | inl i => exact int_len (of_decide_eq_true h)
  | inr s => exact str_len h
mutual
theorem shown_len : ∀ d : D, okD d = true → (py d).shown.length ≤ wd d
  | .non, _ => by simp only [py, PyData.shown]; decide
  | .bl b, _ => by cases b <;> (simp only [py, PyData.shown]; decide)
  | .int i, h => by
    have h' : i.natAbs < 10 ^ 60 := of_decide_eq_true (by simpa only [okD] using h)
    simp only [py, PyData.shown, wd]
    have := int_text_length_le (a := i) (k := 201) (by decide) (lg_of h')
    have e : (Str.ofString (toString i)).length = (toString i).length := PySem.ofString_length _
    show (Str.ofString (toString i)).length ≤ 210
    rw [e]; omega
  | .str s, h => by
    simp only [py, PyData.shown, wd]
    refine StrLaws.reprText_len s fun c hc => ?_
    have h' : PyData.strOk s = true := by simpa only [okD] using h
    unfold PyData.strOk at h'
    have := Array.all_eq_true_iff_forall_mem.mp h' c (Array.mem_toList_iff.mp hc)
    have := of_decide_eq_true this
    omega
  | .raw u, p => by simp [okD] at p
  | .lst ds, p => by
    simp only [py, PyData.shown, wd]
    have := listText_len (PyData.shownAll (pyA ds))
    have := shown_lenA ds (by simpa only [okD] using p)
    omega
  | .tup ds, p => by
    simp only [py, PyData.shown, wd]
    have := tupleText_len (PyData.shownAll (pyA ds))
    have := shown_lenA ds (by simpa only [okD] using p)
    omega
  | .dk ds, p => by
    simp only [py, PyData.shown, wd]
    have := dictText_len (PyData.shownKv (pyK ds))
    have := shown_lenK ds (by simpa only [okD] using p)
    omega
  | .dt ds, p => by simp [okD] at p
  | .obj _ _, p => by simp [okD] at p
theorem shown_lenA : ∀ ds : List D, okA ds = true → piled (PyData.shownAll (pyA ds)) ≤ wdA ds
  | [], _ => by simp [pyA, PyData.shownAll, piled_nil]
  | d :: ds, p => by
    have p' : okD d = true ∧ okA ds = true := by simpa [okA] using p
    have h1 := shown_len d p'.1
    have h2 := shown_lenA ds p'.2
    simp only [pyA, PyData.shownAll, wdA, piled_cons]
    omega
theorem shown_lenK : ∀ ds : List (Key × D), okK ds = true → piled (PyData.shownKv (pyK ds)) ≤ wdK ds
  | [], _ => by simp [pyK, PyData.shownKv, piled_nil]
  | (k, d) :: r, p => by
    have p' : (okKey k = true ∧ okD d = true) ∧ okK r = true := by simpa [okK] using p
    have h0 := key_len p'.1.1
    have h1 := shown_len d p'.1.2
    have h2 := shown_lenK r p'.2
    simp only [pyK, PyData.shownKv, wdK, piled_cons]
    rw [strLen_append, strLen_append]
    have e : (((": " : String) : Str)).length = 2 := rfl
    rw [e]
    omega
end
/-! ### read off the heap -/
section
variable {X : Cx} {pins : List (Addr × Obj)} {σ : L2.St} {H G : Hp} {s : Shared}
mutual
theorem Dt.rds (I : Inv X pins σ H s) (e : Same G H) : ∀ (d : D) {v : V} {u : Value}, okD d = true → Dt X.K G d v → RelV v u → RdX s.heap u (py d)
  | .non, _, _, _, h, r => by
    rw [show _ = V.non from h] at r
    cases r
    simpa only [py] using RdX.none
  | .bl b, _, _, _, h, r => by
    rw [show _ = V.bl b from h] at r
    cases r
    simpa only [py] using RdX.bl b
  | .int i, _, _, _, h, r => by
    rw [show _ = V.int i from h] at r
    obtain ⟨t, rfl⟩ := r
    simpa only [py] using RdX.int i t
  | .str x, _, _, _, h, r => by
    rw [show _ = V.str x from h] at r
    obtain ⟨t, rfl⟩ := r
    simpa only [py] using RdX.str x t
  | .raw u, _, _, p, _, _ => by simp [okD] at p
  | .dt u, _, _, p, _, _ => by simp [okD] at p
  | .obj _ _, _, _, p, _, _ => by simp [okD] at p
  | .lst ds, _, _, p, ⟨a, vs, h1, h2, h3⟩, r => by
    rw [h1] at r
    cases r
    obtain ⟨its, rv, ⟨o, n, ho, hc, _, hd⟩, _⟩ := I.list (xs := vs) (.inl (.inl (e _ _ h2)))
    simp only [py]
    exact .lst ho hc hd (DtA.rds I e ds (by simpa only [okD] using p) h3 rv)
  | .tup ds, _, _, p, ⟨a, vs, h1, h2, h3⟩, r => by
    rw [h1] at r
    cases r
    obtain ⟨its, rv, ⟨o, ho, hc, n, hd⟩, _⟩ := I.tuple (xs := vs) (.inl (.inl (e _ _ h2)))
    simp only [py]
    exact .tup ho hc hd (DtA.rds I e ds (by simpa only [okD] using p) h3 rv)
  | .dk kvs, _, _, p, ⟨a, vs, h1, h2, h3⟩, r => by
    rw [h1] at r
    cases r
    obtain ⟨_, hm, ws, kw, ⟨o, es, ep, g1, g2, g3, _, g4, _⟩⟩ := dk_of I.hok (e _ _ h2)
    obtain ⟨q1, q2⟩ := DtK.rds I e kvs (by simpa only [okD] using p) h3 kw g4
    simp only [py]
    exact .dk g1 g2.1 g3 (fun z => by rw [z] at hm; simp at hm) q1 q2
theorem DtA.rds (I : Inv X pins σ H s) (e : Same G H) : ∀ (ds : List D) {vs : List V} {us : List Value}, okA ds = true → DtA X.K G ds vs → Vals vs us → RdXA s.heap us (pyA ds)
  | [], _, _, _, h, r => by
    rw [show _ = [] from h] at r
    cases r
    simpa only [pyA] using RdXA.nil
  | d :: ds, _, _, p, ⟨v, w, h1, h2, h3⟩, r => by
    have p' : okD d = true ∧ okA ds = true := by simpa [okA] using p
    rw [h1] at r
    cases r with
    | cons r1 r2 =>
      simp only [pyA]
      exact .cons (Dt.rds I e d p'.1 h2 r1) (DtA.rds I e ds p'.2 h3 r2)
theorem DtK.rds (I : Inv X pins σ H s) (e : Same G H) : ∀ (ds : List (Key × D)) {vs : List (Key × V)} {ws : List (Key × Value)} {es : List DictEntry}, okK ds = true → DtK X.K G ds vs → KV vs ws → Pairs (mixKind X.prog X.w) es ws → RdXA s.heap (es.map (·.key)) ((pyK ds).map (·.1)) ∧ RdXA s.heap (es.map (·.val)) ((pyK ds).map (·.2))
  | [], _, _, _, _, h, kw, g => by
    rw [show _ = [] from h] at kw
    cases kw
    cases g
    exact ⟨.nil, .nil⟩
  | (k, d) :: r, _, _, _, p, ⟨v, w, h1, h2, h3⟩, kw, g => by
    have p' : (okKey k = true ∧ okD d = true) ∧ okK r = true := by simpa [okK] using p
    rw [h1] at kw
    cases kw with
    | cons f1 f2 =>
      obtain ⟨e1, rv⟩ := f1
      cases g with
      | cons i1 i2 i3 =>
        obtain ⟨q1, q2⟩ := DtK.rds I e r p'.2 h3 f2 i3
        simp only [pyK, List.map_cons]
        refine ⟨.cons ?_ q1, .cons ?_ q2⟩
        · rw [← e1] at i1
          rcases keyIs_shape i1 with ⟨i, t, e2, e3⟩ | ⟨x, t, e2, e3⟩
          · rw [e3, show k = Sum.inl i from e2]; exact RdX.int i t
          · rw [e3, show k = Sum.inr x from e2]; exact RdX.str x t
        · rw [i2]; exact Dt.rds I e d p'.1.2 h2 rv
end
end
end Cal


namespace Cal
open PySem PySem.Spec PyProof.Rows L2
/-! ### repr where no repr is under way -/
def rRp (K : PySem.W.Frag) : List V → Hp → VK → Prop := fun xs H Q => ∃ (v : V) (d : D) (G : Hp), xs = [v] ∧ Same G H ∧ Dt K G d v ∧ okD d = true ∧ wd d ≤ 1000000 ∧ dep d ≤ 20 ∧ Q (.str (py d).shown) H
theorem shown_fits {d : D} (h : okD d = true) (w : wd d ≤ 1000000) : (py d).shown.length ≤ sizeLine := Nat.le_trans (shown_len d h) (Nat.le_trans w (by decide))
theorem u_repr {X : Cx} (hg : X.A.guards = some []) (hu : X.A.units + 64 < cLine) : CallR X (.builtin "repr") (rRp X.K) := by
  intro pins s σ H xs us Q I r h
  obtain ⟨v, d, G, rfl, e, hd, ho, hw, hp, q⟩ := h
  obtain ⟨u, rfl, rx⟩ := vals1 r
  have fl : ∀ tk u', EP X pins σ Q (.str (py d).shown u') { s with toks := tk } := fun tk u' => ⟨.str (py d).shown, H, I.kept (t' := tk) fun b o z => z, ⟨u', rfl⟩, q⟩
  have hr := Dt.rds I e d ho hd rx
  have hsz := shown_fits ho hw
  have big : ∀ a, RdX s.heap (.ref a) (py d) → wpAny (model X.prog X.w) X.A (call (.builtin "repr") [.ref a]) (EP X pins σ Q) X.xe s := fun a hr =>
    RdX.repr hr (showable_py d ho) hsz hg (by rw [depth_py]; omega) (fun b o z => z) fun h' u' tk kp => ⟨.str (py d).shown, H, I.kept (t' := tk) kp, ⟨u', rfl⟩, q⟩
  cases d with
  | non =>
    rw [show v = V.non from hd] at rx
    cases rx
    exact P.repr_of_none (by have := fl (s.toks + 1) s.toks; simpa only [py, PyData.shown] using this)
  | bl b =>
    rw [show v = V.bl b from hd] at rx
    cases rx
    exact P.repr_of_bool (by have := fl (s.toks + 1) s.toks; simpa only [py, PyData.shown] using this)
  | int i =>
    rw [show v = V.int i from hd] at rx
    obtain ⟨t, rfl⟩ := rx
    exact P.repr_of_int (by have := showable_py (.int i) ho; simpa only [py, PyData.showable, decide_eq_true_eq] using this) (by have := fl (s.toks + 1) s.toks; simpa only [py, PyData.shown] using this)
  | str x =>
    rw [show v = V.str x from hd] at rx
    obtain ⟨t, rfl⟩ := rx
    exact P.repr_of_str (by have := fl (s.toks + 1) s.toks; simpa only [py, PyData.shown] using this) (by simpa only [py, PyData.shown] using hsz)
  | raw u => simp [okD] at ho
  | dt u => simp [okD] at ho
  | obj u x => simp [okD] at ho
  | lst ds =>
    obtain ⟨a, vs, h1, h2, h3⟩ := hd
    rw [h1] at rx
    cases rx
    exact big a hr
  | tup ds =>
    obtain ⟨a, vs, h1, h2, h3⟩ := hd
    rw [h1] at rx
    cases rx
    exact big a hr
  | dk ds =>
    obtain ⟨a, vs, h1, h2, h3⟩ := hd
    rw [h1] at rx
    cases rx
    exact big a hr
section
variable {B : Bs} {ρ : Ro} {μ : Mu} {d : D} {te : TE}
theorem rc_rp (ho : okD d = true) (hn : noD d = true ∨ noL d = true) (hw : wd d ≤ 1000000) (hp : dep d ≤ 20) : RC B (rRp B.K) ρ μ [d] (fun e => e = .str (py d).shown) := fun τ σ H xs hl a Q q => by
  obtain ⟨G, g, h⟩ := a.args hl
  obtain ⟨v, rfl, hv⟩ := one_arg h
  exact ⟨v, d, G, rfl, g.sub, hv, ho, hw, hp, q _ _ _ rfl (At.flat ⟨G, g⟩ fun _ => rfl)⟩
end
/-! ### a def's run at one place -/
section
variable {CX : CXT} {P : Program} {w : World} {K : PySem.W.Frag} {mg : Str → Option Value} {base : Heap}
theorem run_of {k : Nat} {f : Addr} {name qual : Str} {params : Arguments} {body : List Stmt} {scope : Scope} {dV kV doc pm cdv ct oc : Value} {an od : Option Addr} {osl : Array (Option Value)} {N ps : List Str} {A : Around} {outer : List Env} {s : Shared} {H : Hp} {args : Args} {us : List Value} {vs : List V} {Q : VK} {E : XK}
    (lk : K.lookup f = some ⟨oc, od, .func (PySem.W.fnOf name qual params body scope dV kV doc pm an cdv ct), osl⟩) (hcd : PySem.W.codeIn K cdv qual = true) (S : FnScope N ps scope)
    (hl : vs.length = ps.length) (hr : Room (k + 1) A) (e0 : Env0 P w K mg base A outer s H) (hb : BindsTo s (PySem.W.fnOf name qual params body scope dV kV doc pm an cdv ct) args (ps.zip us)) (r : Vals vs us)
    (hq : ∃ t, PSs (cxOf CX P w K mg base N qual scope f cdv A outer s H E) body t ∧ t { nx := fun _ H' => Q .non H', rt := Q } (start N vs) H) :
    codeAny (model P w) A (.call (.ref f) args) (CR CX outer P w H s Q E) s := by
  have KX : K.In s.heap := e0.mod.kin.keeps fun b o z => (e0.bs b o z).1
  have nl : s.heap.NoLimit := e0.mod.nolimit.keeps fun b o z => (e0.bs b o z).1
  refine codeAny_call_function hr.depth (KX _ _ lk) rfl S.co S.gen rfl (PySem.W.codeRec_of KX hcd) (hb _ _ _ _ ?_)
  refine wpAny_newFunctionEnv_cells S.kind (fun z hz => ?_) fun fn h1 s1 hx => ?_
  · obtain ⟨n, x⟩ := z
    rcases S.par n (List.of_mem_zip hz).1 with y | y
    · exact .inl y
    · exact .inr ⟨y, PySem.W.cellsFrom_some _ _ _ (.inl y)⟩
  · subst h1
    refine ⟨nl.keeps hx.toInCall.keep, codeAny_func ?_⟩
    obtain ⟨t, ht, go⟩ := hq
    have J0 : Inv (cxOf CX P w K mg base N qual scope f cdv A outer s H E) [] (start N vs) H s1 := inv_start S hr.hd e0 hl r hx
    refine wpAny_mono (ht.run [] s1 (start N vs) H _ J0 go) (fun fl s' hs => ?_) fun _ _ hs => hs
    have last : ∀ {σ' : L2.St} {H' : Hp} {v : V} {u : Value}, Inv (cxOf CX P w K mg base N qual scope f cdv A outer s H E) [] σ' H' s' → RelV v u → Q v H' → CE outer P w H s Q u s' := fun J rv z => ⟨_, _, J.os, J.bare, J.base, J.hok, rv, z⟩
    cases fl with
    | ret u => exact hs.elim fun v hs => hs.elim fun σ' hs => hs.elim fun H' hs => last hs.1 hs.2.1 hs.2.2
    | next => exact hs.elim fun σ' hs => hs.elim fun H' hs => last (v := V.non) (u := Value.none) hs.1 rfl hs.2
    | brk => exact hs.elim fun _ hs => hs.elim fun _ hs => False.elim hs.2
    | cont => exact hs.elim fun _ hs => hs.elim fun _ hs => False.elim hs.2
/-- the law's own call, at the claim's caller -/
theorem law_at {mb : Str → Option Value} {fa a : Addr} {s₁ : Shared} {vs : List Value} {ns : List Int} (KX : K.In s₁.heap) (n1 : s₁.heap.Ns mainGlobals mg) (n2 : s₁.heap.Ns builtinsNs mb) (n3 : ∀ x : Str, x ≠ "__name__" → mb x = bootBuiltins x) (nl : s₁.heap.NoLimit) (hg : s₁.gens = #[])
    (ha : s₁.heap.get? a = some { cls := .type "list", data := .seq vs.toArray }) (hi : IntsAre vs ns) (hl : ns.length ≤ sizeLine)
    (F : ∀ (base : Heap) (H : Hp), Env0 P w K mg base callerA [] s₁ H → SqL K H a (ns.map V.int) → codeAny (model P w) callerA (.call (.ref fa) ⟨[.ref a], []⟩) (CR CX0 [] P w H s₁ (fun v _ => v = .bl true) fun _ _ _ => False) s₁) :
    codeAny (model P w) callerA (.call (.ref fa) ⟨[.ref a], []⟩) (fun r s' => r = .ok (.ret (.bool true)) ∧ OldK s₁.heap s'.heap ∧ s'.os = s₁.os ∧ AllBare s'.gens) s₁ := by
  have vv := vals_ints hi
  have vl := hi.length
  have main : ∀ H : Hp, Only H → SqL K H a (ns.map V.int) → HOk P w H s₁.heap → (∀ b, H b ≠ none → b = a ∧ K.lookup a = none) → codeAny (model P w) callerA (.call (.ref fa) ⟨[.ref a], []⟩) (fun r s' => r = .ok (.ret (.bool true)) ∧ OldK s₁.heap s'.heap ∧ s'.os = s₁.os ∧ AllBare s'.gens) s₁ := by
    intro H hO hS hok only
    have nd : ∀ {b : Addr} {o : Obj} {es : Array DictEntry} {ep : Nat}, s₁.heap.get? b = some o → o.data = .dict es ep → H b = none := fun {b o es ep} z y => by
      by_cases t : H b = none
      · exact t
      · obtain ⟨rfl, _⟩ := only b t
        rw [ha] at z
        have z2 := Option.some.inj z
        rw [← z2] at y
        exact absurd (show Data.seq vs.toArray _ = Data.dict es ep from y) (by intro q; cases q)
    have nsb : ∀ {b : Addr} {m : Str → Option Value}, s₁.heap.Ns b m → (hidT s₁.heap H).Ns b m := fun {b m} ⟨o, es, ep, z, y, t⟩ => ⟨o, es, ep, hidT_get z (nd z y), y, t⟩
    have kb : K.In (hidT s₁.heap H) := fun b o z => hidT_get (KX b o z) (by
      by_cases t : H b = none
      · exact t
      · obtain ⟨rfl, y⟩ := only b t
        rw [y] at z; cases z)
    have M0 : Mod K mg (hidT s₁.heap H) := ⟨kb, nsb n1, ⟨mb, nsb n2, n3⟩, nl.elim fun mc y => ⟨mc, nsb y.1, y.2⟩⟩
    have E0 : Env0 P w K mg (hidT s₁.heap H) callerA [] s₁ H := ⟨rfl, M0, fun b o z => of_hidT z, Nat.le_of_eq (hidT_size _ _), trivial, fun b y => (nomatch (show b ∈ ([] : List Addr) from y)), hok, .of_eq hg⟩
    refine codeAny_mono (F _ H E0 hS) fun r s' z => ?_
    match r, z with
    | .error e, z => exact False.elim z
    | .ok .next, z => exact False.elim z
    | .ok .brk, z => exact False.elim z
    | .ok .cont, z => exact False.elim z
    | .ok (.ret u), z =>
      obtain ⟨v, H', os, bare, un, hok', rv, hv⟩ := z
      have hv' : v = .bl true := hv
      subst hv'
      have hu : u = Value.bool true := rv
      subst hu
      refine ⟨rfl, OldK.of_keep fun b o z => ?_, os, bare⟩
      rcases hO b with y | ⟨ob, xs, y⟩
      · exact un.keep b o z y (fun t => (nomatch (show b ∈ ([] : List Addr) from t))) (by simp)
      · obtain ⟨z1, _⟩ := hok b _ y
        obtain ⟨z2, _⟩ := hok' b _ (un.frzs b ob _ y)
        rw [z] at z1
        rw [z2]; exact z1.symm
  cases hk : K.lookup a with
  | none =>
    have hH : ∀ b u, (if b = a then some (HO.frz { cls := .type "list", data := .seq vs.toArray } (.lst (ns.map V.int))) else none) = some u → b = a ∧ u = HO.frz { cls := .type "list", data := .seq vs.toArray } (.lst (ns.map V.int)) := fun b u z => by
      split at z
      · rename_i y; exact ⟨y, (Option.some.inj z).symm⟩
      · cases z
    refine main (fun b => if b = a then some (.frz { cls := .type "list", data := .seq vs.toArray } (.lst (ns.map V.int))) else none) (fun b => ?_) (.inl (.inr ⟨_, if_pos rfl⟩)) (fun b u z => ?_) fun b z => ?_
    · by_cases y : b = a
      · exact .inr ⟨_, _, if_pos y⟩
      · exact .inl (if_neg y)
    · obtain ⟨rfl, rfl⟩ := hH b u z
      exact ⟨ha, by rw [List.length_map]; exact hl, vs, _, vv, ha⟩
    · by_cases y : b = a
      · exact ⟨y, hk⟩
      · exact absurd (if_neg y) z
  | some o =>
    have y := KX a o hk
    rw [ha] at y
    cases y
    exact main (fun _ => none) (fun _ => .inl rfl) (.inr ⟨_, vs.toArray, _, hk, rfl, rfl, rfl, by rw [List.size_toArray, vl]; exact hl, by simpa using vv⟩) (fun b u z => (nomatch (show (none : Option HO) = some u from z))) fun b z => absurd rfl z
end
theorem walk_at {l : PySem.W.OpenLaw} {n : Nat} {q : Program} {loose : List Str} {XP : (Str → Option Value) → Heap → Prop} {YP : World → Heap → Prop} {d : DefRec} {K : Params → PySem.W.Frag} (hn : l.most = some n) (hn2 : n ≤ sizeLine) (hdf : d.params.defaults = []) (hY : ∀ (w : World) (h : Heap), YP w h → (K w.params).In h)
    (F : ∀ (w : World) (mg : Str → Option Value) (fa : Addr) (s₁ : Shared), (K w.params).In s₁.heap → s₁.heap.Ns mainGlobals mg → mg d.name = some (.ref fa) → ∀ (base : Heap) (H : Hp) (a : Addr) (ns : List Int), ns.length ≤ n → Env0 l.prog w (K w.params) mg base callerA [] s₁ H → SqL (K w.params) H a (ns.map V.int) →
      codeAny (model l.prog w) callerA (.call (.ref fa) ⟨[.ref a], []⟩) (CR CX0 [] l.prog w H s₁ (fun v _ => v = .bl true) fun _ _ _ => False) s₁) :
    PySem.W.WalkO q loose XP YP l.row.toRowW d [] (fun f vs => PySem.call f vs) := by
  refine Att.attach_call hn hdf fun w s₀ s₁ mg mb fa o pm cd doc a vs ns G Y ho hd hcd hmg hobj hints hlen hg => ?_
  have KX := hY w _ Y
  exact law_at KX G.T.g G.T.b G.T.builtins G.T.nolimit hg hobj hints (Nat.le_trans hlen hn2) fun base H e0 hS => F w mg fa s₁ KX G.T.g hmg base H a ns hlen e0 hS
end Cal


namespace Cal
open PySem PySem.Spec PyProof.Rows L2
/-! ### things -/
structure Th (n k : Nat) (d : D) : Prop where
  ok : okD d = true
  w : wd d ≤ n
  dp : dep d ≤ k
  nn : noD d = true ∨ noL d = true
theorem Th.mono {n k n' k' : Nat} {d : D} (h : Th n k d) (a : n ≤ n') (b : k ≤ k') : Th n' k' d := ⟨h.ok, Nat.le_trans h.w a, Nat.le_trans h.dp b, h.nn⟩
def ThA (n k : Nat) : List D → Prop
  | [] => True | d :: r => Th n k d ∧ ThA n k r
theorem ThA.mem {n k : Nat} : ∀ {ds : List D}, ThA n k ds → ∀ d ∈ ds, Th n k d
  | e :: r, h, d, hd => by
    rcases List.mem_cons.mp hd with z | z
    · rw [z]; exact h.1
    · exact ThA.mem h.2 d z
/-- neither list nor dict in it -/
def cl (d : D) : Bool := okD d && noD d && noL d
theorem cl_iff {d : D} : cl d = true ↔ okD d = true ∧ noD d = true ∧ noL d = true := by
  unfold cl
  rw [Bool.and_eq_true, Bool.and_eq_true, and_assoc]
theorem cl_tup {ds : List D} : cl (.tup ds) = true ↔ ∀ d ∈ ds, cl d = true := by
  induction ds with
  | nil => simp [cl, okD, okA, noD, noDA, noL, noLA]
  | cons d r ih =>
    rw [List.forall_mem_cons, ← ih]
    simp only [cl, okD, okA, noD, noDA, noL, noLA, Bool.and_eq_true]
    constructor
    · rintro ⟨⟨⟨a, b⟩, c, d⟩, e, f⟩; exact ⟨⟨⟨a, c⟩, e⟩, ⟨b, d⟩, f⟩
    · rintro ⟨⟨⟨a, c⟩, e⟩, ⟨b, d⟩, f⟩; exact ⟨⟨⟨a, b⟩, c, d⟩, e, f⟩
theorem Th.clean {n k : Nat} {d : D} (h : cl d = true) (hw : wd d ≤ n) (hd : dep d ≤ k) : Th n k d := ⟨(cl_iff.mp h).1, hw, hd, .inl (cl_iff.mp h).2.1⟩
theorem Th.tup {n k : Nat} {ds : List D} (h : ∀ d ∈ ds, cl d = true) (hw : wdA ds + 3 ≤ n) (hd : depA ds + 1 ≤ k) : Th n k (.tup ds) := .clean (cl_tup.mpr h) hw hd
theorem Th.lst {n k : Nat} {ds : List D} (h : ∀ d ∈ ds, cl d = true) (hw : wdA ds + 3 ≤ n) (hd : depA ds + 1 ≤ k) : Th n k (.lst ds) :=
  ⟨by show okA ds = true; exact okA_all fun d hd => (cl_iff.mp (h d hd)).1, hw, hd, .inl (by show noDA ds = true; exact noDA_all fun d hd => (cl_iff.mp (h d hd)).2.1)⟩
/-- one item of a clean tuple put by a thing -/
theorem Th.put {n k : Nat} {as bs : List D} {e : D} {m j : Nat} (ha : ∀ d ∈ as, cl d = true) (hb : ∀ d ∈ bs, cl d = true) (he : Th m j e) (hw : wdA as + (m + 2) + wdA bs + 3 ≤ n) (hd : max (depA as) (max j (depA bs)) + 1 ≤ k) : Th n k (.tup (as ++ [e] ++ bs)) := by
  refine ⟨?_, ?_, ?_, ?_⟩
  · show okA (as ++ [e] ++ bs) = true
    rw [okA_app, okA_app, okA_all fun d hd => (cl_iff.mp (ha d hd)).1, okA_all fun d hd => (cl_iff.mp (hb d hd)).1]
    simp [okA, he.ok]
  · show wdA (as ++ [e] ++ bs) + 3 ≤ n
    have := he.w
    rw [wdA_app, wdA_app]
    show wdA as + (wd e + 2 + 0) + wdA bs + 3 ≤ n
    omega
  · show depA (as ++ [e] ++ bs) + 1 ≤ k
    have := he.dp
    rw [depA_app, depA_app]
    show max (max (depA as) (max (dep e) 0)) (depA bs) + 1 ≤ k
    omega
  · rcases he.nn with z | z
    · left
      show noDA (as ++ [e] ++ bs) = true
      rw [noDA_app, noDA_app, noDA_all fun d hd => (cl_iff.mp (ha d hd)).2.1, noDA_all fun d hd => (cl_iff.mp (hb d hd)).2.1]
      simp [noDA, z]
    · right
      show noLA (as ++ [e] ++ bs) = true
      rw [noLA_app, noLA_app, noLA_all fun d hd => (cl_iff.mp (ha d hd)).2.2, noLA_all fun d hd => (cl_iff.mp (hb d hd)).2.2]
      simp [noLA, z]
theorem wdA_cons {d : D} {r : List D} : wdA (d :: r) = wd d + 2 + wdA r := rfl
theorem wdA_sub {as bs : List D} (h : as.Sublist bs) : wdA as ≤ wdA bs := by
  induction h with
  | slnil => exact Nat.le_refl _
  | cons a _ ih => rw [wdA_cons]; omega
  | cons_cons a _ ih => rw [wdA_cons, wdA_cons]; omega
theorem depA_sub {as bs : List D} (h : ∀ d ∈ as, d ∈ bs) : depA as ≤ depA bs := depA_le fun d hd => depA_mem (h d hd)
theorem wdA_perm {as bs : List D} (h : as.Perm bs) : wdA as = wdA bs := by
  induction h with
  | nil => rfl
  | cons x _ ih => rw [wdA_cons, wdA_cons]; omega
  | swap x y l => show wd y + 2 + (wd x + 2 + wdA l) = wd x + 2 + (wd y + 2 + wdA l); omega
  | trans _ _ h1 h2 => omega
theorem cutD_sub (ds : List D) (lo hi : Option Int) : (cutD ds lo hi).Sublist ds := (List.take_sublist _ _).trans (List.drop_sublist _ _)
theorem cutD_take (ds : List D) {i : Int} (h : 0 ≤ i) : cutD ds none (some i) = ds.take i.toNat := by
  obtain ⟨k, rfl⟩ := Int.eq_ofNat_of_zero_le h
  unfold cutD
  rw [show HT.sIx ds.length ds.length (some (k : Int)) = min k ds.length from HT.sIx_nat ds.length ds.length k, HT.sIx_none, List.drop_zero, Nat.sub_zero]
  rw [show (k : Int).toNat = k from rfl]
  by_cases z : k ≤ ds.length
  · rw [Nat.min_eq_left z]
  · rw [Nat.min_eq_right (by omega), List.take_length, List.take_of_length_le (by omega)]
theorem cutD_drop (ds : List D) {i : Int} (h : 0 ≤ i) : cutD ds (some i) none = ds.drop i.toNat := by
  obtain ⟨k, rfl⟩ := Int.eq_ofNat_of_zero_le h
  unfold cutD
  rw [show HT.sIx ds.length 0 (some (k : Int)) = min k ds.length from HT.sIx_nat ds.length 0 k, HT.sIx_none]
  rw [show (k : Int).toNat = k from rfl]
  by_cases z : k ≤ ds.length
  · rw [Nat.min_eq_left z, List.take_of_length_le (by rw [List.length_drop]; omega)]
  · rw [Nat.min_eq_right (by omega), Nat.sub_self, List.take_zero, List.drop_of_length_le (by omega)]
/-! ### what a drawn placement is made of -/
mutual
def ptD : D → Bool
  | .int i => decide (0 ≤ i) && decide (i < 1000)
  | .str s => decide (s.length ≤ 10) && s.cps.toList.all fun c => decide (97 ≤ c) && decide (c ≤ 122)
  | .tup ds => ptA ds
  | _ => false
def ptA : List D → Bool
  | [] => true | d :: ds => ptD d && ptA ds
end
theorem ptA_mem : ∀ {ds : List D}, ptA ds = true → ∀ d ∈ ds, ptD d = true
  | e :: r, h, d, hd => by
    have h' : ptD e = true ∧ ptA r = true := by simpa [ptA] using h
    rcases List.mem_cons.mp hd with z | z
    · rw [z]; exact h'.1
    · exact ptA_mem h'.2 d z
theorem ptA_all {ds : List D} (h : ∀ d ∈ ds, ptD d = true) : ptA ds = true := by
  induction ds with
  | nil => rfl
  | cons d r ih => simp [ptA, h d (List.mem_cons_self ..), ih fun e he => h e (List.mem_cons_of_mem _ he)]
theorem strOk_of {s : Str} (h : ∀ c ∈ s.cps.toList, c < 1114112) : PyData.strOk s = true := by
  unfold PyData.strOk
  exact Array.all_eq_true_iff_forall_mem.mpr fun c hc => decide_eq_true (h c (Array.mem_toList_iff.mpr hc))
theorem cl_str {s : Str} (h : ∀ c ∈ s.cps.toList, c < 1114112) : cl (.str s) = true := by
  simp [cl, okD, noD, noL, strOk_of h]
theorem cl_int {i : Int} (h : i.natAbs < 10 ^ 60) : cl (.int i) = true := by
  simp only [cl, okD, noD, noL, Bool.and_true, decide_eq_true h]
theorem pt_str {s : Str} (h : ptD (.str s) = true) : s.length ≤ 10 ∧ ∀ c ∈ s.cps.toList, 97 ≤ c ∧ c ≤ 122 := by
  have h' : (decide (s.length ≤ 10) && s.cps.toList.all fun c => decide (97 ≤ c) && decide (c ≤ 122)) = true := by simpa only [ptD] using h
  rw [Bool.and_eq_true] at h'
  refine ⟨of_decide_eq_true h'.1, fun c hc => ?_⟩
  have := List.all_eq_true.mp h'.2 c hc
  rw [Bool.and_eq_true] at this
  exact ⟨of_decide_eq_true this.1, of_decide_eq_true this.2⟩
theorem pt_int {i : Int} (h : ptD (.int i) = true) : 0 ≤ i ∧ i < 1000 := by
  have h' : (decide (0 ≤ i) && decide (i < 1000)) = true := by simpa only [ptD] using h
  rw [Bool.and_eq_true] at h'
  exact ⟨of_decide_eq_true h'.1, of_decide_eq_true h'.2⟩
theorem pt_cl : ∀ {d : D}, ptD d = true → cl d = true
  | .int i, h => cl_int (by have := pt_int h; omega)
  | .str s, h => cl_str fun c hc => by have := (pt_str h).2 c hc; omega
  | .tup ds, h => cl_tup.mpr fun d hd => pt_cl (ptA_mem (by simpa only [ptD] using h) d hd)
  | .non, h => by simp [ptD] at h
  | .bl _, h => by simp [ptD] at h
  | .raw _, h => by simp [ptD] at h
  | .lst _, h => by simp [ptD] at h
  | .dk _, h => by simp [ptD] at h
  | .dt _, h => by simp [ptD] at h
  | .obj _ _, h => by simp [ptD] at h
theorem pt_ty : ∀ {d : D}, ptD d = true → tyD d ≠ ""
  | .int i, h => by show "int" ≠ ""; decide
  | .str s, h => by show "str" ≠ ""; decide
  | .tup ds, h => by show "tuple" ≠ ""; decide
  | .non, h => by simp [ptD] at h
  | .bl _, h => by simp [ptD] at h
  | .raw _, h => by simp [ptD] at h
  | .lst _, h => by simp [ptD] at h
  | .dk _, h => by simp [ptD] at h
  | .dt _, h => by simp [ptD] at h
  | .obj _ _, h => by simp [ptD] at h
mutual
theorem pt_plain : ∀ d : D, ptD d = true → plain d = true
  | .int i, h => by simp [plain]
  | .str s, h => by
    show PyData.strOk s = true
    exact strOk_of fun c hc => by have := (pt_str h).2 c hc; omega
  | .tup ds, h => by
    show plainA ds = true
    exact ptA_plain ds (by simpa only [ptD] using h)
  | .non, h => by simp [ptD] at h
  | .bl _, h => by simp [ptD] at h
  | .raw _, h => by simp [ptD] at h
  | .lst _, h => by simp [ptD] at h
  | .dk _, h => by simp [ptD] at h
  | .dt _, h => by simp [ptD] at h
  | .obj _ _, h => by simp [ptD] at h
theorem ptA_plain : ∀ ds : List D, ptA ds = true → plainA ds = true
  | [], _ => rfl
  | d :: ds, p => by
    have p' : ptD d = true ∧ ptA ds = true := by simpa [ptA] using p
    simp [plainA, pt_plain d p'.1, ptA_plain ds p'.2]
end
/-! texts near a name -/
theorem app_mem {s t : Str} {c : Nat} (h : c ∈ (s ++ t).cps.toList) : c ∈ s.cps.toList ∨ c ∈ t.cps.toList := by
  have h' : c ∈ (s.cps ++ t.cps).toList := h
  rw [Array.toList_append, List.mem_append] at h'
  exact h'
theorem Th.txt {n k : Nat} {s : Str} (h : ∀ c ∈ s.cps.toList, c < 1114112) (hw : 10 * s.length + 2 ≤ n) : Th n k (.str s) := .clean (cl_str h) hw (Nat.zero_le _)
theorem cutS_len (s : Str) (lo hi : Option Int) : (cutS s lo hi).length ≤ s.length := by
  show (((s.cps.toList.drop _).take _).toArray).size ≤ s.cps.size
  rw [List.size_toArray]
  have := ((List.take_sublist (HT.sIx s.length s.length hi - HT.sIx s.length 0 lo) (s.cps.toList.drop (HT.sIx s.length 0 lo))).trans (List.drop_sublist _ _)).length_le
  simpa using this
theorem cutS_mem {s : Str} {lo hi : Option Int} {c : Nat} (h : c ∈ (cutS s lo hi).cps.toList) : c ∈ s.cps.toList := by
  have h' : c ∈ (((s.cps.toList.drop (HT.sIx s.length 0 lo)).take (HT.sIx s.length s.length hi - HT.sIx s.length 0 lo)).toArray).toList := h
  exact ((List.take_sublist _ _).trans (List.drop_sublist _ _)).subset h'
theorem up_lt {c : Nat} (h : c < 128) : up1 c < 128 := by
  revert c
  decide +kernel
theorem upper_th {n k : Nat} {s : Str} (h : ∀ c ∈ s.cps.toList, c < 128) (hw : 10 * s.length + 2 ≤ n) : Th n k (.str (Txt.upper s)) := by
  rw [upper_ascii h]
  refine .txt (fun c hc => ?_) ?_
  · have hc' : c ∈ (s.cps.map up1).toList := hc
    rw [Array.toList_map] at hc'
    obtain ⟨x, hx, e⟩ := List.mem_map.mp hc'
    have := up_lt (h x hx)
    omega
  · show 10 * (s.cps.map up1).size + 2 ≤ n
    rw [Array.size_map]; exact hw
theorem foldl_app : ∀ (l : List (Array Nat)) (acc : Array Nat), ((l.foldl (· ++ ·) acc).size = acc.size + (l.map (·.size)).sum) ∧ ∀ c ∈ (l.foldl (· ++ ·) acc).toList, c ∈ acc.toList ∨ ∃ x ∈ l, c ∈ x.toList
  | [], acc => ⟨by simp, fun c hc => .inl hc⟩
  | x :: r, acc => by
    obtain ⟨h1, h2⟩ := foldl_app r (acc ++ x)
    refine ⟨by rw [List.foldl_cons, h1, Array.size_append, List.map_cons, List.sum_cons]; omega, fun c hc => ?_⟩
    rcases h2 c hc with z | ⟨y, hy, z⟩
    · rw [Array.toList_append, List.mem_append] at z
      rcases z with z | z
      · exact .inl z
      · exact .inr ⟨x, List.mem_cons_self .., z⟩
    · exact .inr ⟨y, List.mem_cons_of_mem _ hy, z⟩
theorem mul_th {n k m : Nat} {s : Str} (h : ∀ c ∈ s.cps.toList, c < 1114112) (hw : 10 * (m * s.length) + 2 ≤ n) (hm : 1 ≤ m) : Th n k (.str (Txt.mul s m)) := by
  have hl : s.length ≤ m * s.length := by
    have := Nat.mul_le_mul_right s.length hm
    omega
  unfold Txt.mul
  split
  · exact .txt (fun c hc => by simp [Str.empty] at hc) (by show 10 * 0 + 2 ≤ n; omega)
  · split
    · exact .txt h (by omega)
    · obtain ⟨h1, h2⟩ := foldl_app (List.replicate m s.cps) #[]
      refine .txt (fun c hc => ?_) ?_
      · rcases h2 c hc with z | ⟨x, hx, z⟩
        · simp at z
        · rw [List.eq_of_mem_replicate hx] at z
          exact h c z
      · show 10 * ((List.replicate ((m : Int).toNat) s.cps).foldl (· ++ ·) #[]).size + 2 ≤ n
        rw [show ((m : Int).toNat) = m from rfl, h1]
        have : ((List.replicate m s.cps).map (·.size)).sum = m * s.length := by
          rw [List.map_replicate, List.sum_replicate_nat]; rfl
        rw [this]
        show 10 * (0 + m * s.length) + 2 ≤ n
        omega
theorem mul_ok {s : Str} (h : s.length ≤ 10) : MulOk s 11 := ⟨by decide, fun _ _ => by
  have e : ((2 : Int) ^ 63 - 1) / 11 = 838488366986797800 := by decide
  rw [e]; omega, fun _ _ => by
  unfold PySem.Builtin.Str.tooLong
  first | exact decide_eq_false (by show ¬ _; have : s.length * (11 : Int).toNat ≤ 110 := Nat.mul_le_mul_right 11 h; have : (110 : Nat) ≤ sizeLine := by decide
                                    omega) | skip⟩
theorem ofS_mem {x : String} {c : Nat} (h : c ∈ (Str.ofString x).cps.toList) : c < 1114112 := by
  rw [PyProof.Rows.signs_ofString] at h
  obtain ⟨z, _, rfl⟩ := List.mem_map.mp h
  rcases z.valid with y | y
  · exact Nat.lt_trans y (by decide)
  · exact y.2
theorem intS_th {n k : Nat} {i : Int} (h : i.natAbs < 1000) (hn : 200 ≤ n) : Th n k (.str (Str.ofString (toString i))) := by
  refine .txt (fun c hc => ofS_mem hc) ?_
  have := int_text_length_le10 (a := i) (k := 3) (by decide) (by omega)
  rw [PySem.ofString_length]; omega
/-! ### rules -/
theorem DtA.rev {K : PySem.W.Frag} {G : Hp} : ∀ {ds : List D} {vs : List V}, DtA K G ds vs → DtA K G ds.reverse vs.reverse
  | [], _, h => by rw [show _ = [] from h]; rfl
  | d :: ds, _, ⟨v, r, q, s, t⟩ => by
    rw [q, List.reverse_cons, List.reverse_cons]
    exact DtA.append (DtA.rev t) ⟨v, [], rfl, s, rfl⟩
section
variable {B : Bs} {ρ : Ro} {μ : Mu} {d : D} {te : TE} {ds : List D} {s : Str} {i : Int}
theorem ed_dnew : Ed B tDNewK ρ μ (.dk []) := Ev.mk fun τ σ H a Q q => fun p hp => q _ _ _ rfl (At.new (dn := .dk []) a hp fun G _ e => ⟨p, [], rfl, e, rfl⟩)
theorem ed_rev (h : Ed B te ρ μ (.tup ds)) : Ed B (tRevT B.K te) ρ μ (.tup ds.reverse) := Ev.mk fun τ σ H a Q q => h.go a fun v H1 d hd a1 => by
  subst hd
  obtain ⟨G, g, p, vs, rfl, e, k⟩ := id a1.top
  exact ⟨p, vs, rfl, .inl (.inl (g.sub _ _ e)), fun p' hp' => q _ _ _ rfl (g.newTup hp' (DtA.rev k))⟩
theorem ed_upper (h : Ed B te ρ μ (.str s)) (hs : s.length ≤ 100) : Ed B (tM0 (fun x xs H Q => ∃ a, x = .str a ∧ xs = [] ∧ a.length ≤ 5592405 ∧ Q (.str (Txt.upper a)) H) te) ρ μ (.str (Txt.upper s)) := Ev.mk fun τ σ H a Q q => h.go a fun v H1 d hd a1 => by
  subst hd
  obtain ⟨G, g, hv⟩ := a1.top
  exact ⟨⟨s, hv⟩, s, hv, rfl, Nat.le_trans hs (by decide), q _ _ _ rfl (At.flat ⟨G, g⟩ fun _ => rfl)⟩
theorem rc_strI (h : i.natAbs < 1000) : RC B (fun xs H Q => ∃ i, xs = [.int i] ∧ i.natAbs.log2 < 1920 ∧ Q (.str (toString i)) H) ρ μ [.int i] (fun e => e = .str (toString i)) := rc_flat (fun _ => rfl) fun G H xs s k Q q => by
  obtain ⟨v, rfl, hv⟩ := one_arg k
  refine ⟨i, by rw [show v = V.int i from hv], ?_, q⟩
  exact Nat.lt_of_lt_of_le (lg_of (Nat.lt_of_lt_of_le h (by decide))) (by decide)
theorem rd_sub' {i j : Int} : RD B (rI0 fun i j => .int (i - j)) ρ μ (.int i) (.int j) (fun e => e = .int (i - j)) := rd_sub
end
end Cal


namespace Cal
open PySem PySem.Spec PyProof.Rows L2
/-! ### a list beside an empty one -/
def rEqE (K : PySem.W.Frag) : R2 := fun x y H Q => ∃ a b xs, x = .ref a ∧ y = .ref b ∧ SqL K H a xs ∧ SqL K H b [] ∧ Q (.bl xs.isEmpty) H
def rNeE (K : PySem.W.Frag) : R2 := fun x y H Q => ∃ a b xs, x = .ref a ∧ y = .ref b ∧ SqL K H a xs ∧ SqL K H b [] ∧ Q (.bl !xs.isEmpty) H
section
variable {X : Cx}
theorem op_eqE (hu : X.A.units < cLine) : OpR X (compareOp .Eq) (rEqE X.K) := by
  intro pins s σ H x y v u Q I rx ry h
  obtain ⟨a, b, xs, rfl, rfl, h1, h2, q⟩ := h
  cases rx
  cases ry
  obtain ⟨its, r1, p1, _⟩ := I.list h1
  obtain ⟨jts, r2, p2, _⟩ := I.list h2
  cases r2
  have fin : EP X pins σ Q (.bool xs.isEmpty) s := ⟨.bl xs.isEmpty, H, I, rfl, q⟩
  cases r1 with
  | nil =>
    exact SeqAt.RcAt.lists (e := fun _ => true) p1.isList p2.isList rfl hu (fun j h1 _ => absurd h1 (Nat.not_lt_zero _)) _ _ _ _ fin
  | cons z zs => exact SeqAt.RcAt.lists_lengths p1.isList p2.isList rfl hu _ _ _ _ fin
theorem op_neE (hu : X.A.units < cLine) : OpR X (compareOp .NotEq) (rNeE X.K) := by
  intro pins s σ H x y v u Q I rx ry h
  obtain ⟨a, b, xs, rfl, rfl, h1, h2, q⟩ := h
  cases rx
  cases ry
  obtain ⟨its, r1, p1, _⟩ := I.list h1
  obtain ⟨jts, r2, p2, _⟩ := I.list h2
  cases r2
  have fin : EP X pins σ Q (.bool !xs.isEmpty) s := ⟨.bl !xs.isEmpty, H, I, rfl, q⟩
  cases r1 with
  | nil =>
    exact SeqAt.RcNeAt.lists (e := fun _ => true) p1.isList p2.isList rfl hu (fun j h1 _ => absurd h1 (Nat.not_lt_zero _)) _ _ _ _ fin
  | cons z zs => exact SeqAt.RcNeAt.lists_lengths p1.isList p2.isList rfl hu _ _ _ _ fin
end
section
variable {B : Bs} {ρ : Ro} {μ : Mu} {ds : List D}
theorem rd_eqE : RD B (rEqE B.K) ρ μ (.lst ds) (.lst []) (fun e => e = .bl ds.isEmpty) := fun τ σ H x y a Q q => by
  obtain ⟨G, g, ⟨p, vs, rfl, e1, k1⟩, ⟨p', us, rfl, e2, k2⟩⟩ := a.two
  have hu : us = [] := k2
  subst hu
  refine ⟨p, p', vs, rfl, rfl, .inl (.inl (g.sub _ _ e1)), .inl (.inl (g.sub _ _ e2)), q (.bl vs.isEmpty) H (.bl vs.isEmpty) ?_ (At.flat ⟨G, g⟩ fun _ => rfl)⟩
  cases ds with
  | nil => rw [show vs = [] from k1]; rfl
  | cons d r => obtain ⟨v, w, rfl, _⟩ := k1; rfl
theorem rd_neE : RD B (rNeE B.K) ρ μ (.lst ds) (.lst []) (fun e => e = .bl !ds.isEmpty) := fun τ σ H x y a Q q => by
  obtain ⟨G, g, ⟨p, vs, rfl, e1, k1⟩, ⟨p', us, rfl, e2, k2⟩⟩ := a.two
  have hu : us = [] := k2
  subst hu
  refine ⟨p, p', vs, rfl, rfl, .inl (.inl (g.sub _ _ e1)), .inl (.inl (g.sub _ _ e2)), q (.bl !vs.isEmpty) H (.bl !vs.isEmpty) ?_ (At.flat ⟨G, g⟩ fun _ => rfl)⟩
  cases ds with
  | nil => rw [show vs = [] from k1]; rfl
  | cons d r => obtain ⟨v, w, rfl, _⟩ := k1; rfl
theorem rd_notIn {c : Nat} {z : Str} : RD B (fun x y H Q => ∃ (c : Nat) (z : Str), x = .str ⟨#[c]⟩ ∧ y = .str z ∧ Q (.bl (!decide (c ∈ z.cps.toList))) H) ρ μ (.str ⟨#[c]⟩) (.str z) (fun e => e = .bl (!decide (c ∈ z.cps.toList))) := rd_flat (fun _ => rfl) fun G H x y _ a b Q q => ⟨c, z, a, b, q⟩
theorem none_left {n : Nat} {c : Nat → Bool} {h : Nat → D} : (((List.range n).filter c).map h).isEmpty = (List.range n).all fun i => !c i := by
  rw [List.isEmpty_map]
  induction (List.range n) with
  | nil => rfl
  | cons x r ih =>
    rw [List.filter_cons, List.all_cons]
    cases c x with
    | true => rfl
    | false => rw [if_neg Bool.false_ne_true, ih]; rfl
end
end Cal


namespace Cal
open PySem PySem.Spec PyProof.Rows L2
/-! ### texts compared; calls by keywords alone -/
section
variable {X : Cx}
def rEqS : R2 := fun x y H Q => ∃ a b : Str, x = .str a ∧ y = .str b ∧ Q (.bl (a == b)) H
def rNeS : R2 := fun x y H Q => ∃ a b : Str, x = .str a ∧ y = .str b ∧ Q (.bl !(a == b)) H
theorem op_eqS : OpR X (compareOp .Eq) rEqS := by
  intro pins s σ H x y v u Q I rx ry h
  obtain ⟨a, b, rfl, rfl, q⟩ := h
  obtain ⟨t, rfl⟩ := rx
  obtain ⟨t', rfl⟩ := ry
  exact SeqAt.RcAt.str_str a t b t' _ _ _ _ ⟨.bl (a == b), H, I, rfl, q⟩
theorem op_neS : OpR X (compareOp .NotEq) rNeS := by
  intro pins s σ H x y v u Q I rx ry h
  obtain ⟨a, b, rfl, rfl, q⟩ := h
  obtain ⟨t, rfl⟩ := rx
  obtain ⟨t', rfl⟩ := ry
  exact SeqAt.RcNeAt.str_str a t b t' _ _ _ _ ⟨.bl !(a == b), H, I, rfl, q⟩
end
/-- a def that may be called by its name with these keywords, gV puts them in the parameters' order -/
structure CalW (P : Program) (w : World) (K : PySem.W.Frag) (mg : Str → Option Value) (base : Heap) (k : Nat) (x : Str) (ks : List Str) (gV : List V → List V → List V) (sp : Sp) : Prop where
  ex : ∃ (f : Addr) (fd : FuncData) (ps : List Str) (g : List Value → List Value → List Value), FnOk P w K mg base CX0 k f fd ps sp ∧ mg x = some (.ref f) ∧ PySem.W.keepIn K (.ref f) = true ∧ KBinds K fd ps ks g gV
section
variable {X : Cx} {k j : Nat} {x : Str} {p pos : Pos} {kws : List Keyword} {ks : List Str} {sp : Sp} {tk : TA} {gV : List V → List V → List V}
def tCallW (sp : Sp) (gV : List V → List V → List V) (tk : TA) : TE := fun σ H Q => tk σ H fun zs H1 => sp (gV [] zs) H1 Q C8.E0
theorem pe_ck (c : CalW X.prog X.w X.K X.mg X.base k x ks gV sp) (hr : Room j X.A) (hk : k ≤ j) (hg : Gl X x) (hkw : PK X kws tk) (hall : (backToKw pos (keywordEach kws X.env)).all (·.1.isSome) = true := by rfl) (hks : (backToKw pos (keywordEach kws X.env)).filterMap (·.1) = ks := by rfl)
    (hdb : (x == ("__debug__" : Str)) = false := by decide) (hpl : ((backTo pos (starEach [] X.env)).any (·.1) || (backToKw pos (keywordEach kws X.env)).any (·.1.isNone)) = false := by rfl) : PE X (.Call (.Name x p) [] kws pos) (tCallW sp gV tk) := by
  obtain ⟨f, fd, ps, g, F, hm, kp, b⟩ := c.ex
  refine ⟨fun pins s σ H Q I h => wpAny_Call_Name_kw (ld_glob I hg hm ?_ hdb)⟩
  refine PySem.W.callWith_KW0 (h₀ := X.base) I.ok.mod.kin kp hall (thn (hkw.run pos pins s σ H _ I h) fun ws s2 ⟨zs, H2, I2, rz, q2⟩ => ⟨I2.kIn, ?_⟩) hpl
  rw [hks]
  exact run_fnk (us := []) (vs := []) F (hr.mono hk) b C8.pass0 I2 .nil rz q2
end
section
variable {B : Bs} {ρ : Ro} {μ : Mu} {s t : Str} {ds : List D} {d : D}
theorem rd_neS : RD B rNeS ρ μ (.str s) (.str t) (fun e => e = .bl !(s == t)) := rd_flat (fun _ => rfl) fun G H x y _ a b Q q => ⟨s, t, a, b, q⟩
theorem rd_eqS : RD B rEqS ρ μ (.str s) (.str t) (fun e => e = .bl (s == t)) := rd_flat (fun _ => rfl) fun G H x y _ a b Q q => ⟨s, t, a, b, q⟩
theorem ed_pw {pre : List D → Prop} {post : List D → D → Prop} {t : TA} {gV : List V → List V → List V} (hgV : ∀ zs, gV [] zs = zs) (h : Ea B t ρ μ (fun l => l = ds)) (hpre : pre ds) (hpost : ∀ e, post ds e → e = d) : Ed B (tCallW (psp B.K pre post) gV t) ρ μ d := by
  have e := ed_p (B := B) (E := C8.E0) (d := d) h hpre hpost
  have e2 : tCallW (psp B.K pre post) gV t = tCall (psp B.K pre post) [] C8.E0 t := by
    unfold tCallW tCall
    funext σ H Q
    congr 1
    funext zs H1
    rw [hgV, List.append_nil]
  rw [e2]; exact e
end
end Cal


namespace Cal
open PySem PySem.Spec PyProof.Rows L2
section
variable {X : Cx}
/-! ### what is not reached; truth; a range as a value -/
theorem ps_never {st : Stmt} : PS X st (fun _ _ _ => False) := ⟨fun _ _ _ _ _ _ h => h.elim⟩
def tNever : TS := fun _ _ _ => False
theorem ps_nv {st : Stmt} : PS X st tNever := ps_never
def tTru (K : PySem.W.Frag) (ta : TE) : TT := fun σ H Q => ta σ H fun x H' => ∃ k, TruV K x H' k ∧ Q k H'
theorem pt_tru {a : Expr} {ta : TE} (ha : PE X a ta) (he : ∀ whole, isTrue a X.env whole = (do let v ← whole; standAt a.pos; holding [v] (truthy v)) := by intro _; rfl) : PT X a (tTru X.K ta) := pt_truth ha he
theorem pt_truK {K : PySem.W.Frag} {a : Expr} {ta : TE} (hK : X.K = K) (ha : PE X a ta) (he : ∀ whole, isTrue a X.env whole = (do let v ← whole; standAt a.pos; holding [v] (truthy v)) := by intro _; rfl) : PT X a (tTru K ta) := by
  subst hK
  exact pt_truth ha he
theorem cr_range1 : CallR X (.type "range") (fun vs H Q => ∃ j, vs = [V.int j] ∧ ∀ p, H p = none → Q (.ref p) (upd H p (.rng 0 j))) := by
  intro pins s σ H xs us Q I r h
  obtain ⟨j, rfl, q⟩ := h
  obtain ⟨u, rfl, rx⟩ := vals1 r
  obtain ⟨t, rfl⟩ := rx
  exact call_range_1 ⟨.ref s.heap.objs.size, upd H s.heap.objs.size (.rng 0 j), I.laid (t' := s.toks + 1 + 1) (fun b o e => Heap.get?_push_of_some _ e) (Nat.le_refl _) ⟨_, _, _, Heap.get?_push_size _ rfl⟩, rfl, q _ (I.hok.fresh (Nat.le_refl _))⟩
def iRngV (tl : TE) : TI := fun σ H R => tl σ H fun x H1 => ∃ (a : Addr) (lo hi : Int), x = .ref a ∧ H1 a = some (.rng lo hi) ∧ (-(2 ^ 62) ≤ lo ∧ lo < 2 ^ 62 ∧ -(2 ^ 62) ≤ hi ∧ hi < 2 ^ 62) ∧ R (Itr lo (hi - lo).toNat) H1
theorem pi_rngV {tg l : Expr} {tl : TE} (hl : PE X l tl) : PI X tg l (iRngV tl) := by
  refine ⟨fun pins s σ H R I h => ?_⟩
  refine thn (hl.run pins s σ H _ I h) fun v s1 ⟨x, H1, I1, r1, q1⟩ => ?_
  obtain ⟨a, lo, hi, rfl, ha, ⟨b1, b2, b3, b4⟩, q⟩ := q1
  cases r1
  obtain ⟨t, u, w, ho⟩ := (show ObjOk X.prog X.w H1 s1.heap a (.rng lo hi) from I1.hok a _ ha)
  refine wpAny_pyIter_range ho (small_one b1 b2 b3 b4) ?_
  refine ⟨s1.heap.objs.size, [s1.heap.objs.size], _, _, H1, rfl, I1.kept (t' := s1.toks) fun b o e => Heap.get?_push_of_some _ e, turn_range _ lo (hi - lo).toNat, ?_, fun b hb => ?_, q⟩
  · have e1 : lo + ((0 : Nat) : Int) * 1 = lo := by simp
    have e2 : (((hi - lo).toNat : Nat) : Int) - ((0 : Nat) : Int) = Builtin.Range.rangeSize lo hi 1 := by rw [rangeSize_one]; split <;> omega
    show IsRangeIter _ _ (lo + ((0 : Nat) : Int) * 1) ((((hi - lo).toNat : Nat) : Int) - ((0 : Nat) : Int)) 1
    rw [e1, e2]
    exact Heap.get?_push_size _ rfl
  · have e : b = s1.heap.objs.size := by simpa using hb
    subst e
    exact I1.fpOk (Nat.le_refl _) (I1.hok.fresh (Nat.le_refl _))
end
section
variable {B : Bs} {ρ : Ro} {μ : Mu} {te ta : TE} {ds : List D} {d : D} {p : Addr} {lo hi i : Int} {s : Str} {ss : List Str} {is : List Int} {tt tt1 : TT} {P : D → Prop}
theorem eb_truT (h : Ed B te ρ μ (.tup ds)) : Eb B (tTru B.K te) ρ μ (!ds.isEmpty) := fun τ σ H a Q q => h.go a fun v H1 d hd a1 => by
  subst hd
  obtain ⟨G, g, p, vs, rfl, e, k⟩ := id a1.top
  refine ⟨!vs.isEmpty, .inr (.inl ⟨vs, .inl (.inl (g.sub _ _ e)), rfl⟩), q _ H1 ?_ a1.pop⟩
  cases ds with
  | nil => rw [show vs = [] from k]; rfl
  | cons x r => obtain ⟨v, w, rfl, _⟩ := k; rfl
/-- in a tuple of texts, of integers -/
theorem rd_inS : RD B (rIn B.K false) ρ μ (.str s) (.tup (ss.map .str)) (fun e => e = .bl (decide (s ∈ ss))) := fun τ σ H x y a Q q => by
  obtain ⟨G, g, hx, ⟨p, vs, rfl, e1, k1⟩⟩ := a.two
  have hx' : x = V.str s := hx
  have hv := k1.strs
  subst hx'; subst hv
  refine ⟨p, _, rfl, .inr (.inl (.inl (g.sub _ _ e1))), rfl, by rw [List.all_map]; exact List.all_eq_true.mpr fun _ _ => rfl, ?_⟩
  have e : inV (.str s) (ss.map V.str) = decide (s ∈ ss) := by
    unfold inV
    rw [List.any_map]
    by_cases h : s ∈ ss
    · rw [decide_eq_true h]
      exact List.any_eq_true.mpr ⟨s, h, by show (s == s) = true; exact beq_self_eq_true s⟩
    · rw [decide_eq_false h]
      refine List.any_eq_false.mpr fun y hy z => h ?_
      have z' : (y == s) = true := z
      rw [← eq_of_beq z']; exact hy
  show Q (.bl (inV (.str s) (ss.map V.str))) H
  rw [e]
  exact q _ H _ rfl (At.flat ⟨G, g⟩ fun _ => rfl)
theorem rd_inI : RD B (rIn B.K false) ρ μ (.int i) (.tup (is.map .int)) (fun e => e = .bl (decide (i ∈ is))) := fun τ σ H x y a Q q => by
  obtain ⟨G, g, hx, ⟨p, vs, rfl, e1, k1⟩⟩ := a.two
  have hx' : x = V.int i := hx
  have hv := k1.ints
  subst hx'; subst hv
  refine ⟨p, _, rfl, .inr (.inl (.inl (g.sub _ _ e1))), rfl, by rw [List.all_map]; exact List.all_eq_true.mpr fun _ _ => rfl, ?_⟩
  have e : inV (.int i) (is.map V.int) = decide (i ∈ is) := by
    unfold inV
    rw [List.any_map]
    by_cases h : i ∈ is
    · rw [decide_eq_true h]
      exact List.any_eq_true.mpr ⟨i, h, by show (i == i) = true; exact beq_self_eq_true i⟩
    · rw [decide_eq_false h]
      refine List.any_eq_false.mpr fun y hy z => h ?_
      have z' : (y == i) = true := z
      rw [← eq_of_beq z']; exact hy
  show Q (.bl (inV (.int i) (is.map V.int))) H
  rw [e]
  exact q _ H _ rfl (At.flat ⟨G, g⟩ fun _ => rfl)
/-- a range as a cell -/
theorem xv_rng (h : Ed B te ρ μ (.int hi)) : Xv B (tCB (fun vs H Q => ∃ j, vs = [V.int j] ∧ ∀ p, H p = none → Q (.ref p) (upd H p (.rng 0 j))) (tCons te tNil)) ρ μ (fun d μ' => ∃ p, d = .raw (.ref p) ∧ μ' = (p, .rg 0 hi) :: μ) := fun τ σ H a Q q => h.go a fun v H1 d hd a1 => by
  subst hd
  obtain ⟨G, g, hv⟩ := id a1.top
  refine ⟨hi, by rw [show v = V.int hi from hv], fun p hp => q _ _ _ _ ⟨p, rfl, rfl⟩ ?_⟩
  exact At.flat (At.newCell (c := .rg 0 hi) a1.pop hp fun G _ => upd_same).1 fun _ => rfl
theorem ei_rngV {k : Nat} (h : Ed B te ρ μ (.raw (.ref p))) (hm : μ[k]? = some (p, .rg lo hi)) (hb : -(2 ^ 62) ≤ lo ∧ lo < 2 ^ 62 ∧ -(2 ^ 62) ≤ hi ∧ hi < 2 ^ 62) : Ei B (iRngV te) ρ μ (hi - lo).toNat (fun k => .int (lo + k)) := fun τ σ H a Rr q => h.go a fun v H1 d hd a1 => by
  subst hd
  obtain ⟨G, g, hv⟩ := id a1.top
  refine ⟨p, lo, hi, hv, (g.cells _ (List.mem_of_getElem? hm)).2.2.2, hb, q _ H1 _ (fun z hz => List.mem_cons_of_mem _ hz) a1 fun k ρ' μ' τ' σ' H' hsub a2 => ⟨fun hi => hi, fun hi => ⟨hi, fun y H2 hy => ?_⟩⟩⟩
  obtain ⟨rfl, rfl⟩ := hy
  exact At.flat a2 fun G => rfl
/-- two fors in a comprehension -/
theorem ed_lc2x {wi wi1 : TI} {g g1 : TG} {vs vs1 js js1 : List Nat} {n : Nat} {m : Nat → Nat} {f : Nat → D} {f1 h : Nat → Nat → D} (hi : Ei B wi ρ μ n f) (ρi : Nat → Ro) (ρj : Nat → Nat → Ro) (hjs : ∀ k ∈ js, k ∈ vs) (hjs1 : ∀ k ∈ js1, k ∈ vs1) (c : Nat → Nat → Bool)
    (hg : ∀ i, i < n → ∀ cl, Gd B g (wipeR ρ vs) (cl :: μ) (f i) (ρi i) js) (hi1 : ∀ i, i < n → ∀ cl, Ei B wi1 (ρi i) (cl :: μ) (m i) (f1 i)) (hg1 : ∀ i, i < n → ∀ j, j < m i → ∀ cl, Gd B g1 (wipeR (ρi i) vs1) (cl :: μ) (f1 i j) (ρj i j) js1)
    (ht : ∀ i, i < n → ∀ j, j < m i → ∀ cl, Eb B tt1 (ρj i j) (cl :: μ) (c i j)) (he : ∀ i, i < n → ∀ j, j < m i → c i j = true → ∀ cl, Ed B te (ρj i j) (cl :: μ) (h i j)) (hz : ∀ i, i ≤ n → ((List.range i).flatMap fun i => ((List.range (m i)).filter (c i)).map (h i)).length ≤ 1000000) :
    Ed B (tLc2 wi g tYes wi1 g1 tt1 te vs vs1) ρ μ (.lst ((List.range n).flatMap fun i => ((List.range (m i)).filter (c i)).map (h i))) := Ev.mk fun τ σ H a Q q => hi (sv ρ σ ++ τ) σ H a.save _ fun J H1 τ1 hsub a1 hJ Dl hD => by
  have hf := a.fits
  have row : ∀ (i j : Nat), (List.range (j + 1)).filter (c i) = (List.range j).filter (c i) ++ (if c i j = true then [j] else []) := fun i j => by
    rw [List.range_succ, List.filter_append]
    congr 1
    by_cases z : c i j = true
    · rw [if_pos z, List.filter_cons, if_pos z]; rfl
    · rw [if_neg z, List.filter_cons, if_neg z]; rfl
  refine ⟨fun i k H => k = n - i ∧ i ≤ n ∧ At B ρ ((Dl, .lst ((List.range i).flatMap fun i => ((List.range (m i)).filter (c i)).map (h i))) :: μ) τ1 σ H, ⟨n, by omega, Nat.zero_le _, (At.newCell (c := .lst []) (o := .lst []) a1 hD fun G _ => ⟨[], upd_same, rfl⟩).1⟩, fun i k H2 hW => ?_⟩
  obtain ⟨rfl, hin, a2⟩ := hW
  obtain ⟨s1, s2⟩ := hJ i ρ _ τ1 σ H2 (fun _ z => z) a2
  by_cases hlt : i < n
  · obtain ⟨s3, s4⟩ := s2 hlt
    refine .inr ⟨s3, fun H => At B ρ ((Dl, .lst ((List.range (i + 1)).flatMap fun i => ((List.range (m i)).filter (c i)).map (h i))) :: μ) τ1 σ H, fun H' h2 => ⟨n - (i + 1), by omega, rfl, hlt, h2⟩, fun x H3 hy => ?_⟩
    refine hg i hlt _ τ1 (wipe σ vs) H3 x (At.wiped (s4 x H3 hy) vs) _ fun σ2 a3 hl3 hk3 => ⟨wipe_ext hjs hl3 hk3, ?_⟩
    refine tYes_if ?_
    have hf2 := a3.fits
    refine hi1 i hlt _ (sv (ρi i) σ2 ++ τ1) σ2 H3 a3.save _ fun J1 H4 τ2 hsub2 a4 hJ1 => ?_
    have e0 : (List.range i).flatMap (fun i => ((List.range (m i)).filter (c i)).map (h i)) = (List.range i).flatMap (fun i => ((List.range (m i)).filter (c i)).map (h i)) ++ ((List.range 0).filter (c i)).map (h i) := by rw [List.range_zero]; simp
    rw [e0] at a4
    refine ⟨fun j k H => k = m i - j ∧ j ≤ m i ∧ At B (ρi i) ((Dl, .lst ((List.range i).flatMap (fun i => ((List.range (m i)).filter (c i)).map (h i)) ++ ((List.range j).filter (c i)).map (h i))) :: μ) τ2 σ2 H, ⟨m i, by omega, Nat.zero_le _, a4⟩, fun j k H5 hW1 => ?_⟩
    obtain ⟨rfl, hjn, a5⟩ := hW1
    obtain ⟨t1, t2⟩ := hJ1 j (ρi i) _ τ2 σ2 H5 (fun _ z => z) a5
    by_cases hj : j < m i
    · obtain ⟨t3, t4⟩ := t2 hj
      refine .inr ⟨t3, fun H => At B (ρi i) ((Dl, .lst ((List.range i).flatMap (fun i => ((List.range (m i)).filter (c i)).map (h i)) ++ ((List.range (j + 1)).filter (c i)).map (h i))) :: μ) τ2 σ2 H, fun H' h2 => ⟨m i - (j + 1), by omega, rfl, hj, h2⟩, fun x1 H6 hy1 => ?_⟩
      refine hg1 i hlt j hj _ τ2 (wipe σ2 vs1) H6 x1 (At.wiped (t4 x1 H6 hy1) vs1) _ fun σ3 a6 hl6 hk6 => ⟨wipe_ext hjs1 hl6 hk6, ?_⟩
      refine ht i hlt j hj _ τ2 σ3 H6 a6 _ fun b H7 hb a7 => ?_
      subst hb
      cases hc : c i j with
      | true =>
        rw [if_pos rfl]
        refine (he i hlt j hj hc _).go a7 fun y H8 dy hdy a8 => ?_
        subst hdy
        obtain ⟨G, g5, vs5, e5, k5⟩ := a8.cell (j := 0) rfl
        refine ⟨vs5, e5, ?_, ?_⟩
        · rw [k5.length]
          have h1 := hz (i + 1) hlt
          have h2 : ((List.range i).flatMap (fun i => ((List.range (m i)).filter (c i)).map (h i)) ++ ((List.range j).filter (c i)).map (h i)).length ≤ ((List.range (i + 1)).flatMap fun i => ((List.range (m i)).filter (c i)).map (h i)).length := by
            rw [List.range_succ, List.flatMap_append, List.length_append, List.length_append, List.flatMap_cons, List.flatMap_nil, List.append_nil, List.length_map, List.length_map]
            have h3 : ((List.range j).filter (c i)).Sublist ((List.range (m i)).filter (c i)) := List.Sublist.filter _ (by
              rw [show List.range j = (List.range (m i)).take j by rw [List.take_range, Nat.min_eq_left hjn]]
              exact List.take_sublist _ _)
            have := h3.length_le
            omega
          exact Nat.lt_of_le_of_lt (Nat.le_trans h2 h1) (by decide)
        · have a9 := At.write (j := 0) (c' := .lst ((List.range i).flatMap (fun i => ((List.range (m i)).filter (c i)).map (h i)) ++ ((List.range j).filter (c i)).map (h i) ++ [h i j])) (o := .lst (vs5 ++ [y])) a8 rfl fun G k1 ⟨vs6, e6, k6⟩ => by
            rw [e5] at e6
            cases e6
            exact ⟨_, upd_same, k6.append ⟨y, [], rfl, k1 _ (List.mem_cons_self ..), rfl⟩⟩
          have e : (List.range i).flatMap (fun i => ((List.range (m i)).filter (c i)).map (h i)) ++ ((List.range (j + 1)).filter (c i)).map (h i) = (List.range i).flatMap (fun i => ((List.range (m i)).filter (c i)).map (h i)) ++ ((List.range j).filter (c i)).map (h i) ++ [h i j] := by
            rw [row, if_pos hc, List.map_append, List.append_assoc]; rfl
          rw [e]
          exact At.restore hf2 a9.pop fun q hq => hsub2 q (List.mem_append_left _ hq)
      | false =>
        rw [if_neg Bool.false_ne_true]
        have e : ((List.range (j + 1)).filter (c i)).map (h i) = ((List.range j).filter (c i)).map (h i) := by
          rw [row, hc, if_neg Bool.false_ne_true, List.append_nil]
        rw [e]
        exact At.restore hf2 a7 fun q hq => hsub2 q (List.mem_append_left _ hq)
    · have ej : j = m i := by omega
      subst ej
      refine .inl ⟨t1 (Nat.le_refl _), ?_⟩
      have e : (List.range (i + 1)).flatMap (fun i => ((List.range (m i)).filter (c i)).map (h i)) = (List.range i).flatMap (fun i => ((List.range (m i)).filter (c i)).map (h i)) ++ ((List.range (m i)).filter (c i)).map (h i) := by
        rw [List.range_succ, List.flatMap_append, List.flatMap_cons, List.flatMap_nil, List.append_nil]
      rw [e]
      exact (At.restore hf (a5.sub fun q hq => hsub2 q (List.mem_append_right _ hq)) fun q hq => hsub q (List.mem_append_left _ hq))
  · have e : i = n := by omega
    subst e
    refine .inl ⟨s1 (Nat.le_refl _), ?_⟩
    exact q _ H2 _ rfl (a2.freeze.sub fun z hz => by
      rcases List.mem_cons.mp hz with e | e
      · rw [e]; exact List.mem_cons_self ..
      · exact List.mem_cons_of_mem _ (hsub z (List.mem_append_right _ e)))
end
end Cal


namespace Cal
open PySem PySem.Spec PyProof.Rows L2
/-! ### dicts: what stands at a key -/
section
variable {κ : Type} [DecidableEq κ]
def getD' (ds : List (κ × D)) (k : κ) : Option D := (ds.find? fun p => decide (p.1 = k)).map (·.2)
def putD (ds : List (κ × D)) (k : κ) (d : D) : List (κ × D) := if (ds.any fun p => decide (p.1 = k)) = true then ds.map (fun p => if p.1 = k then (p.1, d) else p) else ds ++ [(k, d)]
end
theorem DtT.get {K : PySem.W.Frag} {G : Hp} {k : List Key} : ∀ {ds : List (List Key × D)} {kvs : List (List Key × V)}, DtT K G ds kvs → (getD' ds k = none ∧ valV kvs k = none) ∨ ∃ d v, getD' ds k = some d ∧ valV kvs k = some v ∧ Dt K G d v
  | [], _, h => by rw [show _ = [] from h]; exact .inl ⟨rfl, rfl⟩
  | (k', d) :: ds, _, ⟨v, r, q, s, t⟩ => by
    subst q
    unfold getD' valV
    by_cases e : k' = k
    · rw [List.find?_cons_of_pos (by exact decide_eq_true e), List.find?_cons_of_pos (by exact decide_eq_true e)]
      exact .inr ⟨d, v, rfl, rfl, s⟩
    · rw [List.find?_cons_of_neg (by simpa using e), List.find?_cons_of_neg (by simpa using e)]
      exact DtT.get t
theorem DtK.get {K : PySem.W.Frag} {G : Hp} {k : Key} : ∀ {ds : List (Key × D)} {kvs : List (Key × V)}, DtK K G ds kvs → (getD' ds k = none ∧ valV kvs k = none) ∨ ∃ d v, getD' ds k = some d ∧ valV kvs k = some v ∧ Dt K G d v
  | [], _, h => by rw [show _ = [] from h]; exact .inl ⟨rfl, rfl⟩
  | (k', d) :: ds, _, ⟨v, r, q, s, t⟩ => by
    subst q
    unfold getD' valV
    by_cases e : k' = k
    · rw [List.find?_cons_of_pos (by exact decide_eq_true e), List.find?_cons_of_pos (by exact decide_eq_true e)]
      exact .inr ⟨d, v, rfl, rfl, s⟩
    · rw [List.find?_cons_of_neg (by simpa using e), List.find?_cons_of_neg (by simpa using e)]
      exact DtK.get t
theorem DtT.any {K : PySem.W.Frag} {G : Hp} {k : List Key} : ∀ {ds : List (List Key × D)} {kvs : List (List Key × V)}, DtT K G ds kvs → (ds.any fun p => decide (p.1 = k)) = kvs.any fun p => decide (p.1 = k)
  | [], _, h => by rw [show _ = [] from h]; rfl
  | (k', d) :: ds, _, ⟨v, r, q, s, t⟩ => by
    subst q
    rw [List.any_cons, List.any_cons, DtT.any t]
theorem DtT.repl {K : PySem.W.Frag} {G : Hp} {k : List Key} {d : D} {v : V} (hd : Dt K G d v) : ∀ {ds : List (List Key × D)} {kvs : List (List Key × V)}, DtT K G ds kvs → DtT K G (ds.map fun p => if p.1 = k then (p.1, d) else p) (kvs.map fun p => if p.1 = k then (p.1, v) else p)
  | [], _, h => by rw [show _ = [] from h]; rfl
  | (k', d') :: ds, _, ⟨v', r, q, s, t⟩ => by
    subst q
    rw [List.map_cons, List.map_cons]
    by_cases e : k' = k
    · rw [if_pos e, if_pos e]; exact ⟨v, _, rfl, hd, DtT.repl hd t⟩
    · rw [if_neg e, if_neg e]; exact ⟨v', _, rfl, s, DtT.repl hd t⟩
theorem DtT.app {K : PySem.W.Frag} {G : Hp} {es : List (List Key × D)} {ws : List (List Key × V)} (h2 : DtT K G es ws) : ∀ {ds : List (List Key × D)} {kvs : List (List Key × V)}, DtT K G ds kvs → DtT K G (ds ++ es) (kvs ++ ws)
  | [], _, h => by rw [show _ = [] from h]; exact h2
  | (k', d') :: ds, _, ⟨v', r, q, s, t⟩ => by
    subst q
    exact ⟨v', _, rfl, s, DtT.app h2 t⟩
theorem DtT.put {K : PySem.W.Frag} {G : Hp} {k : List Key} {d : D} {v : V} (hd : Dt K G d v) {ds : List (List Key × D)} {kvs : List (List Key × V)} (h : DtT K G ds kvs) : DtT K G (putD ds k d) (putK kvs k v) := by
  unfold putD putK
  rw [h.any]
  split
  · exact h.repl hd
  · exact DtT.app (es := [(k, d)]) (ws := [(k, v)]) ⟨v, [], rfl, hd, rfl⟩ h
theorem DtT.length {K : PySem.W.Frag} {G : Hp} : ∀ {ds : List (List Key × D)} {kvs : List (List Key × V)}, DtT K G ds kvs → kvs.length = ds.length
  | [], _, h => by rw [show _ = [] from h]; rfl
  | (k', d') :: ds, _, ⟨v', r, q, s, t⟩ => by
    subst q
    rw [List.length_cons, List.length_cons, DtT.length t]
theorem putD_len {κ : Type} [DecidableEq κ] (ds : List (κ × D)) (k : κ) (d : D) : (putD ds k d).length ≤ ds.length + 1 := by
  unfold putD
  split
  · rw [List.length_map]; omega
  · rw [List.length_append]; exact Nat.le_refl _
/-- a cell's data -/
def dOf : Cl → D
  | .lst ds => .lst ds | .dk ds => .dk ds | .dt ds => .dt ds | .rg _ _ => .non | .ob C _ fs => .obj C fs
section
variable {B : Bs} {ρ ρ' : Ro} {μ μ' : Mu} {τ : List (V × D)} {σ σ2 : L2.St} {H : Hp} {ta tb tc te tx td ty : TE} {P : D → Prop} {d e : D} {p : Addr} {x y : Int} {kvs : List (List Key × D)} {kks : List (Key × D)} {D0 : Ends} {tz : TS} {k : Nat}
theorem At.freezeC {c : Cl} (hc : ∀ lo hi, c ≠ .rg lo hi) (a : At B ρ ((p, c) :: μ) τ σ H) : At B ρ μ ((.ref p, dOf c) :: τ) σ H := by
  obtain ⟨G, g⟩ := a
  obtain ⟨n1, n2, n3, n4⟩ := (g.cells _ (List.mem_cons_self ..) : G p = none ∧ B.H0 p = none ∧ p ∉ B.M ∧ CellOk B.K G H p c)
  have n5 : ∀ us, H p ≠ some (.tup us) := fun us => n4.noTup
  obtain ⟨o, h1, h2⟩ : ∃ o, H p = some o ∧ ∀ G', Same G G' → G' p = some o → Dt B.K G' (dOf c) (.ref p) := by
    cases c with
    | lst ds => obtain ⟨vs, a, b⟩ := n4; exact ⟨_, a, fun G' s e => ⟨p, vs, rfl, e, DtA.mono s ds b⟩⟩
    | dk ds => obtain ⟨vs, a, b⟩ := n4; exact ⟨_, a, fun G' s e => ⟨p, vs, rfl, e, DtK.mono s ds b⟩⟩
    | dt ds => obtain ⟨vs, a, b⟩ := n4; exact ⟨_, a, fun G' s e => ⟨p, vs, rfl, e, DtT.mono s ds b⟩⟩
    | rg lo hi => exact absurd rfl (hc lo hi)
    | ob C dx ds => obtain ⟨vs, a, b⟩ := n4; exact ⟨_, a, fun G' s e => ⟨p, dx, vs, rfl, e, DtF.mono s ds b⟩⟩
  have sg : Same G (upd G p o) := same_new n1
  have nd := g.nd
  rw [List.map_cons, List.nodup_cons] at nd
  refine ⟨upd G p o, AtG.push ⟨fun b u e => ?_, g.inv, fun b hb => ?_, fun b us e => ?_, g.base, fun b u e => ?_, g.len, fun i d e => let ⟨v, a, c⟩ := g.slots i d e; ⟨v, a, Dt.mono sg d c⟩, fun q hq => ?_, nd.2, fun q hq => Dt.mono sg q.2 (g.temps q hq)⟩ (h2 _ sg upd_same)⟩
  · by_cases hb : b = p
    · subst hb; rw [upd_same] at e; rw [← e]; exact h1
    · rw [upd_ne hb] at e; exact g.sub b u e
  · rw [upd_ne (ne_of_mem n3 hb)]; exact g.out b hb
  · by_cases hb : b = p
    · subst hb; exact absurd e (n5 us)
    · rw [upd_ne hb]; exact g.tup b us e
  · by_cases hb : b = p
    · subst hb; exact .inl n2
    · rw [upd_ne hb] at e; exact g.ext b u e
  · obtain ⟨c1, c2, c3, c4⟩ := g.cells q (List.mem_cons_of_mem _ hq)
    refine ⟨?_, c2, c3, c4.mono sg fun o e => e⟩
    rw [upd_ne (fun z => nd.1 (List.mem_map.mpr ⟨q, hq, z⟩))]; exact c1
theorem xv_dnewT : Xv B tDNewT ρ μ (fun d μ' => ∃ p, d = .raw (.ref p) ∧ μ' = (p, .dt []) :: μ) := fun τ σ H a Q q => fun p hp => q _ _ _ _ ⟨p, rfl, rfl⟩ (At.flat (At.newCell (c := .dt []) a hp fun G _ => ⟨[], upd_same, rfl⟩).1 fun _ => rfl)
abbrev k2 (x y : Int) : List Key := [.inl x, .inl y]
theorem key_at {K : PySem.W.Frag} {G : Hp} {v : V} {x y : Int} (h : Dt K G (.tup [.int x, .int y]) v) : ∃ q, v = .ref q ∧ G q = some (.tup ((k2 x y).map kV)) := by
  obtain ⟨q, vs, rfl, e, k⟩ := h
  have := DtA.ints (is := [x, y]) k
  subst this
  exact ⟨q, rfl, e⟩
/-- steps[x, y] = d, steps a cell -/
theorem x_dputT {j : Nat} (a : At B ρ μ τ σ H) (hs : ρ[j]? = some (some (.raw (.ref p)))) (hm : μ[k]? = some (p, .dt kvs)) (hv : Ed B te ρ μ d) (hy : Ed B ty ρ μ (.tup [.int x, .int y])) (hz : kvs.length < 100000) (q : ∀ H', At B ρ (μ.set k (p, .dt (putD kvs (k2 x y) d))) τ σ H' → D0.nx σ H') : sDPut (tVar j) ty te D0 σ H := by
  refine hv.go a fun v H1 d1 hd a1 => ?_
  subst hd
  obtain ⟨w, h1, h2⟩ := a1.var hs
  obtain ⟨G, g, hw⟩ := h2.top
  refine ⟨w, h1, hy.go a1 fun u H2 d2 hd2 a2 => ?_⟩
  subst hd2
  obtain ⟨G2, g2⟩ := id a2
  obtain ⟨qa, rfl, hq⟩ := key_at (g2.temps _ (List.mem_cons_self ..))
  obtain ⟨ws, e3, k3⟩ := (g2.cells _ (List.mem_of_getElem? hm)).2.2.2
  refine ⟨p, _, hw, DPut.t e3 (g2.sub _ _ hq) (by rw [k3.length]; exact Nat.lt_trans hz (by decide)), q _ (At.pop (At.pop (At.write (c' := .dt (putD kvs (k2 x y) d1)) a2 hm fun G' k' hc => ?_)))⟩
  obtain ⟨ws', e4, k4⟩ := hc
  rw [e3] at e4
  cases e4
  exact ⟨_, upd_same, k4.put (k' _ (List.mem_cons_of_mem _ (List.mem_cons_self ..)))⟩
theorem y_dputT {j : Nat} (a : At B ρ μ τ σ H) (hs : ρ[j]? = some (some (.raw (.ref p)))) (hm : μ[k]? = some (p, .dt kvs)) (hv : Ed B te ρ μ d) (hy : Ed B ty ρ μ (.tup [.int x, .int y])) (hz : kvs.length < 100000) (q : ∀ H', At B ρ (μ.set k (p, .dt (putD kvs (k2 x y) d))) τ σ H' → tz D0 σ H') : tSeq (sDPut (tVar j) ty te) tz D0 σ H := x_dputT (D0 := { D0 with nx := tz D0 }) a hs hm hv hy hz q
/-- a display of texts as keys -/
def PrOk (B : Bs) (ρ : Ro) (μ : Mu) : List (TE × TE) → List (Key × D) → Prop
  | [], [] => True
  | (tk, tv) :: r, (k, d) :: s => tk = tC (kV k) ∧ Ed B tv ρ μ d ∧ PrOk B ρ μ r s
  | _, _ => False
theorem pairs_go {B : Bs} {ρ : Ro} {μ : Mu} : ∀ (trs : List (TE × TE)) (kds : List (Key × D)) {τ : List (V × D)} {σ : L2.St} {H : Hp}, PrOk B ρ μ trs kds → At B ρ μ τ σ H → ∀ Q : List (V × V) → Hp → Prop, (∀ (vs : List V) H', vs.length = kds.length → At B ρ μ ((vs.zip (kds.map (·.2))).reverse ++ τ) σ H' → Q ((kds.map (·.1)).zipWith (fun k v => (kV k, v)) vs) H') → tPairs trs σ H Q
  | [], [], τ, σ, H, _, a, Q, q => by simp only [tPairs]; exact q [] H rfl a
  | [], _ :: _, _, _, _, h, _, _, _ => False.elim h
  | _ :: _, [], _, _, _, h, _, _, _ => False.elim h
  | (tk, tv) :: r, (k, d) :: s, τ, σ, H, h, a, Q, q => by
    obtain ⟨rfl, h2, h3⟩ := h
    simp only [tPairs, tC]
    refine h2.go a fun v H1 d' hd a1 => ?_
    subst hd
    refine pairs_go r s h3 a1 _ fun vs H2 hl a2 => q (v :: vs) H2 (by rw [List.length_cons, List.length_cons, hl]) (a2.sub fun z hz => ?_)
    rw [List.map_cons, List.zip_cons_cons, List.reverse_cons, List.append_assoc] at hz
    exact hz
theorem dtk_of {K : PySem.W.Frag} {G : Hp} : ∀ {kds : List (Key × D)} {vs : List V}, vs.length = kds.length → (∀ q ∈ vs.zip (kds.map (·.2)), Dt K G q.2 q.1) → DtK K G kds ((kds.map (·.1)).zip vs)
  | [], [], _, _ => rfl
  | [], _ :: _, h, _ => by simp at h
  | _ :: _, [], h, _ => by simp at h
  | (k, d) :: s, v :: vs, h, g => ⟨v, _, rfl, g (v, d) (List.mem_cons_self ..), dtk_of (by simpa using h) fun q hq => g q (List.mem_cons_of_mem _ hq)⟩
theorem merge_new : ∀ (kvs acc : List (Key × V)), ((acc ++ kvs).map (·.1)).Nodup → mergeK acc kvs = acc ++ kvs
  | [], acc, _ => by rw [List.append_nil]; rfl
  | (k, v) :: r, acc, h => by
    have e : putK acc k v = acc ++ [(k, v)] := by
      unfold putK
      rw [if_neg]
      intro z
      obtain ⟨p, hp, e⟩ := List.any_eq_true.mp z
      have e' : p.1 = k := of_decide_eq_true e
      rw [List.map_append, List.map_cons] at h
      exact (List.nodup_append.mp h).2.2 p.1 (List.mem_map.mpr ⟨p, hp, rfl⟩) k (List.mem_cons_self ..) e'
    show mergeK (putK acc k v) r = _
    rw [e, merge_new r _ (by rw [List.append_assoc]; exact h), List.append_assoc]; rfl
theorem ed_disp {trs : List (TE × TE)} {kds : List (Key × D)} (h : ∀ q, PrOk B ρ ((q, .dk []) :: μ) trs kds) (hn : (kds.map (·.1)).Nodup) (hl : kds.length ≤ 15) : Ed B (tDisp trs) ρ μ (.dk kds) := Ev.mk fun τ σ H a Q q => fun p hp => by
  obtain ⟨a1, _⟩ := At.newCell (c := .dk []) (o := .dK []) a hp fun G _ => ⟨[], upd_same, rfl⟩
  refine pairs_go trs kds (h p) a1 _ fun vs H2 hv a2 => ?_
  obtain ⟨G, g, ws, e, k⟩ := a2.cell (j := 0) rfl
  have hw : ws = [] := k
  subst hw
  have hz : ((kds.map (·.1)).zip vs).map (·.1) = kds.map (·.1) := by
    rw [List.map_fst_zip]; rw [List.length_map, hv]; exact Nat.le_refl _
  have hm : mergeK [] ((kds.map (·.1)).zip vs) = (kds.map (·.1)).zip vs := merge_new _ [] (by rw [List.nil_append, hz]; exact hn)
  refine ⟨e, (kds.map (·.1)).zip vs, ?_, ?_, q _ _ (.dk kds) rfl ?_⟩
  · rw [List.zip_eq_zipWith, List.map_zipWith]
  · rw [List.length_zip, List.length_map]; omega
  · rw [hm]
    have a3 := At.write (j := 0) (c' := .dk kds) (o := .dK ((kds.map (·.1)).zip vs)) a2 rfl fun G' k' _ => ⟨_, upd_same, dtk_of hv fun z hz => k' z (List.mem_append_left _ (List.mem_reverse.mpr hz))⟩
    have a4 := At.freezeC (c := .dk kds) (by intro _ _ z; cases z) a3
    exact a4.sub fun z hz => by
      rcases List.mem_cons.mp hz with y | y
      · rw [y]; exact List.mem_cons_self ..
      · exact List.mem_cons_of_mem _ (List.mem_append_right _ y)
/-- (x, y) in steps -/
theorem eb_dinC {j : Nat} (hs : ρ[j]? = some (some (.raw (.ref p)))) (hm : μ[k]? = some (p, .dt kvs)) (hy : Ed B ty ρ μ (.tup [.int x, .int y])) : Eb B (tB (tDIn ty (tVar j))) ρ μ (getD' kvs (k2 x y)).isSome := fun τ σ H a Q q => hy.go a fun u H1 d1 hd a1 => by
  subst hd
  obtain ⟨w, h1, h2⟩ := a1.var hs
  obtain ⟨G, g, hw⟩ := h2.top
  obtain ⟨qa, rfl, hq⟩ := key_at (g.temps _ (List.mem_cons_self ..))
  obtain ⟨ws, e3, k3⟩ := (g.cells _ (List.mem_of_getElem? hm)).2.2.2
  refine ⟨w, h1, p, _, hw, DGet.t e3 (g.sub _ _ hq), _, rfl, q _ H1 ?_ a1.pop⟩
  rcases k3.get (k := k2 x y) with ⟨h3, h4⟩ | ⟨dd, vv, h3, h4, _⟩ <;> rw [h3, h4] <;> rfl
theorem eb_dinT (hs : Ed B td ρ μ (.dt kvs)) (hy : Ed B ty ρ μ (.tup [.int x, .int y])) : Eb B (tB (tDIn ty td)) ρ μ (getD' kvs (k2 x y)).isSome := fun τ σ H a Q q => hy.go a fun u H1 d1 hd a1 => hs.go a1 fun w H2 d2 hd2 a2 => by
  subst hd; subst hd2
  obtain ⟨G, g⟩ := id a2
  obtain ⟨qa, rfl, hq⟩ := key_at (g.temps _ (List.mem_cons_of_mem _ (List.mem_cons_self ..)))
  obtain ⟨pa, ws, rfl, e3, k3⟩ := g.temps _ (List.mem_cons_self ..)
  refine ⟨pa, _, rfl, DGet.t (g.sub _ _ e3) (g.sub _ _ hq), _, rfl, q _ H2 ?_ a2.pop.pop⟩
  rcases k3.get (k := k2 x y) with ⟨h3, h4⟩ | ⟨dd, vv, h3, h4, _⟩ <;> rw [h3, h4] <;> rfl
theorem ed_dinT (hs : Ed B td ρ μ (.dt kvs)) (hy : Ed B ty ρ μ (.tup [.int x, .int y])) : Ed B (tDIn ty td) ρ μ (.bl (getD' kvs (k2 x y)).isSome) := Ev.mk fun τ σ H a Q q => hy.go a fun u H1 d1 hd a1 => hs.go a1 fun w H2 d2 hd2 a2 => by
  subst hd; subst hd2
  obtain ⟨G, g⟩ := id a2
  obtain ⟨qa, rfl, hq⟩ := key_at (g.temps _ (List.mem_cons_of_mem _ (List.mem_cons_self ..)))
  obtain ⟨pa, ws, rfl, e3, k3⟩ := g.temps _ (List.mem_cons_self ..)
  refine ⟨pa, _, rfl, DGet.t (g.sub _ _ e3) (g.sub _ _ hq), q (.bl (valV ws (k2 x y)).isSome) H2 (.bl (valV ws (k2 x y)).isSome) ?_ (At.flat a2.pop.pop fun _ => rfl)⟩
  rcases k3.get (k := k2 x y) with ⟨h3, h4⟩ | ⟨dd, vv, h3, h4, _⟩ <;> rw [h3, h4] <;> rfl
/-- world["steps"] -/
theorem ed_dgetK {z : Str} (hs : Ed B td ρ μ (.dk kks)) (hz : getD' kks (.inr z) = some d) : Ed B (tDGet td (tC (.str z))) ρ μ d := Ev.mk fun τ σ H a Q q => hs.go a fun w H1 d1 hd a1 => by
  subst hd
  obtain ⟨G, g, pa, ws, rfl, e3, k3⟩ := a1.top
  rcases k3.get (k := .inr z) with ⟨h3, h4⟩ | ⟨dd, vv, h3, h4, h5⟩
  · rw [hz] at h3; cases h3
  · rw [hz] at h3
    cases h3
    refine ⟨pa, vv, rfl, ?_, q vv H1 _ rfl ⟨G, g.push h5⟩⟩
    rw [← h4]
    exact DGet.k (k := Sum.inr z) (g.sub _ _ e3)
/-- steps.get((x, y), e) -/
theorem ed_dget2T (hs : Ed B td ρ μ (.dt kvs)) (hy : Ed B ty ρ μ (.tup [.int x, .int y])) (hx : Ed B tx ρ μ e) : Ed B (tDGet2 td ty tx) ρ μ ((getD' kvs (k2 x y)).getD e) := Ev.mk fun τ σ H a Q q => hs.go a fun w H1 d1 hd a1 => by
  subst hd
  obtain ⟨G, g⟩ := id a1
  obtain ⟨pa, ws, rfl, e3, k3⟩ := g.temps _ (List.mem_cons_self ..)
  refine ⟨pa, rfl, .inr ⟨ws, .inl (g.sub _ _ e3)⟩, hy.go a1 fun u H2 d2 hd2 a2 => hx.go a2 fun z H3 d3 hd3 a3 => ?_⟩
  subst hd2; subst hd3
  obtain ⟨G3, g3⟩ := id a3
  obtain ⟨qa, rfl, hq⟩ := key_at (g3.temps _ (List.mem_cons_of_mem _ (List.mem_cons_self ..)))
  obtain ⟨pb, ws', e0, e4, k4⟩ := g3.temps (V.ref pa, D.dt kvs) (List.mem_cons_of_mem _ (List.mem_cons_of_mem _ (List.mem_cons_self ..)))
  cases e0
  refine ⟨_, DGet.t (g3.sub _ _ e4) (g3.sub _ _ hq), ?_⟩
  rcases k4.get (k := k2 x y) with ⟨h3, h4⟩ | ⟨dd, vv, h3, h4, h5⟩
  · rw [h4]
    exact q z H3 d3 (by rw [h3]; rfl) ⟨G3, { g3 with temps := fun t ht => (List.mem_cons.mp ht).elim (fun e => by rw [e]; exact g3.temps _ (List.mem_cons_self ..)) fun e => g3.temps t (List.mem_cons_of_mem _ (List.mem_cons_of_mem _ (List.mem_cons_of_mem _ e))) }⟩
  · rw [h4]
    exact q vv H3 dd (by rw [h3]; rfl) ⟨G3, { g3 with temps := fun t ht => (List.mem_cons.mp ht).elim (fun e => by rw [e]; exact h5) fun e => g3.temps t (List.mem_cons_of_mem _ (List.mem_cons_of_mem _ (List.mem_cons_of_mem _ e))) }⟩
end
end Cal


namespace Cal
open PySem PySem.Spec PyProof.Rows L2
/-! ### objects of the program's own classes -/
theorem DtF.get {K : PySem.W.Frag} {G : Hp} {f : Str} {d : D} : ∀ {fs : List (Str × D)} {vs : List (Str × V)}, DtF K G fs vs → fs.lookup f = some d → ∃ v, vs.lookup f = some v ∧ Dt K G d v
  | [], _, _, h => by cases h
  | (g, e) :: r, _, ⟨v, r', rfl, hv, hr⟩, h => by
    rw [List.lookup_cons] at h ⊢
    by_cases z : (f == g) = true
    · rw [z] at h ⊢
      exact ⟨v, rfl, Option.some.inj h ▸ hv⟩
    · rw [Bool.not_eq_true] at z
      rw [z] at h ⊢
      exact DtF.get hr h
theorem DtF.len {K : PySem.W.Frag} {G : Hp} : ∀ {fs : List (Str × D)} {vs : List (Str × V)}, DtF K G fs vs → vs.length = fs.length
  | [], _, h => by rw [show _ = [] from h]; rfl
  | (g, e) :: r, _, ⟨v, r', rfl, hv, hr⟩ => by rw [List.length_cons, List.length_cons, DtF.len hr]
def putFD (f : Str) (d : D) : List (Str × D) → List (Str × D)
  | [] => [(f, d)]
  | (g, x) :: r => if g = f then (g, d) :: r else (g, x) :: putFD f d r
theorem DtF.put {K : PySem.W.Frag} {G : Hp} {f : Str} {d : D} {v : V} (hd : Dt K G d v) : ∀ {fs : List (Str × D)} {vs : List (Str × V)}, DtF K G fs vs → DtF K G (putFD f d fs) (putF f v vs)
  | [], _, h => by rw [show _ = [] from h]; exact ⟨v, [], rfl, hd, rfl⟩
  | (g, e) :: r, _, ⟨u, r', rfl, hv, hr⟩ => by
    unfold putFD putF
    by_cases z : g = f
    · rw [if_pos z, if_pos z]; exact ⟨v, r', rfl, hd, hr⟩
    · rw [if_neg z, if_neg z]; exact ⟨u, _, rfl, hv, DtF.put hd hr⟩
/-- what a class's init promises: the fields of the new object -/
def isp (K : PySem.W.Frag) (C : Addr) (pre : List D → Prop) (post : List D → List (Str × D) → Prop) : Sp := fun vs H Q E => ∃ (x dx : Addr) (G : Hp) (ds : List D) (us : List V), vs = .ref x :: us ∧ DtA K G ds us ∧ pre ds ∧ Same G H ∧ (∀ b vs, H b = some (.tup vs) → G b = some (.tup vs)) ∧ H x = some (.ins C dx []) ∧ G x = none ∧
  ∀ H' fs kvs, post ds fs → H' x = some (.ins C dx kvs) → (∀ b o, H b = some o → b ≠ x → H' b = some o) → DtF K (fun b => match H b with | none => H' b | some _ => G b) fs kvs → Q .non H'
section
variable {B : Bs} {ρ : Ro} {μ : Mu} {τ : List (V × D)} {σ : L2.St} {H : Hp} {te tv : TE} {P : D → Prop} {d : D} {R : D → Mu → Prop} {C dx p : Addr} {fs : List (Str × D)} {f : Str} {D0 : Ends} {tz : TS} {E : XK} {j k : Nat}
theorem ed_fld (h : Ed B te ρ μ (.obj C fs)) (c : Cls B.K C) (n : NoAttr B.K C f) (l : fs.lookup f = some d) : Ed B (tFld B.K te f) ρ μ d := Ev.mk fun τ σ H a Q q => h.go a fun v H1 e he a1 => by
  subst he
  obtain ⟨G, g, p, dx, vs, rfl, e, kf⟩ := id a1.top
  obtain ⟨v, h1, h2⟩ := kf.get l
  exact ⟨p, C, dx, vs, v, rfl, g.sub _ _ e, c, n, h1, q v H1 d rfl ⟨G, g.push h2⟩⟩
/-- a field of a cell -/
theorem ed_fldC (hs : ρ[j]? = some (some (.raw (.ref p)))) (hm : μ[k]? = some (p, .ob C dx fs)) (c : Cls B.K C) (n : NoAttr B.K C f) (l : fs.lookup f = some d) : Ed B (tFld B.K (tVar j) f) ρ μ d := Ev.mk fun τ σ H a Q q => by
  obtain ⟨u, h1, h2⟩ := a.var hs
  obtain ⟨G, g, hv⟩ := h2.top
  obtain ⟨vs, e1, e2⟩ := (g.cells _ (List.mem_of_getElem? hm)).2.2.2
  obtain ⟨v, h3, h4⟩ := e2.get l
  exact ⟨u, h1, p, C, dx, vs, v, hv, e1, c, n, h3, q v H d rfl ⟨G, g.push h4⟩⟩
theorem x_fld (a : At B ρ μ τ σ H) (hs : ρ[j]? = some (some (.raw (.ref p)))) (he : Xv B tv ρ μ R) (hR : ∀ d μ', R d μ' → ∃ k : Nat, μ'[k]? = some (p, Cl.ob C dx fs)) (c : Cls B.K C) (n : NoAttr B.K C f) (hl : fs.length < 1000)
    (q : ∀ d μ' (k : Nat) H', R d μ' → μ'[k]? = some (p, Cl.ob C dx fs) → At B ρ (μ'.set k (p, Cl.ob C dx (putFD f d fs))) τ σ H' → D0.nx σ H') : sFld B.K (tVar j) tv f D0 σ H := he τ σ H a _ fun v H1 d μ' hd a1 => by
  obtain ⟨k, hk⟩ := hR d μ' hd
  obtain ⟨u, h1, h2⟩ := a1.var hs
  obtain ⟨G, g, hv⟩ := h2.top
  obtain ⟨vs, e1, e2⟩ := (g.cells _ (List.mem_of_getElem? hk)).2.2.2
  refine ⟨u, h1, p, C, dx, vs, hv, e1, c, n, by rw [e2.len]; exact hl, q d μ' k _ hd hk (At.pop (At.write (c' := .ob C dx (putFD f d fs)) a1 hk fun G' k' hc => ?_))⟩
  obtain ⟨ws, e3, e4⟩ := hc
  rw [e1] at e3
  cases e3
  exact ⟨_, upd_same, e4.put (k' (v, d) (List.mem_cons_self ..))⟩
theorem y_fld (a : At B ρ μ τ σ H) (hs : ρ[j]? = some (some (.raw (.ref p)))) (he : Xv B tv ρ μ R) (hR : ∀ d μ', R d μ' → ∃ k : Nat, μ'[k]? = some (p, Cl.ob C dx fs)) (c : Cls B.K C) (n : NoAttr B.K C f) (hl : fs.length < 1000)
    (q : ∀ d μ' (k : Nat) H', R d μ' → μ'[k]? = some (p, Cl.ob C dx fs) → At B ρ (μ'.set k (p, Cl.ob C dx (putFD f d fs))) τ σ H' → tz D0 σ H') : tSeq (sFld B.K (tVar j) tv f) tz D0 σ H := x_fld (D0 := { D0 with nx := tz D0 }) a hs he hR c n hl q
theorem isp_start {K : PySem.W.Frag} {pre : List D → Prop} {post : List D → List (Str × D) → Prop} {vs : List V} {Q : VK} (N : List Str) (h : isp K C pre post vs H Q E) :
    ∃ (x dx : Addr) (G : Hp) (ds : List D), pre ds ∧ vs.length = ds.length + 1 ∧ At ⟨K, fun _ => True, [], fun _ _ _ _ => True.intro, G, fun b => if b = x then none else H b⟩ ((some (.raw (.ref x)) :: ds.map some) ++ List.replicate (N.length - (ds.length + 1)) none) [(x, Cl.ob C dx [])] [] (start N vs) H ∧
      ∀ {ρ μ τ σ H' fs} {k : Nat}, post ds fs → μ[k]? = some (x, Cl.ob C dx fs) → At ⟨K, fun _ => True, [], fun _ _ _ _ => True.intro, G, fun b => if b = x then none else H b⟩ ρ μ τ σ H' → Q .non H' := by
  obtain ⟨x, dx, G, ds, us, rfl, k, hp, s, tp, hx, gx, q⟩ := h
  refine ⟨x, dx, G, ds, hp, by rw [List.length_cons, k.length], ⟨G, ⟨s, True.intro, fun b hb => (nomatch hb), tp, fun b o e _ => ?_, fun _ _ e => .inr e, ?_, fun i d e => ?_, fun p h => ?_, ?_, fun _ h => (nomatch h)⟩⟩, fun {ρ μ τ σ H' fs k'} hd hk a => ?_⟩
  · have e' : (if b = x then none else H b) = some o := e
    by_cases z : b = x
    · rw [if_pos z] at e'; cases e'
    · rwa [if_neg z] at e'
  · show ((some (D.raw (.ref x)) :: ds.map some) ++ List.replicate (N.length - (ds.length + 1)) none).length = ((V.ref x :: us).map some ++ List.replicate (N.length - (V.ref x :: us).length) none).length
    rw [List.length_append, List.length_append, List.length_cons, List.length_map, List.length_map, List.length_replicate, List.length_replicate, List.length_cons, k.length]
  · match i, e with
    | 0, e =>
      have e1 : (some (some (D.raw (.ref x))) : Option (Option D)) = some (some d) := e
      cases e1
      exact ⟨.ref x, rfl, rfl⟩
    | i + 1, e =>
      have e' : (ds.map some ++ List.replicate (N.length - (ds.length + 1)) none)[i]? = some (some d) := by simpa using e
      by_cases hi : i < ds.length
      · rw [List.getElem?_append_left (by rw [List.length_map]; exact hi), List.getElem?_map] at e'
        cases e1 : ds[i]? with
        | none => rw [e1] at e'; cases e'
        | some d' =>
          rw [e1] at e'
          have e2 : d' = d := Option.some.inj (Option.some.inj e')
          subst e2
          obtain ⟨v, h1, h2⟩ := k.get e1
          refine ⟨v, ?_, h2⟩
          show ((V.ref x :: us).map some ++ List.replicate (N.length - (V.ref x :: us).length) none)[i + 1]? = _
          rw [List.getElem?_append_left (by rw [List.length_map, List.length_cons, k.length]; omega), List.getElem?_map, List.getElem?_cons_succ, h1]
          rfl
      · rw [List.getElem?_append_right (by rw [List.length_map]; omega), List.getElem?_replicate] at e'
        split at e' <;> cases e'
  · have h' := List.mem_singleton.mp h
    subst h'
    exact ⟨gx, by show (if x = x then none else H x) = none; rw [if_pos rfl], fun z => (nomatch z), [], hx, rfl⟩
  · show ([x] : List Addr).Nodup
    exact List.nodup_cons.mpr ⟨fun z => (nomatch z), List.nodup_nil⟩
  · obtain ⟨G1, g⟩ := a
    obtain ⟨c1, _, _, kvs, c2, c3⟩ := g.cells _ (List.mem_of_getElem? hk)
    refine q H' fs kvs hd c2 (fun b o e z => g.base b o (by show (if b = x then none else H b) = some o; rw [if_neg z]; exact e) fun y => nomatch y) (DtF.mono (fun b o e => ?_) fs c3)
    show (match H b with | none => H' b | some _ => G b) = some o
    rcases g.ext b o e with z | z
    · have z' : (if b = x then none else H b) = none := z
      by_cases y : b = x
      · rw [y, show G1 x = none from c1] at e; cases e
      · rw [if_neg y] at z'
        rw [z']; exact g.sub b o e
    · rw [s b o z]; exact z
/-- a new object, whole -/
theorem ev_make {K : PySem.W.Frag} {pre : List D → Prop} {post : List D → List (Str × D) → Prop} {t : TA} {ds : List D} (hK : B.K = K) (h : Ea B t ρ μ (fun l => l = ds)) (hpre : pre ds) (hpost : ∀ fs, post ds fs → P (.obj C fs)) : Ev B (tMake C (isp K C pre post) [] E t) ρ μ P := Ev.mk fun τ σ H a Q q => h τ σ H a _ fun vs H1 es hes hl a1 => by
  subst hes; subst hK
  obtain ⟨G, g, k⟩ := a1.args hl
  intro x dx hx hdx hne
  rw [List.append_nil]
  have s1 : Same H1 (upd (upd H1 dx (.own x)) x (.ins C dx [])) := fun b o e => by
    rw [upd_ne (ne_of_none e hx), upd_ne (ne_of_none e hdx)]; exact e
  refine ⟨x, dx, G, es, vs, rfl, k, hpre, fun b o e => s1 b o (g.sub b o e), fun b us e => ?_, upd_same, g.sub.free hx, fun H2 fs kvs hp e2 kp df => ⟨rfl, ?_⟩⟩
  · by_cases z : b = x
    · rw [z, upd_same] at e; cases e
    · rw [upd_ne z] at e
      by_cases y : b = dx
      · rw [y, upd_same] at e; cases e
      · rw [upd_ne y] at e; exact g.tup b us e
  · have s2 : ∀ b o, H1 b = some o → H2 b = some o := fun b o e => kp b o (s1 b o e) (ne_of_none e hx)
    have sg : Same G (fun b => match H1 b with | none => H2 b | some _ => G b) := fun b o e => by
      show (match H1 b with | none => H2 b | some _ => G b) = some o
      rw [g.sub b o e]; exact e
    have gn : ∀ b, G b = none → H1 b ≠ none → (match H1 b with | none => H2 b | some _ => G b) = none := fun b e1 e2 => by
      cases e : H1 b with
      | none => exact absurd e e2
      | some o => exact e1
    have same : ∀ b ∈ B.M, H2 b = H1 b := fun b hb => by
      cases e : H1 b with
      | none => exact absurd e (g.out b hb).2.1
      | some o => exact s2 b o e
    refine q (.ref x) H2 (.obj C fs) (hpost fs hp) ⟨_, AtG.push (G := fun b => match H1 b with | none => H2 b | some _ => G b) ⟨fun b o e => ?_, B.loc H1 H2 g.inv same, fun b hb => ⟨gn b (g.out b hb).1 (g.out b hb).2.1, by unfold Ent; rw [same b hb]; exact (g.out b hb).2⟩, fun b us e => ?_, fun b o e hb => s2 b o (g.base b o e hb), fun b o e => ?_, g.len, fun i d e => let ⟨v, a, c⟩ := g.slots i d e; ⟨v, a, Dt.mono sg d c⟩, fun p hp => ?_, g.nd, fun p hp => Dt.mono sg p.2 (g.temps p hp)⟩ ⟨x, dx, kvs, rfl, ?_, DtF.mono (fun b o e => ?_) fs df⟩⟩
    · cases e1 : H1 b with
      | none => rw [e1] at e; exact e
      | some o1 => rw [e1] at e; exact s2 b o (g.sub b o e)
    · show (match H1 b with | none => H2 b | some _ => G b) = some (.tup us)
      cases e1 : H1 b with
      | none => exact e
      | some o1 =>
        rw [s2 b o1 e1] at e
        rw [e] at e1
        exact g.tup b us e1
    · cases e1 : H1 b with
      | none =>
        refine .inl ?_
        cases e3 : B.H0 b with
        | none => rfl
        | some o2 =>
          by_cases m : b ∈ B.M
          · exact absurd e1 (g.out b m).2.1
          · rw [g.base b o2 e3 m] at e1; cases e1
      | some o1 => rw [e1] at e; exact g.ext b o e
    · obtain ⟨c1, c2, c3, c4⟩ := g.cells p hp
      exact ⟨gn _ c1 c4.there, c2, c3, c4.mono sg fun o e => s2 _ o e⟩
    · show (match H1 x with | none => H2 x | some _ => G x) = _
      rw [hx]; exact e2
    · show (match H1 b with | none => H2 b | some _ => G b) = some o
      have e' : (match upd (upd H1 dx (.own x)) x (.ins C dx []) b with | none => H2 b | some _ => G b) = some o := e
      cases e1 : H1 b with
      | some o1 => rw [s1 b o1 e1] at e'; exact e'
      | none =>
        by_cases z : b = x
        · rw [z, upd_same] at e'
          have : G x = none := g.sub.free hx
          rw [this] at e'; cases e'
        · rw [upd_ne z] at e'
          by_cases y : b = dx
          · rw [y, upd_same] at e'
            have : G dx = none := g.sub.free hdx
            rw [this] at e'; cases e'
          · rw [upd_ne y, e1] at e'; exact e'
end
end Cal


namespace Cal
open PySem PySem.Spec PyProof.Rows L2
/-! ### sorted, of tuples of ints of any lengths -/
def wlt (x y : List Int) : Bool := lexLt itemOrd (x.map Sum.inl) (y.map Sum.inl)
theorem wlt_anti {x y : List Int} (h1 : wlt x y = false) (h2 : wlt y x = false) : x = y := by
  have e : x.map (Sum.inl : Int → Int ⊕ List Nat) = y.map Sum.inl := (listOrd itemOrd).total _ _ h1 h2
  have := congrArg (List.map fun z : Int ⊕ List Nat => match z with | .inl i => i | .inr _ => 0) e
  rw [List.map_map, List.map_map] at this
  have e2 : ∀ l : List Int, l.map ((fun z : Int ⊕ List Nat => match z with | .inl i => i | .inr _ => 0) ∘ Sum.inl) = l := fun l => List.map_id l
  rwa [e2, e2] at this
theorem items_ints : ∀ {ns : List Int} {us : List Value}, Vals (ns.map V.int) us → ∀ i, tupItems (fun _ => false) i us = some (ns.map Sum.inl)
  | [], _, .nil, i => by simp [tupItems]
  | n :: ns, _, .cons r t, i => by
    obtain ⟨tk, rfl⟩ := r
    simp [tupItems, items_ints t (i + 1)]
section
variable {X : Cx}
def rSortTI (K : PySem.W.Frag) : List V → Hp → VK → Prop := fun vs H Q => ∃ (a : Addr) (xs : List V) (k : V → List Int), vs = [V.ref a] ∧ SqL K H a xs ∧ (∀ x ∈ xs, ∃ t, x = V.ref t ∧ SqT K H t ((k x).map V.int) ∧ k x ≠ []) ∧
  ∀ ys p, ys.Perm xs → ys.Pairwise (fun x y => wlt (k y) (k x) = false) → H p = none → Q (.ref p) (upd H p (.lst ys))
theorem cr_sortTI : CallR X (.builtin "sorted") (rSortTI X.K) := by
  intro pins s σ H vs us Q I r h
  obtain ⟨a, xs, k, rfl, hs, hx, q⟩ := h
  obtain ⟨its, rv, hl, hz⟩ := I.list hs
  rw [Vals.ref1 r]
  obtain ⟨e1, e2⟩ := refs_back rv fun x m => let ⟨t, e, _⟩ := hx x m; ⟨t, e⟩
  have at_ : ∀ v ∈ its, ∃ (t : Addr) (o : Obj) (us : List Value) (n : Nat), v = .ref t ∧ s.heap.get? t = some o ∧ o.cls = .type "tuple" ∧ o.data = .seq us.toArray n ∧ Vals ((k (backV v)).map V.int) us ∧ k (backV v) ≠ [] := fun v hv => by
    obtain ⟨t, rfl⟩ := e2 v hv
    have hm : V.ref t ∈ xs := by rw [e1]; exact List.mem_map.mpr ⟨_, hv, rfl⟩
    obtain ⟨t', e, ht, hne⟩ := hx _ hm
    cases e
    obtain ⟨us, r2, ⟨o, ho, hc, n, hd⟩, _⟩ := I.tuple ht
    exact ⟨t, o, us, n, rfl, ho, hc, hd, r2, hne⟩
  have key : ∀ v ∈ its, G.tupKeyC s.heap (fun _ => false) v = some ((k (backV v)).map Sum.inl) := fun v hv => by
    obtain ⟨t, o, us, n, rfl, ho, hc, hd, r2, _⟩ := at_ v hv
    have it : G.isTupObj s.heap (.ref t) = true := by
      simp only [G.isTupObj, ho, hc]; rfl
    unfold G.tupKeyC
    rw [if_pos it]
    simp only [tupKey, ho, hd]
    exact items_ints r2 0
  have tups : ∀ l : List Value, (∀ v ∈ l, v ∈ its) → ∃ fs, TupsOf s.heap (fun _ => false) l fs := fun l => by
    induction l with
    | nil => exact fun _ => ⟨[], .nil⟩
    | cons v r ih =>
      intro hm
      obtain ⟨fs, h1⟩ := ih fun u hu => hm u (List.mem_cons_of_mem _ hu)
      obtain ⟨t, o, us, n, e, ho, hc, hd, r2, hne⟩ := at_ v (hm v (List.mem_cons_self ..))
      cases hk : k (backV v) with
      | nil => exact absurd hk hne
      | cons z zs =>
        rw [hk] at r2
        cases r2 with
        | cons rz rr =>
          obtain ⟨tk, rfl⟩ := rz
          exact ⟨_, .cons ⟨t, o, _, n, e, ho, hc, hd, rfl, fun _ => ⟨z, tk, rfl⟩, fun y => by cases y⟩ h1⟩
  obtain ⟨fs, ht⟩ := tups its fun _ h => h
  refine G.sorted_tups (shape := fun _ => false) (fs := fs) hl.isList ht (fun v hv => ⟨_, key v hv⟩) (by rw [← rv.length]; exact hz) fun st' p1 p2 _ => ?_
  have pl : (arrOf st').toList.Perm (its.zip its) := by rw [← pairsOf_toList]; exact Array.perm_iff_toList_perm.mp p1
  have mem : ∀ p ∈ (arrOf st').toList, p.1 = p.2 ∧ p.1 ∈ its := fun p hp => mem_zip_self (pl.mem_iff.mp hp)
  have eo : ((arrOf st').map (·.2)).toList = (arrOf st').toList.map (·.1) := by
    rw [Array.toList_map]; exact List.map_congr_left fun p hp => (mem p hp).1.symm
  have po : ((arrOf st').map (·.2)).toList.Perm its := by
    rw [eo]
    have h1 := pl.map (·.1)
    have e : (its.zip its).map (fun x : Value × Value => x.1) = its := List.map_fst_zip (Nat.le_refl _)
    rw [e] at h1
    exact h1
  obtain ⟨ep, he⟩ := sortedAll_at s.heap its ((arrOf st').map (·.2))
  have refs : ∀ u ∈ ((arrOf st').map (·.2)).toList, ∃ a, u = Value.ref a := fun u hu => e2 u (po.mem_iff.mp hu)
  have pp : (((arrOf st').map (·.2)).toList.map backV).Perm xs := by rw [e1]; exact po.map _
  refine ⟨.ref _, upd H (s.heap.objs.size + 1) (.lst (((arrOf st').map (·.2)).toList.map backV)), I.laid (t' := s.toks) (fun _ _ => sortedAll_old) (Nat.le_succ _) ⟨by rw [pp.length_eq]; exact hz, _, ep, vals_back refs, he⟩, rfl, q _ _ pp ?_ (I.hok.fresh (Nat.le_succ _))⟩
  rw [List.pairwise_iff_getElem]
  intro i j hi hj hij
  have hi' : i < (arrOf st').size := by simpa using hi
  have hj' : j < (arrOf st').size := by simpa using hj
  have h1 := p2 i j (Nat.le_of_lt hij) (by rw [← p1.size_eq]; exact hj')
  have kk : ∀ i (hi : i < (arrOf st').size), KK (G.tupKindC s.heap fun _ => false) (arrOf st') i = (k (backV (arrOf st')[i].1)).map Sum.inl := fun i hi => by
    unfold KK
    rw [Array.getElem?_eq_getElem hi]
    show (G.tupKeyC s.heap (fun _ => false) (arrOf st')[i].1).getD [] = _
    rw [key _ (mem _ (by simp)).2]; rfl
  rw [kk i hi', kk j hj'] at h1
  simp only [List.getElem_map, Array.getElem_toList, Array.getElem_map]
  rw [← (mem (arrOf st')[i] (by simp)).1, ← (mem (arrOf st')[j] (by simp)).1]
  exact h1
end
section
variable {B : Bs} {ρ : Ro} {μ : Mu} {te : TE} {P : D → Prop} {ws : List (List Int)}
def backI : V → Hp → List Int := fun x G => match x with
  | .ref t => match G t with
    | some (.tup vs) => vs.map fun v => match v with | .int i => i | _ => 0
    | _ => []
  | _ => []
theorem ways_of {K : PySem.W.Frag} {G : Hp} : ∀ {ws : List (List Int)} {vs : List V}, DtA K G (ws.map fun w => .tup (w.map .int)) vs → vs.map (fun x => backI x G) = ws ∧ ∀ x ∈ vs, ∃ t, x = V.ref t ∧ G t = some (.tup ((backI x G).map V.int))
  | [], _, h => by rw [show _ = [] from h]; exact ⟨rfl, fun x hx => by cases hx⟩
  | w :: ws, _, ⟨v, r, rfl, ⟨a, us, ev, e, k⟩, hr⟩ => by
    subst ev
    obtain ⟨h1, h2⟩ := ways_of hr
    have eu := k.ints
    subst eu
    have eb : backI (.ref a) G = w := by
      simp only [backI, e, List.map_map]
      exact List.map_id w
    refine ⟨by rw [List.map_cons, h1, eb], fun x hx => ?_⟩
    rcases List.mem_cons.mp hx with z | z
    · rw [z, eb]; exact ⟨a, rfl, e⟩
    · exact h2 x z
theorem ways_back {K : PySem.W.Frag} {G : Hp} : ∀ {ys : List V}, (∀ x ∈ ys, ∃ t, x = V.ref t ∧ G t = some (.tup ((backI x G).map V.int))) → DtA K G ((ys.map fun x => backI x G).map fun w => .tup (w.map .int)) ys
  | [], _ => rfl
  | y :: ys, h => by
    obtain ⟨t, e, ht⟩ := h y (List.mem_cons_self ..)
    exact ⟨y, ys, rfl, ⟨t, _, e, ht, DtA.of_ints _⟩, ways_back fun x hx => h x (List.mem_cons_of_mem _ hx)⟩
/-- sorted ways: a list of the same, sorted -/
theorem ev_sortTI (h : Ed B te ρ μ (.lst (ws.map fun w => .tup (w.map .int)))) (hne : ∀ w ∈ ws, w ≠ []) (hP : ∀ ys : List (List Int), ys.Perm ws → ys.Pairwise (fun x y => wlt y x = false) → P (.lst (ys.map fun w => .tup (w.map .int)))) :
    Ev B (tCB (rSortTI B.K) (tCons te tNil)) ρ μ P := Ev.mk fun τ σ H a Q q => h.go a fun v H1 d hd a1 => by
  subst hd
  obtain ⟨G, g, p, vs, rfl, e, k⟩ := id a1.top
  obtain ⟨h1, h2⟩ := ways_of k
  refine ⟨p, vs, fun x => backI x G, rfl, .inl (.inl (g.sub _ _ e)), fun x hx => ?_, fun ys p2 py hs hp2 => ?_⟩
  · obtain ⟨t, e1, e2⟩ := h2 x hx
    exact ⟨t, e1, .inl (.inl (g.sub _ _ e2)), hne _ (by rw [← h1]; exact List.mem_map.mpr ⟨x, hx, rfl⟩)⟩
  · refine q _ _ _ (hP (ys.map fun x => backI x G) (by rw [← h1]; exact py.map _) (List.pairwise_map.mpr hs)) (g.newLst hp2 (ways_back fun x hx => h2 x (py.mem_iff.mp hx)))
end
end Cal


namespace Cal
open PySem PySem.Spec PyProof.Rows L2
/-! ### rules whose reading names the fragment alone -/
section
variable {X : Cx} {K : PySem.W.Frag} {l e tg : Expr} {tl ta : TE} {f : Str} {pos : Pos}
theorem pi_tupK (hK : X.K = K) (h : PE X l tl) : PI X tg l (iTup K tl) := hK ▸ pi_tup h
theorem pi_listK (hK : X.K = K) (h : PE X l tl) : PI X tg l (iList K tl) := hK ▸ pi_list h
theorem pe_fldK (hK : X.K = K) (he : PE X e ta) (hb : attributeBase e f X.env (eval e X.env) = eval e X.env) : PE X (.Attribute e f pos) (tFld K ta f) := hK ▸ pe_fld he hb
end
/-! ### DtK grows -/
theorem DtK.app {K : PySem.W.Frag} {G : Hp} {es : List (Key × D)} {ws : List (Key × V)} (h2 : DtK K G es ws) : ∀ {ds : List (Key × D)} {kvs : List (Key × V)}, DtK K G ds kvs → DtK K G (ds ++ es) (kvs ++ ws)
  | [], _, h => by rw [show _ = [] from h]; exact h2
  | (k', d') :: ds, _, ⟨v', r, q, s, t⟩ => by
    subst q
    exact ⟨v', _, rfl, s, DtK.app h2 t⟩
theorem DtK.len {K : PySem.W.Frag} {G : Hp} : ∀ {ds : List (Key × D)} {kvs : List (Key × V)}, DtK K G ds kvs → kvs.length = ds.length
  | [], _, h => by rw [show _ = [] from h]; rfl
  | (k', d') :: ds, _, ⟨v', r, q, s, t⟩ => by rw [q, List.length_cons, List.length_cons, DtK.len t]
theorem flat_rep (n : Nat) (v : V) : (List.replicate n [v]).flatten = List.replicate n v := by
  induction n with
  | zero => rfl
  | succ m ih => rw [List.replicate_succ, List.flatten_cons, ih, List.replicate_succ]; rfl
theorem dt_rep {K : PySem.W.Frag} {G : Hp} {d : D} {v : V} (h : Dt K G d v) : ∀ n, DtA K G (List.replicate n d) (List.replicate n v)
  | 0 => rfl
  | n + 1 => ⟨v, _, rfl, h, dt_rep h n⟩
theorem any_none {κ : Type} [DecidableEq κ] {kvs : List (κ × V)} {k : κ} (h : valV kvs k = none) : (kvs.any fun p => decide (p.1 = k)) = false := by
  unfold valV at h
  rw [Option.map_eq_none_iff, List.find?_eq_none] at h
  exact List.any_eq_false.mpr fun p hp => by simpa using h p hp
section
variable {B : Bs} {ρ : Ro} {μ : Mu} {τ : List (V × D)} {σ : L2.St} {H : Hp} {te ta tb ty tx : TE} {tt : TT} {P : D → Prop} {d e : D} {R : D → Mu → Prop} {p l : Addr} {D0 : Ends} {tz : TS} {j k : Nat} {ds es : List D} {kks : List (Key × D)} {s : Str} {i : Int} {is : List Int}
theorem AtG.write {c c' : Cl} {o : HO} {jj : Nat} {G : Hp} (h : AtG B ρ μ τ σ H G) (hj : μ[jj]? = some (p, c)) (hc : CellOk B.K G (upd H p o) p c') : AtG B ρ (μ.set jj (p, c')) τ σ (upd H p o) G := by
  have hm : (p, c) ∈ μ := List.mem_of_getElem? hj
  obtain ⟨n1, n2, n3, n4⟩ := (h.cells _ hm : G p = none ∧ B.H0 p = none ∧ p ∉ B.M ∧ CellOk B.K G H p c)
  refine ⟨fun b u e => ?_, B.loc H _ h.inv fun b hb => upd_ne (ne_of_mem n3 hb), fun b hb => ⟨(h.out b hb).1, by unfold Ent; rw [upd_ne (ne_of_mem n3 hb)]; exact (h.out b hb).2⟩, fun b vs e => ?_, fun b u e hb => ?_, h.ext, h.len, h.slots, fun q hq => ?_, ?_, h.temps⟩
  · rw [upd_ne (fun z => by subst z; rw [n1] at e; cases e)]; exact h.sub b u e
  · by_cases hb : b = p
    · subst hb; exact absurd e hc.noTup
    · rw [upd_ne hb] at e; exact h.tup b vs e
  · rw [upd_ne (fun z => by subst z; rw [n2] at e; cases e)]; exact h.base b u e hb
  · rcases mem_set hq with e | ⟨i, hi, e⟩
    · subst e; exact ⟨n1, n2, n3, hc⟩
    · obtain ⟨a, b, cc, dd⟩ := h.cells q (List.mem_of_getElem? e)
      have hne : q.1 ≠ p := fun z => by
        have e1 : (μ.map (·.1))[i]? = some p := by rw [List.getElem?_map, e]; simpa using z
        have e2 : (μ.map (·.1))[jj]? = some p := by rw [List.getElem?_map, hj]; rfl
        exact hi ((List.getElem?_inj (List.getElem?_eq_some_iff.mp e1).1 h.nd).mp (e1.trans e2.symm))
      exact ⟨a, b, cc, dd.mono (Same.refl G) fun o' z => by rw [upd_ne hne]; exact z⟩
  · have e : (μ.set jj (p, c')).map (·.1) = μ.map (·.1) := by
      rw [List.map_set]
      refine List.ext_getElem? fun i => ?_
      by_cases hi : jj = i
      · subst hi
        have hl : jj < (μ.map (·.1)).length := by rw [List.length_map]; exact (List.getElem?_eq_some_iff.mp hj).1
        rw [List.getElem?_set_self hl, List.getElem?_map, hj]; rfl
      · rw [List.getElem?_set_ne hi]
    rw [e]; exact h.nd
/-! ### d.setdefault(name, ..) -/
def setdD (kks : List (Key × D)) (s : Str) (d : D) : List (Key × D) := if (getD' kks (.inr s)).isSome then kks else kks ++ [(.inr s, d)]
theorem x_setd (a : At B ρ μ τ σ H) (hs : ρ[j]? = some (some (.raw (.ref p)))) (hm : μ[k]? = some (p, .dk kks)) (hy : Ed B ty ρ μ (.str s)) (hx : Ed B tx ρ μ d) (hl : kks.length < 1000000) (q : ∀ H', At B ρ (μ.set k (p, .dk (setdD kks s d))) τ σ H' → D0.nx σ H') :
    tDrop (tDSetd (tVar j) ty tx) D0 σ H := by
  obtain ⟨v0, h1, h2⟩ := a.var hs
  obtain ⟨G, g, hv⟩ := h2.top
  have hv' : v0 = V.ref p := hv
  subst hv'
  obtain ⟨kvs, e1, _⟩ := (g.cells _ (List.mem_of_getElem? hm)).2.2.2
  refine ⟨_, h1, p, rfl, .inl ⟨kvs, .inl e1⟩, hy.go a fun u H1 d1 hd1 a1 => hx.go a1 fun z H2 d2 hd2 a2 => ?_⟩
  subst hd1; subst hd2
  obtain ⟨G2, g2⟩ := id a2
  obtain ⟨kv2, e2, k2'⟩ := (g2.cells _ (List.mem_of_getElem? hm)).2.2.2
  have hu : u = V.str s := g2.temps (u, .str s) (List.mem_cons_of_mem _ (List.mem_cons_self ..))
  refine ⟨kv2, .inr s, e2, hu, by rw [k2'.len]; exact Nat.lt_trans hl (by decide), fun v hv => ?_, fun hn => ?_⟩
  · rcases k2'.get (k := .inr s) with ⟨h3, h4⟩ | ⟨dd, vv, h3, h4, _⟩
    · rw [hv] at h4; cases h4
    · refine q H2 ?_
      have : setdD kks s d2 = kks := by unfold setdD; rw [h3]; rfl
      rw [this]
      have es : μ.set k (p, .dk kks) = μ := by
        refine List.ext_getElem? fun n => ?_
        by_cases hn : k = n
        · subst hn; rw [List.getElem?_set_self (List.getElem?_eq_some_iff.mp hm).1, hm]
        · rw [List.getElem?_set_ne hn]
      rw [es]; exact a2.pop.pop
  · refine q _ ?_
    rcases k2'.get (k := .inr s) with ⟨h3, h4⟩ | ⟨dd, vv, h3, h4, _⟩
    · have : setdD kks s d2 = kks ++ [(.inr s, d2)] := by unfold setdD; rw [h3]; rfl
      rw [this]
      refine At.pop (At.pop (At.write (c' := .dk (kks ++ [(.inr s, d2)])) a2 hm fun G' kt hc => ?_))
      obtain ⟨kv3, e3, k3'⟩ := hc
      rw [e2] at e3
      cases e3
      refine ⟨kv2 ++ [(.inr s, z)], ?_, DtK.app (show DtK B.K G' [(.inr s, d2)] [(.inr s, z)] from ⟨z, [], rfl, kt (z, d2) (List.mem_cons_self ..), rfl⟩) k3'⟩
      rw [upd_same]
      unfold putK
      rw [if_neg (by rw [any_none hn]; exact Bool.false_ne_true)]
    · rw [hn] at h4; cases h4
/-- len(d), a cell -/
theorem ed_lenDC (hs : ρ[j]? = some (some (.raw (.ref p)))) (hm : μ[k]? = some (p, .dk kks)) : Ed B (tCB (fun xs H Q => ∃ a kvs, xs = [V.ref a] ∧ H a = some (.dK kvs) ∧ Q (.int kvs.length) H) (tCons (tVar j) tNil)) ρ μ (.int kks.length) := Ev.mk fun τ σ H a Q q => by
  obtain ⟨v0, h1, h2⟩ := a.var hs
  obtain ⟨G, g, hv⟩ := h2.top
  have hv' : v0 = V.ref p := hv
  subst hv'
  obtain ⟨kvs, e1, k1⟩ := (g.cells _ (List.mem_of_getElem? hm)).2.2.2
  refine ⟨_, h1, ⟨p, kvs, rfl, e1, ?_⟩⟩
  rw [k1.len]
  exact q _ H _ rfl (At.flat a fun _ => rfl)
/-- d[name] -/
theorem ed_dgetS (hs : Ed B ta ρ μ (.dk kks)) (hy : Ed B ty ρ μ (.str s)) (hz : getD' kks (.inr s) = some d) : Ed B (tDGet ta ty) ρ μ d := Ev.mk fun τ σ H a Q q => hs.go a fun w H1 d1 hd a1 => hy.go a1 fun u H2 d2 hd2 a2 => by
  subst hd; subst hd2
  obtain ⟨G, g, hu⟩ := id a2.top
  obtain ⟨pa, ws, e0, e3, k3⟩ := g.temps _ (List.mem_cons_self ..)
  have hu' : u = V.str s := hu
  subst hu'
  rcases k3.get (k := .inr s) with ⟨h3, h4⟩ | ⟨dd, vv, h3, h4, h5⟩
  · rw [hz] at h3; cases h3
  · rw [hz] at h3
    cases h3
    refine ⟨pa, vv, e0, ?_, q vv H2 _ rfl ⟨G, AtG.push { g with temps := fun t ht => g.temps t (List.mem_cons_of_mem _ ht) } h5⟩⟩
    rw [← h4]
    exact DGet.k (k := Sum.inr s) (g.sub _ _ e3)
/-! ### 1 << n, sum, [x] * n -/
theorem rd_oneShl {n : Nat} (hn : n ≤ 134217727) : RD B (fun x y H Q => ∃ k : Nat, x = .int 1 ∧ y = .int (k : Int) ∧ k ≤ 134217727 ∧ Q (.int (2 ^ k)) H) ρ μ (.int 1) (.int (n : Int)) (fun e => e = .int (2 ^ n)) := rd_flat (fun _ => rfl) fun G H x y _ a b Q q => ⟨n, a, b, hn, q⟩
theorem rc_sum : RC B (rSum B.K) ρ μ [.lst (is.map .int)] (fun e => e = .int is.sum) := rc_flat (fun _ => rfl) fun G H xs s h Q q => by
  obtain ⟨v, rfl, p, vs, rfl, e, k⟩ := one_arg h
  exact ⟨p, is, rfl, by rw [← k.ints]; exact .inl (.inl (s _ _ e)), q⟩
theorem rd_rep {n : Nat} (hn : n ≤ 1000000) : RD B rRep ρ μ (.lst [d]) (.int (n : Int)) (fun e => e = .lst (List.replicate n d)) := fun τ σ H x y a Q q => by
  obtain ⟨G, g, ⟨p, vs, rfl, e1, k1⟩, hy⟩ := a.two
  obtain ⟨v, r, rfl, hv, hr⟩ := k1
  have hr' : r = [] := hr
  subst hr'
  refine ⟨p, n, [v], rfl, hy, g.sub _ _ e1, by omega, by omega, by
    show 1 * ((n : Int)).toNat ≤ sizeLine
    exact Nat.le_trans (by omega) (show 1000000 ≤ sizeLine by decide), fun p2 hp2 => q _ _ _ rfl (g.newLst hp2 ?_)⟩
  rw [show ((n : Int)).toNat = n by omega, flat_rep]
  exact dt_rep hv n
/-! ### in, of ints -/
theorem rd_notInI : RD B (rIn B.K true) ρ μ (.int i) (.tup (is.map .int)) (fun e => e = .bl (!decide (i ∈ is))) := fun τ σ H x y a Q q => by
  obtain ⟨G, g, hx, ⟨p, vs, rfl, e1, k1⟩⟩ := a.two
  have hx' : x = V.int i := hx
  have hv := k1.ints
  subst hx'; subst hv
  refine ⟨p, _, rfl, .inr (.inl (.inl (g.sub _ _ e1))), rfl, by rw [List.all_map]; exact List.all_eq_true.mpr fun _ _ => rfl, ?_⟩
  have e : inV (.int i) (is.map V.int) = decide (i ∈ is) := by
    unfold inV
    rw [List.any_map]
    by_cases h : i ∈ is
    · rw [decide_eq_true h]
      exact List.any_eq_true.mpr ⟨i, h, by show (i == i) = true; exact beq_self_eq_true i⟩
    · rw [decide_eq_false h]
      refine List.any_eq_false.mpr fun y hy z => h ?_
      have z' : (y == i) = true := z
      rw [← eq_of_beq z']; exact hy
  show Q (.bl (!inV (.int i) (is.map V.int))) H
  rw [e]
  exact q _ H _ rfl (At.flat ⟨G, g⟩ fun _ => rfl)
/-! ### lists that change: made by a comprehension, pop, extend, truth; while -/
theorem xl_lcT {wi : TI} {vs : List Nat} {n : Nat} {f h : Nat → D} (c : Nat → Bool) (hi : Ei B wi ρ μ n f) (hk : k ∈ vs) (hn : n ≤ 1000000) (ht : ∀ i, i < n → ∀ cl, Eb B tt ((wipeR ρ vs).set k (some (f i))) (cl :: μ) (c i)) (he : ∀ i, i < n → c i = true → ∀ cl, Ed B te ((wipeR ρ vs).set k (some (f i))) (cl :: μ) (h i)) :
    Xl B (tLc wi (gName k) tt te vs) ρ μ (((List.range n).filter c).map h) := fun τ σ H a Q q => hi (sv ρ σ ++ τ) σ H a.save _ fun J H1 τ1 hsub a1 hJ Dl hD => by
  have hf := a.fits
  refine ⟨fun i m H => m = n - i ∧ i ≤ n ∧ At B ρ ((Dl, .lst (((List.range i).filter c).map h)) :: μ) τ1 σ H, ⟨n, by omega, Nat.zero_le _, (At.newCell (c := .lst []) (o := .lst []) a1 hD fun G _ => ⟨[], upd_same, rfl⟩).1⟩, fun i m H2 hW => ?_⟩
  obtain ⟨rfl, hin, a2⟩ := hW
  obtain ⟨s1, s2⟩ := hJ i ρ _ τ1 σ H2 (fun _ z => z) a2
  by_cases hlt : i < n
  · obtain ⟨s3, s4⟩ := s2 hlt
    refine .inr ⟨s3, fun H => At B ρ ((Dl, .lst (((List.range (i + 1)).filter c).map h)) :: μ) τ1 σ H, fun H' h2 => ⟨n - (i + 1), by omega, rfl, hlt, h2⟩, fun x H3 hy => ?_⟩
    refine gd_name k τ1 (wipe σ vs) H3 x (At.wiped (s4 x H3 hy) vs) _ fun σ' a3 hl3 hk3 => ⟨wipe_ext (js := [k]) (fun z hz => by rw [List.mem_singleton.mp hz]; exact hk) hl3 hk3, ?_⟩
    refine ht i hlt _ τ1 σ' H3 a3 _ fun b H4 hb a4 => ?_
    subst hb
    cases hc : c i with
    | true =>
      refine (he i hlt hc _).go a4 fun y H5 dy hdy a5 => ?_
      subst hdy
      obtain ⟨G, g5, vs5, e5, k5⟩ := a5.cell (j := 0) rfl
      have lc : (((List.range i).filter c).map h).length ≤ i := by
        rw [List.length_map]
        have := List.length_filter_le c (List.range i)
        rwa [List.length_range] at this
      refine ⟨vs5, e5, ?_, ?_⟩
      · rw [k5.length]
        exact Nat.lt_of_le_of_lt lc (Nat.lt_of_lt_of_le hlt (Nat.le_trans hn (by decide)))
      · have e6 : (((List.range (i + 1)).filter c).map h) = ((List.range i).filter c).map h ++ [h i] := by
          rw [List.range_succ, List.filter_append, List.map_append, List.filter_cons, if_pos hc]; rfl
        rw [e6]
        have a6 : At B ((wipeR ρ vs).set k (some (f i))) ((Dl, .lst (((List.range i).filter c).map h ++ [h i])) :: μ) ((y, h i) :: τ1) σ' (upd H5 Dl (.lst (vs5 ++ [y]))) := At.write (j := 0) (c' := .lst (((List.range i).filter c).map h ++ [h i])) a5 rfl fun G k1 ⟨vs6, e6, k6⟩ => by
          rw [e5] at e6
          cases e6
          exact ⟨_, upd_same, k6.append ⟨y, [], rfl, k1 _ (List.mem_cons_self ..), rfl⟩⟩
        exact At.restore hf a6.pop fun q hq => hsub q (List.mem_append_left _ hq)
    | false =>
      have e6 : (((List.range (i + 1)).filter c).map h) = ((List.range i).filter c).map h := by
        rw [List.range_succ, List.filter_append, List.filter_cons, if_neg (by rw [hc]; exact Bool.false_ne_true)]
        show (((List.range i).filter c) ++ []).map h = _
        rw [List.append_nil]
      show At B ρ ((Dl, .lst (((List.range (i + 1)).filter c).map h)) :: μ) τ1 σ H4
      rw [e6]
      exact At.restore hf a4 fun q hq => hsub q (List.mem_append_left _ hq)
  · have e : i = n := by omega
    subst e
    exact .inl ⟨s1 (Nat.le_refl _), q _ H2 _ _ ⟨Dl, rfl, rfl⟩ (At.flat (a2.sub fun z hz => hsub z (List.mem_append_right _ hz)) fun _ => rfl)⟩
/-- truth of a list that changes -/
theorem eb_truC (hs : ρ[j]? = some (some (.raw (.ref p)))) (hm : μ[k]? = some (p, .lst ds)) : Eb B (tTru B.K (tVar j)) ρ μ (!ds.isEmpty) := fun τ σ H a Q q => by
  obtain ⟨v0, h1, h2⟩ := a.var hs
  obtain ⟨G, g, hv⟩ := h2.top
  have hv' : v0 = V.ref p := hv
  subst hv'
  obtain ⟨vs, e1, k1⟩ := (g.cells _ (List.mem_of_getElem? hm)).2.2.2
  refine ⟨_, h1, !vs.isEmpty, .inl ⟨vs, .inl (.inl e1), rfl⟩, q _ H ?_ a⟩
  have := k1.length
  cases vs <;> cases ds <;> simp_all
/-- l != [], a list that changes -/
theorem eb_neNilC (hs : ρ[j]? = some (some (.raw (.ref p)))) (hm : μ[k]? = some (p, .lst ds)) : Eb B (tTest (tOp (rNeE B.K) (tVar j) (tLst tNil))) ρ μ (!ds.isEmpty) := fun τ σ H a Q q => by
  obtain ⟨v0, h1, h2⟩ := a.var hs
  obtain ⟨G, g, hv⟩ := h2.top
  have hv' : v0 = V.ref p := hv
  subst hv'
  refine ⟨_, h1, ?_⟩
  refine (ed_lst (ds := []) ea_nil (Nat.zero_le _)).go a fun u H1 d1 hd a1 => ?_
  subst hd
  obtain ⟨G1, g1, b, us, e0, eb, ku⟩ := a1.top
  have ku' : us = [] := ku
  subst ku'
  obtain ⟨vs, e1, k1⟩ := (g1.cells _ (List.mem_of_getElem? hm)).2.2.2
  refine ⟨p, b, vs, rfl, e0, .inl (.inl e1), .inl (.inl (g1.sub _ _ eb)), !vs.isEmpty, rfl, q _ H1 ?_ ⟨G1, g1⟩⟩
  have := k1.length
  cases vs <;> cases ds <;> simp_all
/-- way = l.pop() -/
theorem xv_pop (hs : ρ[j]? = some (some (.raw (.ref p)))) (hm : μ[k]? = some (p, .lst (ds ++ [d]))) : Xv B (tBM0 B.K "list" rPop (tVar j)) ρ μ (fun e μ' => e = d ∧ μ' = μ.set k (p, .lst ds)) := fun τ σ H a Q q => by
  obtain ⟨v0, h1, h2⟩ := a.var hs
  obtain ⟨G, g, hv⟩ := h2.top
  have hv' : v0 = V.ref p := hv
  subst hv'
  obtain ⟨vs, e1, k1⟩ := (g.cells _ (List.mem_of_getElem? hm)).2.2.2
  have hl := k1.length
  rw [List.length_append, List.length_singleton] at hl
  obtain ⟨y, hy, dy⟩ := k1.get (i := ds.length) (d := d) (by simp)
  refine ⟨_, h1, .inl ⟨rfl, _, .inl (.inl e1)⟩, p, vs, y, rfl, rfl, e1, by rw [show vs.length - 1 = ds.length by omega]; exact hy, q y _ d _ ⟨rfl, rfl⟩ ?_⟩
  refine At.write (c' := .lst ds) (⟨G, g.push dy⟩ : At B ρ μ ((y, d) :: τ) σ H) hm fun G' kt hc => ?_
  obtain ⟨us, e3, k3⟩ := hc
  rw [e1] at e3
  cases e3
  have k4 := k3.dropLast
  rw [List.dropLast_concat] at k4
  exact ⟨_, upd_same, k4⟩
/-- l.extend(items) -/
theorem x_extend (a : At B ρ μ τ σ H) (hs : ρ[j]? = some (some (.raw (.ref p)))) (hm : μ[k]? = some (p, .lst ds)) (he : Ed B te ρ μ (.lst es)) (hz : ds.length + es.length ≤ sizeLine) (q : ∀ H', At B ρ (μ.set k (p, .lst (ds ++ es))) τ σ H' → D0.nx σ H') :
    tDrop (tBM B.K "list" rExtend (tVar j) (tCons te tNil)) D0 σ H := by
  obtain ⟨v0, h1, h2⟩ := a.var hs
  obtain ⟨G, g, hv⟩ := h2.top
  have hv' : v0 = V.ref p := hv
  subst hv'
  obtain ⟨vs, e1, k1⟩ := (g.cells _ (List.mem_of_getElem? hm)).2.2.2
  refine ⟨_, h1, .inl ⟨rfl, _, .inl (.inl e1)⟩, he.go a fun u H1 d1 hd a1 => ?_⟩
  subst hd
  obtain ⟨G1, g1, b, us, rfl, eb, ku⟩ := id a1.top
  obtain ⟨vs1, e2, k2⟩ := (g1.cells _ (List.mem_of_getElem? hm)).2.2.2
  refine ⟨p, b, vs1, us, rfl, rfl, e2, g1.sub _ _ eb, by rw [k2.length, ku.length]; exact hz, q _ ⟨G1, AtG.write (c' := .lst (ds ++ es)) g1 hm ⟨_, upd_same, k2.append ku⟩⟩⟩
end
end Cal


namespace Cal
open PySem PySem.Spec PyProof.Rows L2
/-! ### order and membership of data -/
def rLtD (K : PySem.W.Frag) : R2 := fun x y H Q => ∃ d e, Dp K H x d ∧ Dp K H y e ∧ SeqAt.shaped d = true ∧ SeqAt.shaped e = true ∧ PySem.W.alike d e = true ∧ d ≠ .none ∧ Q (.bl (PySem.W.dataLt d e)) H
def rGeD (K : PySem.W.Frag) : R2 := fun x y H Q => ∃ d e, Dp K H x d ∧ Dp K H y e ∧ SeqAt.shaped d = true ∧ SeqAt.shaped e = true ∧ PySem.W.alike d e = true ∧ d ≠ .none ∧ Q (.bl (!PySem.W.dataLt d e)) H
def rInT (K : PySem.W.Frag) (neg : Bool) : R2 := fun x y H Q => ∃ d ds, Dp K H x d ∧ Dp K H y (.tuple ds) ∧ SeqAt.shaped d = true ∧ SeqAt.shaped (.tuple ds) = true ∧ Q (.bl (neg ^^ ds.any fun z => PyData.eqv z d)) H
theorem depth_of_shaped {d : PyData} (h : SeqAt.shaped d = true) : d.depth ≤ 64 := by
  unfold SeqAt.shaped at h
  rw [Bool.and_eq_true] at h
  exact of_decide_eq_true h.2
section
variable {X : Cx}
theorem op_ltD (hu : X.A.units + 64 < cLine) : OpR X (compareOp .Lt) (rLtD X.K) := by
  intro pins s σ H x y v u Q I rx ry h
  obtain ⟨d, e, hd, he, sd, se, ha, hn, q⟩ := h
  obtain ⟨as, r1⟩ := Dp.reads I d x v hd rx
  obtain ⟨bs, r2⟩ := Dp.reads I e y u he ry
  have := depth_of_shaped sd
  exact PySem.W.lt_data r1 r2 ha hn (by have := Nat.min_le_left d.depth e.depth; omega) ⟨.bl _, H, I, rfl, q⟩
theorem op_geD (hu : X.A.units + 64 < cLine) : OpR X (compareOp .GtE) (rGeD X.K) := by
  intro pins s σ H x y v u Q I rx ry h
  obtain ⟨d, e, hd, he, sd, se, ha, hn, q⟩ := h
  obtain ⟨as, r1⟩ := Dp.reads I d x v hd rx
  obtain ⟨bs, r2⟩ := Dp.reads I e y u he ry
  have := depth_of_shaped sd
  exact PySem.W.ge_data r1 r2 ha hn (by have := Nat.min_le_left d.depth e.depth; omega) ⟨.bl _, H, I, rfl, q⟩
theorem op_inT (hu : X.A.units + 64 < cLine) : OpR X (compareOp .In) (rInT X.K false) := by
  intro pins s σ H x y v u Q I rx ry h
  obtain ⟨d, ds, hd, he, sd, se, q⟩ := h
  obtain ⟨as, r1⟩ := Dp.reads I d x v hd rx
  obtain ⟨bs, r2⟩ := Dp.reads I (.tuple ds) y u he ry
  have h1 := depth_of_shaped se
  have e1 : (PyData.tuple ds).depth = PyData.depthAll ds + 1 := rfl
  refine SeqAt.in_tuple_reads r2 r1 (SeqAt.canLay_of_shaped se) (SeqAt.canLay_of_shaped sd) (by have := Nat.min_le_left (PyData.depthAll ds) d.depth; omega) ⟨.bl _, H, I, rfl, ?_⟩
  rw [Bool.false_xor] at q; exact q
theorem op_notInT (hu : X.A.units + 64 < cLine) : OpR X (compareOp .NotIn) (rInT X.K true) := by
  intro pins s σ H x y v u Q I rx ry h
  obtain ⟨d, ds, hd, he, sd, se, q⟩ := h
  obtain ⟨as, r1⟩ := Dp.reads I d x v hd rx
  obtain ⟨bs, r2⟩ := Dp.reads I (.tuple ds) y u he ry
  have h1 := depth_of_shaped se
  have e1 : (PyData.tuple ds).depth = PyData.depthAll ds + 1 := rfl
  refine SeqAt.notIn_tuple_reads r2 r1 (SeqAt.canLay_of_shaped se) (SeqAt.canLay_of_shaped sd) (by have := Nat.min_le_left (PyData.depthAll ds) d.depth; omega) ⟨.bl _, H, I, rfl, ?_⟩
  rw [Bool.true_xor] at q; exact q
def rLtV (K : PySem.W.Frag) : R2 := fun x y H Q => rLtU x y H Q ∨ rLtD K x y H Q
theorem u_ltV (hu : X.A.units + 64 < cLine) : OpR X (compareOp .Lt) (rLtV X.K) := OpR.or u_lt (op_ltD hu)
def rGeV (K : PySem.W.Frag) : R2 := fun x y H Q => rGeU x y H Q ∨ rGeD K x y H Q
theorem u_geV (hu : X.A.units + 64 < cLine) : OpR X (compareOp .GtE) (rGeV X.K) := OpR.or u_ge (op_geD hu)
end
def dLt (d e : D) : Bool := PySem.W.dataLt (py d) (py e)
def pairD (p : Int × Int) : D := .tup [.int p.1, .int p.2]
theorem pairD_inj {p q : Int × Int} (h : pairD p = pairD q) : p = q := by
  injection h with h
  injection h with h1 h2
  injection h2 with h2 _
  exact Prod.ext (D.int.inj h1) (D.int.inj h2)
theorem pair_plain (p : Int × Int) : plain (pairD p) = true ∧ dep (pairD p) ≤ 1 := ⟨rfl, Nat.le_refl _⟩
theorem pairs_plain (qs : List (Int × Int)) : plain (.tup (qs.map pairD)) = true ∧ dep (.tup (qs.map pairD)) ≤ 2 := by
  refine ⟨?_, ?_⟩
  · show plainA (qs.map pairD) = true
    induction qs with
    | nil => rfl
    | cons x r ih => show (plain (pairD x) && plainA (r.map pairD)) = true; rw [ih]; rfl
  · show depA (qs.map pairD) + 1 ≤ 2
    have : depA (qs.map pairD) ≤ 1 := by
      induction qs with
      | nil => exact Nat.zero_le _
      | cons x r ih => show max 1 (depA (r.map pairD)) ≤ 1; omega
    omega
theorem pair_eqv (p q : Int × Int) : PyData.eqv (py (pairD p)) (py (pairD q)) = decide (p = q) := by
  show PyData.eqv (.tuple [.int p.1, .int p.2]) (.tuple [.int q.1, .int q.2]) = _
  by_cases h : p = q
  · subst h; simp [PyData.eqv, PyData.eqvAll]
  · rw [decide_eq_false h]
    have : ¬ (p.1 = q.1 ∧ p.2 = q.2) := fun z => h (Prod.ext z.1 z.2)
    simp [PyData.eqv, PyData.eqvAll]
    intro e1 e2
    exact this ⟨e1, e2⟩
theorem pair_alike (p q : Int × Int) : PySem.W.alike (py (pairD p)) (py (pairD q)) = true := by
  show PySem.W.alike (.tuple [.int p.1, .int p.2]) (.tuple [.int q.1, .int q.2]) = true
  simp [PySem.W.alike, PySem.W.alikeAll]
theorem pair_any (p : Int × Int) (qs : List (Int × Int)) : (pyA (qs.map pairD)).any (fun z => PyData.eqv z (py (pairD p))) = decide (p ∈ qs) := by
  induction qs with
  | nil => rfl
  | cons x r ih =>
    show (PyData.eqv (py (pairD x)) (py (pairD p)) || (pyA (r.map pairD)).any _) = _
    rw [ih, pair_eqv]
    by_cases h1 : x = p <;> by_cases h2 : p ∈ r <;> simp [h1, h2, eq_comm]
    intro z; exact h1 z.symm
section
variable {B : Bs} {ρ : Ro} {μ : Mu} {te ta : TE} {ds : List D} {d : D} {p : Int × Int} {q : Int × Int} {qs : List (Int × Int)} {P : D → Prop} {d1 d2 : D} {P' : D → Prop}
theorem rd_ltVU (h : RD B rLtU ρ μ d1 d2 P') : RD B (rLtV B.K) ρ μ d1 d2 P' := RD.inl h
theorem rd_geVU (h : RD B rGeU ρ μ d1 d2 P') : RD B (rGeV B.K) ρ μ d1 d2 P' := RD.inl h
theorem rd_ltP : RD B (rLtV B.K) ρ μ (pairD p) (pairD q) (fun e => e = .bl (dLt (pairD p) (pairD q))) := RD.inr (rd_flat (fun _ => rfl) fun G H x y s a b Q z =>
  ⟨py (pairD p), py (pairD q), a.dp s _ rfl, b.dp s _ rfl, shaped_py rfl (Nat.le_trans (pair_plain p).2 (by decide)), shaped_py rfl (Nat.le_trans (pair_plain q).2 (by decide)), pair_alike p q, (fun e => by cases e), z⟩)
theorem rd_geP : RD B (rGeV B.K) ρ μ (pairD p) (pairD q) (fun e => e = .bl (!dLt (pairD p) (pairD q))) := RD.inr (rd_flat (fun _ => rfl) fun G H x y s a b Q z =>
  ⟨py (pairD p), py (pairD q), a.dp s _ rfl, b.dp s _ rfl, shaped_py rfl (Nat.le_trans (pair_plain p).2 (by decide)), shaped_py rfl (Nat.le_trans (pair_plain q).2 (by decide)), pair_alike p q, (fun e => by cases e), z⟩)
theorem rd_inP : RD B (rInT B.K false) ρ μ (pairD p) (.tup (qs.map pairD)) (fun e => e = .bl (decide (p ∈ qs))) := rd_flat (fun _ => rfl) fun G H x y s a b Q z =>
  ⟨py (pairD p), pyA (qs.map pairD), a.dp s _ rfl, b.dp s _ (pairs_plain qs).1, shaped_py rfl (Nat.le_trans (pair_plain p).2 (by decide)), shaped_py (pairs_plain qs).1 (Nat.le_trans (pairs_plain qs).2 (by decide)), by rw [pair_any, Bool.false_xor]; exact z⟩
theorem rd_notInP : RD B (rInT B.K true) ρ μ (pairD p) (.tup (qs.map pairD)) (fun e => e = .bl (!decide (p ∈ qs))) := rd_flat (fun _ => rfl) fun G H x y s a b Q z =>
  ⟨py (pairD p), pyA (qs.map pairD), a.dp s _ rfl, b.dp s _ (pairs_plain qs).1, shaped_py rfl (Nat.le_trans (pair_plain p).2 (by decide)), shaped_py (pairs_plain qs).1 (Nat.le_trans (pairs_plain qs).2 (by decide)), by rw [pair_any, Bool.true_xor]; exact z⟩
end
end Cal


namespace Cal
open PySem PySem.Spec PyProof.Rows L2
section
variable {B : Bs} {ρ : Ro} {μ : Mu} {te ta : TE} {ds : List D} {d : D} {k : Nat} {tt : TT} {P : D → Prop}
theorem DtA.rep {K : PySem.W.Frag} {G : Hp} {vs : List V} (h : DtA K G ds vs) : ∀ n : Nat, DtA K G (List.replicate n ds).flatten (List.replicate n vs).flatten
  | 0 => rfl
  | n + 1 => by
    rw [List.replicate_succ, List.replicate_succ, List.flatten_cons, List.flatten_cons]
    exact h.append (DtA.rep h n)
/-- t * n -/
theorem rd_repT {n : Int} (h1 : ds ≠ []) (h2 : 2 ≤ n ∧ n ≤ 1000) (h3 : ds.length ≤ 1000) : RD B (rRepT B.K) ρ μ (.tup ds) (.int n) (fun e => e = .tup (List.replicate n.toNat ds).flatten) := fun τ σ H x y a Q q => by
  obtain ⟨G, g, ⟨p, vs, rfl, e1, k1⟩, hy⟩ := a.two
  have hy' : y = V.int n := hy
  subst hy'
  exact ⟨p, n, vs, rfl, rfl, .inl (.inl (g.sub _ _ e1)), fun z => h1 (List.eq_nil_of_length_eq_zero (by rw [← k1.length, z]; rfl)), h2.1, h2.2, by rw [k1.length]; exact h3, fun p' hp' => q _ _ _ rfl (g.newTup hp' (k1.rep _))⟩
/-- a comprehension whose test isn't told by what stands there -/
theorem ev_lcN {wi : TI} {vs : List Nat} {n : Nat} {f h : Nat → D} (Pc : Nat → Bool → Prop) (hi : Ei B wi ρ μ n f) (hk : k ∈ vs) (hn : n ≤ 1000000) (ht : ∀ i, i < n → ∀ cl, Et B tt ((wipeR ρ vs).set k (some (f i))) (cl :: μ) (Pc i)) (he : ∀ i, i < n → ∀ cl, Ed B te ((wipeR ρ vs).set k (some (f i))) (cl :: μ) (h i))
    (hP : ∀ c : Nat → Bool, (∀ i, i < n → Pc i (c i)) → P (.lst (((List.range n).filter c).map h))) : Ev B (tLc wi (gName k) tt te vs) ρ μ P := Ev.mk fun τ σ H a Q q => hi (sv ρ σ ++ τ) σ H a.save _ fun J H1 τ1 hsub a1 hJ Dl hD => by
  have hf := a.fits
  refine ⟨fun i m H => m = n - i ∧ i ≤ n ∧ ∃ c : Nat → Bool, (∀ j, j < i → Pc j (c j)) ∧ At B ρ ((Dl, .lst (((List.range i).filter c).map h)) :: μ) τ1 σ H, ⟨n, by omega, Nat.zero_le _, fun _ => true, fun j hj => absurd hj (Nat.not_lt_zero _), (At.newCell (c := .lst []) (o := .lst []) a1 hD fun G _ => ⟨[], upd_same, rfl⟩).1⟩, fun i m H2 hW => ?_⟩
  obtain ⟨rfl, hin, c, hc0, a2⟩ := hW
  obtain ⟨s1, s2⟩ := hJ i ρ _ τ1 σ H2 (fun _ z => z) a2
  by_cases hlt : i < n
  · obtain ⟨s3, s4⟩ := s2 hlt
    have keep : ∀ b : Bool, ((List.range i).filter fun j => if j = i then b else c j) = (List.range i).filter c := fun b => List.filter_congr fun j hj => by
      have := List.mem_range.mp hj
      rw [if_neg (by omega)]
    have good : ∀ b : Bool, Pc i b → ∀ j, j < i + 1 → Pc j (if j = i then b else c j) := fun b hb j hj => by
      by_cases e : j = i
      · rw [if_pos e, e]; exact hb
      · rw [if_neg e]; exact hc0 j (by omega)
    refine .inr ⟨s3, fun H => ∃ c : Nat → Bool, (∀ j, j < i + 1 → Pc j (c j)) ∧ At B ρ ((Dl, .lst (((List.range (i + 1)).filter c).map h)) :: μ) τ1 σ H, fun H' ⟨c', h1, h2⟩ => ⟨n - (i + 1), by omega, rfl, hlt, c', h1, h2⟩, fun x H3 hy => ?_⟩
    refine gd_name k τ1 (wipe σ vs) H3 x (At.wiped (s4 x H3 hy) vs) _ fun σ' a3 hl3 hk3 => ⟨wipe_ext (js := [k]) (fun z hz => by rw [List.mem_singleton.mp hz]; exact hk) hl3 hk3, ?_⟩
    refine ht i hlt _ τ1 σ' H3 a3 _ fun b H4 hb a4 => ?_
    cases b with
    | true =>
      refine (he i hlt _).go a4 fun y H5 dy hdy a5 => ?_
      subst hdy
      obtain ⟨G, g5, vs5, e5, k5⟩ := a5.cell (j := 0) rfl
      have lc : (((List.range i).filter c).map h).length ≤ i := by
        rw [List.length_map]
        have := List.length_filter_le c (List.range i)
        rwa [List.length_range] at this
      refine ⟨vs5, e5, ?_, ?_⟩
      · rw [k5.length]
        exact Nat.lt_of_le_of_lt lc (Nat.lt_of_lt_of_le hlt (Nat.le_trans hn (by decide)))
      · refine ⟨fun j => if j = i then true else c j, good true hb, ?_⟩
        have e6 : (((List.range (i + 1)).filter fun j => if j = i then true else c j).map h) = ((List.range i).filter c).map h ++ [h i] := by
          rw [List.range_succ, List.filter_append, List.map_append, keep true, List.filter_cons, if_pos (if_pos rfl)]; rfl
        rw [e6]
        have a6 : At B ((wipeR ρ vs).set k (some (f i))) ((Dl, .lst (((List.range i).filter c).map h ++ [h i])) :: μ) ((y, h i) :: τ1) σ' (upd H5 Dl (.lst (vs5 ++ [y]))) := At.write (j := 0) (c' := .lst (((List.range i).filter c).map h ++ [h i])) a5 rfl fun G k1 ⟨vs6, e6, k6⟩ => by
          rw [e5] at e6
          cases e6
          exact ⟨_, upd_same, k6.append ⟨y, [], rfl, k1 _ (List.mem_cons_self ..), rfl⟩⟩
        exact At.restore hf a6.pop fun q hq => hsub q (List.mem_append_left _ hq)
    | false =>
      refine ⟨fun j => if j = i then false else c j, good false hb, ?_⟩
      have e6 : (((List.range (i + 1)).filter fun j => if j = i then false else c j).map h) = ((List.range i).filter c).map h := by
        rw [List.range_succ, List.filter_append, keep false, List.filter_cons, if_neg (by rw [if_pos rfl]; exact Bool.false_ne_true)]
        show (((List.range i).filter c) ++ []).map h = _
        rw [List.append_nil]
      rw [e6]
      exact At.restore hf a4 fun q hq => hsub q (List.mem_append_left _ hq)
  · have e : i = n := by omega
    subst e
    refine .inl ⟨s1 (Nat.le_refl _), ?_⟩
    exact q _ H2 _ (hP c hc0) (a2.freeze.sub fun z hz => by
      rcases List.mem_cons.mp hz with e | e
      · rw [e]; exact List.mem_cons_self ..
      · exact List.mem_cons_of_mem _ (hsub z (List.mem_append_right _ e)))
end
end Cal


namespace Cal
open PySem PySem.Spec PyProof.Rows L2
/-! ### a set made of a list of unlike texts, and its members sorted -/
/-- the set at a holds just the texts of l -/
structure Txs (P : Program) (w : World) (h : Heap) (a : Addr) (l : List Str) : Prop where
  ex : ∃ D : Froz.SD, h.get? a = some (Froz.sObj "set" D) ∧ Froz.TxOk P w D l ∧ Ris D.2.2.place.toList ∧ (w.params.followText "set-order" = true ∨ D.2.2.led = true)
theorem txs_at {P : Program} {w : World} {h h' : Heap} {a : Addr} {l : List Str} (R : Txs P w h a l) (k : ∀ o, h.get? a = some o → h'.get? a = some o) : Txs P w h' a l :=
  let ⟨D, h1, h2⟩ := R.ex
  ⟨D, k _ h1, h2⟩
theorem tail_ris {ep : Nat} {es : Array (Int × Value)} {t : SetTable} {wd : Bool} (r : Ris t.place.toList) : Ris (Froz.tailTx ep es t wd).2.2.place.toList ∧ (Froz.tailTx ep es t wd).2.2.led = t.led := by
  unfold Froz.tailTx
  split
  · exact ⟨relayAll_ris _ _ _, relayAll_led _ _ _⟩
  · exact ⟨r, rfl⟩
theorem add_ris {h : Int} {v : Value} {D : Froz.SD} (r : Ris D.2.2.place.toList) : Ris (Froz.addTx h v D).2.2.place.toList ∧ (Froz.addTx h v D).2.2.led = D.2.2.led := by
  have q1 := layNew_ris D.2.2 D.1 h v r
  have q2 := layNew_led D.2.2 D.1 h v
  unfold Froz.addTx
  split
  · obtain ⟨a, b⟩ := tail_ris (ep := D.2.1) (es := (layNew D.2.2 D.1 h v).1) (t := { (layNew D.2.2 D.1 h v).2.1 with plain := false }) (wd := (layNew D.2.2 D.1 h v).2.2.1) q1
    exact ⟨a, b.trans q2⟩
  · obtain ⟨a, b⟩ := tail_ris (ep := D.2.1) (es := (layNew D.2.2 D.1 h v).1) (t := (layNew D.2.2 D.1 h v).2.1) (wd := (layNew D.2.2 D.1 h v).2.2.1) q1
    exact ⟨a, b.trans q2⟩
section
variable {P : Program} {w : World} {A : Around} {E : Value → Shared → Prop} {s : Shared}
theorem txs_new {h : Heap} {a : Addr} (ho : h.get? a = some { cls := .type "set", dict := none, data := .set #[] 0 (.fresh 0 0 (!w.params.followText "set-order")) }) : Txs P w h a [] :=
  ⟨(#[], 0, .fresh 0 0 (!w.params.followText "set-order")), ho, Froz.TxOk.nil rfl, List.Pairwise.nil, by
    show _ ∨ (!w.params.followText "set-order") = true
    cases w.params.followText "set-order" <;> simp⟩
/-- the loop by which a list's items get into the set -/
theorem txs_loop {I : Addr} {fp wr : List Addr} {G : Array GenState → Array GenState → Prop} {n : Nat} {Pv : Nat → Value → Prop} {St : Nat → Shared → Prop} {R : Result → Shared → Prop}
    (W : WalksS P w A.in1 I fp wr G n Pv St) (S : Addr) (nS : S ∉ fp) (ks : List Str) (en : n = ks.length) (nd : ks.Nodup) (few : ks.length < 64)
    (item : ∀ i v, Pv i v → ∃ k u, ks[i]? = some k ∧ v = .str k u) : ∀ (m i : Nat) (s : Shared), n - i = m → i ≤ n → St i s → Txs P w s.heap S (ks.take i).reverse →
      (∀ s', Moved (S :: wr) G s s' → Txs P w s'.heap S ks.reverse → R (.ok (.ret .none)) s') → codeAny (model P w) A (.builtin "set.update.loop" ⟨[.ref S, .ref I], []⟩) R s
  | 0, i, s, hm, hi, st, hS, k => by
    have ei : i = n := by omega
    subst ei
    refine codeAny_builtin F.entry_set_update_loop ?_
    rw [Around.under_plainId F.plain_set_update_loop _]
    show wpAny _ A.in1 (pyNext (.ref I) >>= _) _ _ s
    refine wpAny_bind (W.done s _ _ st fun s' mv => ?_)
    show wpAny _ A.in1 (ret Value.none) _ _ s'
    rw [en, List.take_length] at hS
    exact wpAny_pure (k s' (mv.mono fun b hb => List.mem_cons_of_mem _ hb) (txs_at hS fun o e => mv.heap S o (fun z => nS (W.sub _ z)) e))
  | m + 1, i, s, hm, hi, st, hS, k => by
    have lt : i < n := by omega
    refine codeAny_builtin F.entry_set_update_loop ?_
    rw [Around.under_plainId F.plain_set_update_loop _]
    show wpAny _ A.in1 (pyNext (.ref I) >>= _) _ _ s
    refine wpAny_bind (W.item i s _ _ lt st fun v s' hP st' mv => ?_)
    obtain ⟨x, u, hx, rfl⟩ := item i v hP
    have hS' : Txs P w s'.heap S (ks.take i).reverse := txs_at hS fun o e => mv.heap S o (fun z => nS (W.sub _ z)) e
    obtain ⟨D, d1, d2, d3, d4⟩ := hS'.ex
    have lx : i < ks.length := by omega
    have new : x ∉ (ks.take i).reverse := fun z => by
      obtain ⟨j, hj, e⟩ := List.mem_take_iff_getElem.mp (List.mem_reverse.mp z)
      have e2 : ks[i] = x := (List.getElem?_eq_some_iff.mp hx).2
      have := (List.getElem_inj (h₀ := by omega) (h₁ := lx) nd).mp (e.trans e2.symm)
      omega
    show wpAny _ A.in1 (holding [Value.str x u] (setAdd S (.str x u)) >>= _) _ _ s'
    refine wpAny_bind (wpAny_holding ?_)
    unfold setAdd
    refine wpAny_holding (wpAny_bind ((PySem.strKind P w).pyHash (k := x) (Froz.is_str x u) ?_))
    refine Froz.add_x (s := { s' with toks := s'.toks + 1 }) d1 d2 new (by rw [List.length_reverse, List.length_take]; unfold scanBound; omega) ?_
    obtain ⟨r1, r2⟩ := add_ris (h := hashStr w x) (v := .str x u) d3
    have other : ∀ b, b ≠ S → ∀ o, s'.heap.get? b = some o → (s'.heap.update S fun _ => Froz.sObj "set" (Froz.addTx (hashStr w x) (.str x u) D)).get? b = some o := fun b hb o e => by
      rw [Heap.get?_update_ne _ _ _ _ hb]; exact e
    have got : Txs P w (s'.heap.update S fun _ => Froz.sObj "set" (Froz.addTx (hashStr w x) (.str x u) D)) S (ks.take (i + 1)).reverse := by
      refine ⟨_, Froz.get_upd _ d1 rfl, ?_, r1, by rw [r2]; exact d4⟩
      have e3 : (ks.take (i + 1)).reverse = x :: (ks.take i).reverse := by rw [List.take_add_one, hx, List.reverse_append]; rfl
      rw [e3]
      exact Froz.add_ok u d2
    refine wpAny_pure ⟨plainId_quiet F.plain_set_update_loop _, txs_loop W S nS ks en nd few item m (i + 1) _ (by omega) lt (W.frame _ s' _ _ st' (Nat.le_succ _) fun b hb o e => other b (fun z => nS (z ▸ hb)) o e) got fun s'' mv2 hS2 => ?_⟩
    exact k s'' (Moved.trans W.gtrans ((mv.mono fun b hb => List.mem_cons_of_mem _ hb).then_heap (Nat.le_succ _) fun b o hb e => other b (fun z => hb (by rw [z]; exact List.mem_cons_self)) o e) mv2) hS2
end
end Cal


namespace Cal
open PySem PySem.Spec PyProof.Rows L2
theorem txt_at : ∀ {us : List Value} {xs : List Str}, StrsAre us xs → ∀ {i : Nat} {v : Value}, us[i]? = some v → ∃ k u, xs[i]? = some k ∧ v = .str k u
  | _, _, .nil, i, v, h => by simp at h
  | _, _, .cons k u r, 0, v, h => by
    simp at h
    exact ⟨k, u, rfl, h.symm⟩
  | _, _, .cons k u r, i + 1, v, h => by
    obtain ⟨k', u', h1, h2⟩ := txt_at r (i := i) (by simpa using h)
    exact ⟨k', u', by simpa using h1, h2⟩
/-- a set that was just made -/
def freshSet (w : World) : Obj := { cls := .type "set", dict := none, data := .set #[] 0 (.fresh 0 0 (!w.params.followText "set-order")) }
section
variable {P : Program} {w : World} {A : Around} {E : Value → Shared → Prop} {s : Shared}
theorem txs_call {l : Addr} {its : Array Value} {ks : List Str} {Q : Value → Shared → Prop} (hh : A.handled = none) (hl : s.heap.IsList l its) (is : StrsAre its.toList ks) (nd : ks.Nodup) (few : ks.length < 64)
    (h : ∀ (h' : Heap) (tk : Nat), Txs P w h' s.heap.objs.size ks.reverse → (∀ b o, s.heap.get? b = some o → h'.get? b = some o) → Q (.ref s.heap.objs.size) { s with heap := h', toks := tk }) :
    wpAny (model P w) A (call (.type "set") [.ref l]) Q E s := by
  have en : its.size = ks.length := by
    have := is.length
    rw [Array.length_toList] at this
    exact this
  have ⟨c, tl, mro⟩ := F.called_set.mro
  have made := F.called_set.made
  have sub := F.called_set.sub
  refine wpAny_call (codeAny_of_tree ?_)
  show wpAny _ _ (callAny (.type "set") _) _ _ _
  refine wpAny_pure ⟨Code.quiet_builtin _ (by decide +kernel), codeAny_builtin F.entry_type_call ?_⟩
  rw [Around.under_plain (weight_type_call_type "set" [.ref l] []) rfl]
  have n1 := F.called_set.notType
  have n2 := F.called_set.canCreate
  have ok1 := F.typeCall_set_1 (.ref l)
  repeat (any_goals (first | assumption | wp_step))
  refine codeAny_mono (code_set_led1 (.ref l) (E := E) (Q₁ := fun o t => o = .ref s.heap.objs.size ∧ t = { s with heap := s.heap.push (freshSet w) }) ⟨rfl, rfl⟩) fun r t hr => ?_
  cases r with
  | error e => exact hr
  | ok fl => cases fl with
    | ret o =>
      obtain ⟨rfl, rfl⟩ := hr
      have gS : (s.heap.push (freshSet w)).get? s.heap.objs.size = some (freshSet w) := Heap.get?_push_size _ rfl
      have tS : Shared.TypeIs { s with heap := s.heap.push (freshSet w) } (.ref s.heap.objs.size) "set" := ⟨_, gS, rfl⟩
      have look := F.called_set.init.lookup
      have bnd := F.called_set.init.bind (.ref s.heap.objs.size)
      repeat (any_goals (first | assumption | wp_step))
      refine codeAny_mono (codeAny_call_builtin (R := wants (fun r t => r = .none ∧ ∃ h' tk, t = { s with heap := h', toks := tk } ∧ Txs P w h' s.heap.objs.size ks.reverse ∧ ∀ b o, s.heap.get? b = some o → h'.get? b = some o) E)
        F.called_set.init.plain F.entry_set_init (check_set_init_1 tS ?_)) fun r2 t2 hr2 => ?_
      · obtain ⟨⟨lc, ldi, lda, lsl⟩, gl, cl, nl, dl⟩ := hl
        simp only at cl dl
        subst cl; subst dl
        have gl' : (s.heap.push (freshSet w)).get? l = some { cls := .type "list", dict := ldi, data := .seq its nl, slots := lsl } := Heap.get?_push_of_some _ gl
        have u1 := F.sub_list_set
        have u2 := F.sub_list_frozenset
        have u3 : (Value.type "list" == Value.type "dict") = false := by decide
        have il : (s.heap.push (freshSet w)).IsList l its := ⟨_, gl', rfl, nl, rfl⟩
        unfold Builtin.«set.__init__» noKeywords Builtin.Frozenset.updateFrom
        generalize hPI : pyIter = PI
        wp_walk
        subst hPI
        refine wpAny_pyIter_list il (wpAny_bind (wpAny_runValue ?_))
        have ltl : l < s.heap.objs.size := Heap.lt_size gl
        have h3 : A.in1.in1.in1.handled = none := by simp [hh]
        have sz : (s.heap.push (freshSet w)).objs.size = s.heap.objs.size + 1 := Heap.size_push ..
        have neI : l ≠ (s.heap.push (freshSet w)).objs.size := by rw [sz]; exact Nat.ne_of_lt (Nat.lt_succ_of_lt ltl)
        have nS : s.heap.objs.size ∉ [(s.heap.push (freshSet w)).objs.size, l] := by
          rw [sz]
          intro z
          rcases List.mem_cons.mp z with z | z
          · exact Nat.ne_of_lt (Nat.lt_succ_self _) z
          · exact Nat.ne_of_gt ltl (List.mem_singleton.mp z)
        refine txs_loop ((Walks.list h3 _ l neI its).toS) s.heap.objs.size nS ks en nd few (fun i v hv => ?_) (its.size - 0) 0 _ (by omega) (Nat.zero_le _) ⟨⟨_, Heap.get?_push_size _ rfl, rfl, rfl⟩, il.push _⟩ (txs_new (Heap.get?_push_of_some _ gS)) fun t' mv hS => ?_
        · have q : its.toList[i]? = some v := by rw [Array.getElem?_toList]; exact hv
          exact txt_at is q
        · obtain ⟨h', g', d', tk', os'⟩ := t'
          have eg : g' = s.gens := mv.gens
          have ed : d' = s.drawn := mv.drawn
          have eo : os' = s.os := mv.os
          subst eg; subst ed; subst eo
          show wpAny _ _ _ _ _ _
          refine wpAny_pure ?_
          show wpAny _ _ (ret Value.none) _ _ _
          refine wpAny_pure ⟨rfl, h', tk', rfl, hS, fun b o e => ?_⟩
          have lb := Heap.lt_size e
          refine mv.heap b o (fun z => ?_) (Heap.get?_push_of_some _ (Heap.get?_push_of_some _ e))
          rcases List.mem_cons.mp z with z | z
          · exact Nat.ne_of_lt lb z
          · refine Nat.ne_of_lt (Nat.lt_succ_of_lt lb) ?_
            exact (List.mem_singleton.mp z).trans sz
      · cases r2 with
        | error e => exact hr2
        | ok fl2 => cases fl2 with
          | ret r =>
            obtain ⟨rfl, h', tk, rfl, hS, k⟩ := hr2
            repeat (any_goals (first | assumption | wp_step))
            exact h _ _ hS k
          | _ => exact hr2.elim
    | _ => exact hr.elim
theorem txs_vals {D : Froz.SD} {l : List Str} (F : Froz.TxOk P w D l) : ∃ ss, StrsAre (D.1.toList.map (·.2)) ss ∧ ∀ k, k ∈ ss ↔ k ∈ l := by
  have go : ∀ es : List (Int × Value), ElemsOf (PySem.strKind P w) es → ∃ ss, StrsAre (es.map (·.2)) ss ∧ ∀ k, k ∈ ss ↔ ∃ e ∈ es, (PySem.strKind P w).is k e.2 = true := fun es => by
    induction es with
    | nil => exact fun _ => ⟨[], .nil, fun k => by simp⟩
    | cons e r ih =>
      intro h
      obtain ⟨ss, s1, s2⟩ := ih h.tail
      obtain ⟨⟨k, hk, _⟩, _⟩ := h.head
      obtain ⟨t, e2⟩ : ∃ t, e.2 = .str k t := Value.isStrOf_shape hk
      refine ⟨k :: ss, by rw [List.map_cons, e2]; exact .cons k t s1, fun k' => ?_⟩
      rw [List.mem_cons, s2 k']
      constructor
      · rintro (z | ⟨e', he, z⟩)
        · exact ⟨e, List.mem_cons_self, by rw [z]; exact hk⟩
        · exact ⟨e', List.mem_cons_of_mem _ he, z⟩
      · rintro ⟨e', he, z⟩
        rcases List.mem_cons.mp he with y | y
        · rw [y] at z
          exact .inl ((PySem.strKind P w).inj e.2 k' k z hk)
        · exact .inr ⟨e', y, z⟩
  obtain ⟨ss, s1, s2⟩ := go _ F.el
  exact ⟨ss, s1, fun k => (s2 k).trans (F.mem k).symm⟩
theorem txs_sorted {a : Addr} {l : List Str} {Q : Value → Shared → Prop} (R : Txs P w s.heap a l) (hh : A.handled = none) (few : l.length < 64)
    (hQ : ∀ s' p (out : Array Value) (c : Nat) (ys : List Str), (∀ b o, s.heap.get? b = some o → s'.heap.get? b = some o) → s'.gens = s.gens → s'.os = s.os → s.heap.objs.size ≤ p →
      s'.heap.get? p = some (seqObj "list" out c) → StrsAre out.toList ys → sortedS ys = true → (∀ k, k ∈ ys ↔ k ∈ l) → ys.length = l.length → Q (.ref p) s') :
    wpAny (model P w) A (call (.builtin "sorted") [.ref a]) Q E s := by
  obtain ⟨⟨es, ep, t⟩, ho, tx, ris, led⟩ := R.ex
  have sz : es.size = l.length := tx.sz
  have small : es.size < scanBound := by rw [sz]; unfold scanBound; omega
  refine Calls.call_function_entry kind_sorted plain_sorted entry_sorted (args_sorted1 _) ?_
  unfold Builtin.«sorted»
  refine wpAny_bind (m := checkCount "sorted" 1 1 _) (wpAny_pure (wpAny_bind ?_))
  refine collect_set (A := A.in1) (es := es) (ep := ep) (t := t) hh ⟨_, ho, rfl, rfl⟩ tx.fit small ris led fun s1 vs k1 hz g1 o1 pm => ?_
  have vl : vs.length = l.length := by rw [pm.length_eq, List.length_map, Array.length_toList, sz]
  obtain ⟨ss0, a0, m0⟩ := txs_vals tx
  obtain ⟨ss, as, ps⟩ : ∃ ss, StrsAre vs ss ∧ ss.Perm ss0 := ⟨vs.map strOf, strsAre_map vs fun v hv => a0.all v (pm.mem_iff.mp hv), by rw [← a0.strs]; exact pm.map strOf⟩
  refine wpAny_bind (wpAny_newList ?_ (by rw [vl, sizeLine_eq]; omega))
  have gL : (s1.heap.push (seqObj "list" vs.toArray 0)).get? s1.heap.objs.size = some (seqObj "list" vs.toArray 0) := Heap.get?_push_size _ rfl
  refine wpAny_bind (wpAny_holding (wpAny_call_entry slot_list_sort ⟨_, gL, rfl⟩ entry_list_sort (list_sort_treeK strKind_oneLt gL as.keysOf (fun v1 v2 rest e => keyKind_strs (by rw [← e]; exact as)) (by rw [vl]; exact few) fun st' p1 p2 => ⟨_, rfl, ?_⟩) (args_list_sort _)))
  obtain ⟨ys, y1, y2, y3⟩ := sorted_out_str as p1 p2
  obtain ⟨c, hc⟩ := sortedHeap_at (vs := vs) (out := (arrOf st').map (·.2)) gL
  refine wpAny_pure ⟨_, rfl, hQ _ s1.heap.objs.size _ c ys (fun b u e => ?_) g1 o1 hz hc y1 y3 (fun k => by rw [y2.mem_iff, ps.mem_iff, m0 k]) (by rw [y2.length_eq, ← as.length, vl])⟩
  have q := k1 b u e
  have lt := Heap.lt_size q
  show (sortedHeap (s1.heap.push (seqObj "list" vs.toArray 0)) s1.heap.objs.size vs _).get? b = some u
  rw [sortedHeap_old (Nat.ne_of_lt lt) (by rw [size_push']; exact Nat.lt_succ_of_lt lt)]
  exact Heap.get?_push_of_some _ q
end
/-! ### over the layer -/
def SetT (P : Program) (w : World) (a : Addr) (l : List Str) : HO := .ext fun h => Txs P w h a l
theorem setT_new {P : Program} {w : World} {H : Hp} {h : Heap} {a : Addr} {l : List Str} (R : Txs P w h a l) : ObjOk P w H h a (SetT P w a l) := by
  obtain ⟨D, ho, _⟩ := R.ex
  exact ⟨R, ⟨_, ho⟩, fun _ _ p k => txs_at p k⟩
section
variable {X : Cx}
/-- set(names), a list of unlike texts -/
def rSetS (K : PySem.W.Frag) (P : Program) (w : World) : List V → Hp → VK → Prop := fun xs H Q => ∃ (l : Addr) (ks : List Str), xs = [V.ref l] ∧ SqL K H l (ks.map V.str) ∧ ks.Nodup ∧ ks.length < 64 ∧ ∀ a, H a = none → Q (.ref a) (upd H a (SetT P w a ks.reverse))
theorem cr_setS (hc : X.calm = true) : CallR X (.type "set") (rSetS X.K X.prog X.w) := by
  intro pins s σ H xs us Q I r h
  obtain ⟨l, ks, rfl, hl, nd, few, q⟩ := h
  rw [Vals.ref1 r]
  obtain ⟨its, rv, pl, _⟩ := I.list hl
  refine txs_call (P := X.prog) (w := X.w) (I.ok.hd hc) pl.isList (by simpa using strsAre_of rv) nd few fun h' tk R k => ?_
  exact ⟨.ref s.heap.objs.size, upd H s.heap.objs.size (SetT X.prog X.w s.heap.objs.size ks.reverse), I.laid (t' := tk) k (Nat.le_refl _) (setT_new R), rfl, q _ (I.hok.fresh (Nat.le_refl _))⟩
/-- sorted(set) -/
def rSortedTx (P : Program) (w : World) : List V → Hp → VK → Prop := fun vs H Q => ∃ (a : Addr) (l : List Str), vs = [V.ref a] ∧ H a = some (SetT P w a l) ∧ l.length < 64 ∧
  ∀ (ys : List Str) (p : Addr), sortedS ys = true → (∀ k, k ∈ ys ↔ k ∈ l) → ys.length = l.length → H p = none → Q (.ref p) (upd H p (.lst (ys.map V.str)))
theorem cr_sortedTx (hc : X.calm = true) : CallR X (.builtin "sorted") (rSortedTx X.prog X.w) := by
  intro pins s σ H vs us Q I r h
  obtain ⟨a, l, rfl, ha, few, q⟩ := h
  have R : Txs X.prog X.w s.heap a l := (I.hok a _ ha).1
  rw [Vals.ref1 r]
  refine txs_sorted R (I.ok.hd hc) few fun s' p out c ys k g o hp hg hs m1 m2 m3 => ?_
  have len : (ys.map V.str).length ≤ sizeLine := by rw [List.length_map, m3, sizeLine_eq]; omega
  have hn : H p = none := I.hok.fresh hp
  have J : Inv X pins σ (upd H p (.lst (ys.map V.str))) { s with heap := s'.heap, gens := s'.gens, drawn := s'.drawn, toks := s'.toks } :=
    I.call (ch := []) (Un.laid k hp hn) (I.hok.laid k hp ⟨len, out.toList, c, vals_of_strs hs, hg⟩) (by rw [g]; exact I.bare) fun _ z => nomatch z
  have e : s' = { s with heap := s'.heap, gens := s'.gens, drawn := s'.drawn, toks := s'.toks } := by
    cases s'; cases s; cases o; rfl
  rw [e]
  exact ⟨.ref p, _, J, rfl, q ys p m1 m2 m3 hn⟩
end
end Cal


namespace Cal
open PySem PySem.Spec PyProof.Rows L2
section
variable {P : Program} {w : World} {A : Around} {E : Value → Shared → Prop} {s : Shared}
/-- set(t), t a tuple of tuples of ints -/
theorem tups_call {l : Addr} {its : Array Value} (ks : List (Addr × List Int)) {Q : Value → Shared → Prop} (hh : A.handled = none) (hl : s.heap.IsTuple l its) (hit : its.toList = ks.map fun p => Value.ref p.1)
    (hk : ∀ p ∈ ks, IsT P w s.heap p.2 p.1) (few : ks.length < 64) (hu : A.units + 3 < cLine)
    (h : ∀ (h' : Heap) (tk : Nat) L es ep t, SetTR P w h' s.heap.objs.size L es ep t → Got ks ks.length L → (∀ b o, s.heap.get? b = some o → h'.get? b = some o) → Q (.ref s.heap.objs.size) { s with heap := h', toks := tk }) :
    wpAny (model P w) A (call (.type "set") [.ref l]) Q E s := by
  have en : its.size = ks.length := by
    have q := congrArg List.length hit
    rw [Array.length_toList, List.length_map] at q
    exact q
  have ⟨c, tl, mro⟩ := F.called_set.mro
  have made := F.called_set.made
  have sub := F.called_set.sub
  refine wpAny_call (codeAny_of_tree ?_)
  show wpAny _ _ (callAny (.type "set") _) _ _ _
  refine wpAny_pure ⟨Code.quiet_builtin _ (by decide +kernel), codeAny_builtin F.entry_type_call ?_⟩
  rw [Around.under_plain (weight_type_call_type "set" [.ref l] []) rfl]
  have n1 := F.called_set.notType
  have n2 := F.called_set.canCreate
  have ok1 := F.typeCall_set_1 (.ref l)
  repeat (any_goals (first | assumption | wp_step))
  refine codeAny_mono (code_set_led1 (.ref l) (E := E) (Q₁ := fun o t => o = .ref s.heap.objs.size ∧ t = { s with heap := s.heap.push (freshSet w) }) ⟨rfl, rfl⟩) fun r t hr => ?_
  cases r with
  | error e => exact hr
  | ok fl => cases fl with
    | ret o =>
      obtain ⟨rfl, rfl⟩ := hr
      have gS : (s.heap.push (freshSet w)).get? s.heap.objs.size = some (freshSet w) := Heap.get?_push_size _ rfl
      have tS : Shared.TypeIs { s with heap := s.heap.push (freshSet w) } (.ref s.heap.objs.size) "set" := ⟨_, gS, rfl⟩
      have look := F.called_set.init.lookup
      have bnd := F.called_set.init.bind (.ref s.heap.objs.size)
      repeat (any_goals (first | assumption | wp_step))
      refine codeAny_mono (codeAny_call_builtin (R := wants (fun r t => r = .none ∧ ∃ h' tk L es ep tb, t = { s with heap := h', toks := tk } ∧ SetTR P w h' s.heap.objs.size L es ep tb ∧ Got ks ks.length L ∧ ∀ b o, s.heap.get? b = some o → h'.get? b = some o) E)
        F.called_set.init.plain F.entry_set_init (check_set_init_1 tS ?_)) fun r2 t2 hr2 => ?_
      · obtain ⟨⟨lc, ldi, lda, lsl⟩, gl, cl, nl, dl⟩ := hl
        simp only at cl dl
        subst cl; subst dl
        have gl' : (s.heap.push (freshSet w)).get? l = some { cls := .type "tuple", dict := ldi, data := .seq its nl, slots := lsl } := Heap.get?_push_of_some _ gl
        have u1 := F.sub_tuple_set
        have u2 := F.sub_tuple_frozenset
        have u3 : (Value.type "tuple" == Value.type "dict") = false := by decide
        have il : (s.heap.push (freshSet w)).IsTuple l its := ⟨_, gl', rfl, nl, rfl⟩
        unfold Builtin.«set.__init__» noKeywords Builtin.Frozenset.updateFrom
        generalize hPI : pyIter = PI
        wp_walk
        subst hPI
        refine wpAny_pyIter_tuple il (wpAny_bind (wpAny_runValue ?_))
        have ltl : l < s.heap.objs.size := Heap.lt_size gl
        have h3 : A.in1.in1.in1.handled = none := by simp [hh]
        have sz : (s.heap.push (freshSet w)).objs.size = s.heap.objs.size + 1 := Heap.size_push ..
        have neI : l ≠ (s.heap.push (freshSet w)).objs.size := by rw [sz]; exact Nat.ne_of_lt (Nat.lt_succ_of_lt ltl)
        have nS : s.heap.objs.size ∉ [(s.heap.push (freshSet w)).objs.size, l] := by
          rw [sz]
          intro z
          rcases List.mem_cons.mp z with z | z
          · exact Nat.ne_of_lt (Nat.lt_succ_self _) z
          · exact Nat.ne_of_gt ltl (List.mem_singleton.mp z)
        have none_of : ∀ b, s.heap.objs.size ≤ b → s.heap.get? b = none := fun b hb => by
          cases q : s.heap.get? b with
          | none => rfl
          | some o => exact absurd (Nat.lt_of_lt_of_le (Heap.lt_size q) hb) (Nat.lt_irrefl _)
        refine set_update_tups ((Walks.tuple h3 _ l neI its).toS) s.heap.objs.size nS ks en few (fun i v hv => ?_) s.heap hk (none_of _ (Nat.le_refl _)) (fun b hb => none_of b (by
            rw [List.mem_singleton.mp hb, sz]
            exact Nat.le_succ _)) hu (its.size - 0) 0 _ (by omega) (Nat.zero_le _) ⟨⟨_, Heap.get?_push_size _ rfl, rfl, rfl⟩, ?_⟩ (fun b o e => Heap.get?_push_of_some _ (Heap.get?_push_of_some _ e)) ⟨[], #[], 0, _, setTR_fresh (Heap.get?_push_of_some _ gS), Got.zero ks⟩ fun t' L es ep tb mv hS got hkp => ?_
        · have q : its.toList[i]? = some v := by rw [Array.getElem?_toList]; exact hv
          rw [hit, List.getElem?_map] at q
          cases hq : ks[i]? with
          | none => rw [hq] at q; cases q
          | some p =>
            rw [hq] at q
            exact ⟨p, rfl, (Option.some.inj q).symm⟩
        · exact ⟨_, Heap.get?_push_of_some _ gl', rfl, nl, rfl⟩
        · obtain ⟨h', g', d', tk', os'⟩ := t'
          have eg : g' = s.gens := mv.gens
          have ed : d' = s.drawn := mv.drawn
          have eo : os' = s.os := mv.os
          subst eg; subst ed; subst eo
          show wpAny _ _ _ _ _ _
          refine wpAny_pure ?_
          show wpAny _ _ (ret Value.none) _ _ _
          rw [en] at got
          exact wpAny_pure ⟨rfl, h', tk', L, es, ep, tb, rfl, hS, got, hkp⟩
      · cases r2 with
        | error e => exact hr2
        | ok fl2 => cases fl2 with
          | ret r =>
            obtain ⟨rfl, h', tk, L, es, ep, tb, rfl, hS, got, k⟩ := hr2
            repeat (any_goals (first | assumption | wp_step))
            exact h _ _ _ _ _ _ hS got k
          | _ => exact hr2.elim
    | _ => exact hr.elim
end
end Cal


namespace Cal
open PySem PySem.Spec PyProof.Rows L2
section
variable {X : Cx}
/-- set(t), t a tuple of tuples of ints -/
def rSetOfTT (K : PySem.W.Frag) (P : Program) (w : World) : List V → Hp → VK → Prop := fun xs H Q => ∃ (l : Addr) (ks : List (Addr × List Int)), xs = [V.ref l] ∧ SqT K H l (ks.map fun p => V.ref p.1) ∧ (∀ p ∈ ks, SqT K H p.1 (p.2.map V.int)) ∧ ks.length < 64 ∧
  ∀ a L, H a = none → (∀ p ∈ L, p ∈ ks) → (∀ p ∈ ks, p.2 ∈ L.map (·.2)) → Q (.ref a) (upd H a (SetTO P w a L))
theorem cr_setOfTT (hc : X.calm = true) (hu : X.A.units + 64 < cLine) : CallR X (.type "set") (rSetOfTT X.K X.prog X.w) := by
  intro pins s σ H xs us Q I r h
  obtain ⟨l, ks, rfl, hl, hk, few, q⟩ := h
  rw [Vals.ref1 r]
  obtain ⟨its, rv, pl, _⟩ := I.tuple hl
  refine tups_call (P := X.prog) (w := X.w) (its := its.toArray) ks (I.ok.hd hc) pl (by simpa using refs_of_vals rv) (fun p hp => I.isT (hk p hp)) few (by omega) fun h' tk L es ep t R g k => ?_
  refine ⟨.ref s.heap.objs.size, upd H s.heap.objs.size (SetTO X.prog X.w s.heap.objs.size L), I.laid (t' := tk) k (Nat.le_refl _) (setTO_new R.t0), rfl, q _ L (I.hok.fresh (Nat.le_refl _)) (fun p hp => ?_) fun p hp => ?_⟩
  · exact List.mem_of_mem_take (g.sub p hp)
  · exact g.all p (by rw [List.take_length]; exact hp)
end
theorem DtA.pairs {K : PySem.W.Frag} {G : Hp} : ∀ {qs : List (Int × Int)} {vs : List V}, DtA K G (qs.map pairD) vs → ∃ ks : List (Addr × List Int), vs = ks.map (fun p => V.ref p.1) ∧ ks.map (·.2) = qs.map (fun q => [q.1, q.2]) ∧ ∀ p ∈ ks, G p.1 = some (.tup (p.2.map V.int))
  | [], _, h => ⟨[], by rw [show _ = [] from h]; rfl, rfl, fun p hp => by cases hp⟩
  | q :: r, _, ⟨v, vs, rfl, hv, hr⟩ => by
    obtain ⟨ks, rfl, h2, h3⟩ := DtA.pairs hr
    obtain ⟨p, us, rfl, e, k⟩ := hv
    have k' : us = [V.int q.1, V.int q.2] := by
      obtain ⟨v1, r1, rfl, a1, b1⟩ := k
      obtain ⟨v2, r2, rfl, a2, b2⟩ := b1
      rw [show v1 = V.int q.1 from a1, show v2 = V.int q.2 from a2, show r2 = [] from b2]
    subst k'
    refine ⟨(p, [q.1, q.2]) :: ks, rfl, by rw [List.map_cons, List.map_cons, h2], fun x hx => ?_⟩
    rcases List.mem_cons.mp hx with z | z
    · rw [z]; exact e
    · exact h3 x z
theorem DtA.ofPairs {K : PySem.W.Frag} {G : Hp} : ∀ {L : List (Addr × List Int)}, (∀ p ∈ L, G p.1 = some (.tup (p.2.map V.int)) ∧ p.2.length = 2) → DtA K G ((L.map fun p => (p.2.getD 0 0, p.2.getD 1 0)).map pairD) (L.map fun p => V.ref p.1)
  | [], _ => rfl
  | p :: r, h => by
    obtain ⟨h1, h2⟩ := h p (List.mem_cons_self ..)
    refine ⟨V.ref p.1, _, rfl, ⟨p.1, _, rfl, h1, ?_⟩, DtA.ofPairs fun x hx => h x (List.mem_cons_of_mem _ hx)⟩
    obtain ⟨a, xs⟩ := p
    match xs, h2 with
    | [x, y], _ => exact ⟨V.int x, _, rfl, rfl, V.int y, [], rfl, rfl, rfl⟩
section
variable {B : Bs} {ρ : Ro} {μ : Mu} {te : TE} {Pg : Program} {w : World}
/-- sorted(set(pairs)) -/
theorem ev_sortSetP {qs : List (Int × Int)} (h : Ed B te ρ μ (.tup (qs.map pairD))) (hb : ∀ q ∈ qs, (0 ≤ q.1 ∧ q.1 < 1000) ∧ 0 ≤ q.2 ∧ q.2 < 1000) (few : qs.length < 64) :
    Ev B (tCB (rSortedT B.K Pg w) (tCons (tCB (rSetOfTT B.K Pg w) (tCons te tNil)) tNil)) ρ μ (fun e => ∃ ys : List (Int × Int), e = .lst (ys.map pairD) ∧ (∀ y ∈ ys, y ∈ qs) ∧ ys.length < 64) := Ev.mk fun τ σ H a Q q => h.go a fun v H1 d hd a1 => by
  subst hd
  obtain ⟨G, g, p, vs, rfl, e, k⟩ := id a1.top
  obtain ⟨ks, rfl, k2, k3⟩ := k.pairs
  have kl : ks.length = qs.length := by have := congrArg List.length k2; rwa [List.length_map, List.length_map] at this
  have mem : ∀ x ∈ ks, ∃ q ∈ qs, x.2 = [q.1, q.2] := fun x hx => by
    have : x.2 ∈ qs.map (fun q => [q.1, q.2]) := by rw [← k2]; exact List.mem_map.mpr ⟨x, hx, rfl⟩
    obtain ⟨q, hq, e⟩ := List.mem_map.mp this
    exact ⟨q, hq, e.symm⟩
  refine ⟨p, ks, rfl, .inl (.inl (g.sub _ _ e)), fun x hx => .inl (.inl (g.sub _ _ (k3 x hx))), by omega, fun a' L ha' l1 l2 => ?_⟩
  obtain ⟨g2, sm⟩ := g.new (o := SetTO Pg w a' L) ha'
  refine ⟨a', L, 2, 1000, rfl, upd_same, fun x hx => .inl (.inl (g2.sub _ _ (sm _ _ (k3 x (l1 x hx))))), by decide, fun x hx => ?_, fun L' p2 pm nd len pw hp2 => ?_⟩
  · obtain ⟨q, hq, e⟩ := mem x (l1 x hx)
    rw [e]
    refine ⟨rfl, fun z hz => ?_⟩
    have := hb q hq
    simp only [List.mem_cons, List.mem_nil_iff, or_false] at hz
    rcases hz with rfl | rfl
    · exact this.1
    · exact this.2
  · have dL := DtA.ofPairs (K := B.K) (G := upd G a' (SetTO Pg w a' L)) (L := L') fun x hx => by
      have hx' := l1 x (pm.mem_iff.mp hx)
      obtain ⟨q, hq, e⟩ := mem x hx'
      exact ⟨sm _ _ (k3 x hx'), by rw [e]; rfl⟩
    refine q _ _ _ ⟨_, rfl, fun y hy => ?_, by rw [List.length_map]; exact len⟩ (g2.newLst hp2 dL)
    obtain ⟨x, hx, rfl⟩ := List.mem_map.mp hy
    obtain ⟨q, hq, e⟩ := mem x (l1 x (pm.mem_iff.mp hx))
    rw [e]; exact hq
end
end Cal


namespace Cal
open PySem PySem.Spec PyProof.Rows L2
theorem getD_mapG {α : Type} (g : α → D) (z : α) (l : List α) {i : Nat} (hi : i < l.length) : (l.map g).getD i .non = g (l.getD i z) := by
  rw [List.getD_eq_getElem?_getD, List.getElem?_map, List.getElem?_eq_getElem hi, List.getD_eq_getElem?_getD, List.getElem?_eq_getElem hi]; rfl
theorem Ei.congrG {B : Bs} {wi : TI} {ρ : Ro} {μ : Mu} {n : Nat} {f g : Nat → D} (h : Ei B wi ρ μ n f) (k : ∀ i, i < n → f i = g i) : Ei B wi ρ μ n g := fun τ σ H a Rr q => h τ σ H a Rr fun J H1 τ1 hsub a1 hJ => q J H1 τ1 hsub a1 fun i ρ' μ' τ' σ' H' hs a2 => by
  obtain ⟨s1, s2⟩ := hJ i ρ' μ' τ' σ' H' hs a2
  refine ⟨s1, fun hi => ?_⟩
  obtain ⟨s3, s4⟩ := s2 hi
  exact ⟨s3, fun x H2 hy => by rw [← k i hi]; exact s4 x H2 hy⟩
theorem ei_tupG {B : Bs} {tl : TE} {ρ : Ro} {μ : Mu} {α : Type} (g : α → D) (z : α) {l : List α} (h : Ed B tl ρ μ (.tup (l.map g))) : Ei B (iTup B.K tl) ρ μ l.length (fun i => g (l.getD i z)) := by
  have := ei_tup h
  rw [List.length_map] at this
  exact this.congrG fun i hi => getD_mapG g z l hi
theorem ei_lstG {B : Bs} {tl : TE} {ρ : Ro} {μ : Mu} {α : Type} (g : α → D) (z : α) {l : List α} (h : Ed B tl ρ μ (.lst (l.map g))) : Ei B (iList B.K tl) ρ μ l.length (fun i => g (l.getD i z)) := by
  have := ei_lst h
  rw [List.length_map] at this
  exact this.congrG fun i hi => getD_mapG g z l hi
theorem range_getG {α β : Type} (z : α) (l : List α) (g : α → β) : (List.range l.length).map (fun i => g (l.getD i z)) = l.map g := by
  refine List.ext_getElem? fun i => ?_
  rw [List.getElem?_map, List.getElem?_map]
  by_cases hi : i < l.length
  · rw [List.getElem?_range hi, List.getElem?_eq_getElem hi]
    show some (g (l.getD i z)) = _
    rw [List.getD_eq_getElem?_getD, List.getElem?_eq_getElem hi]; rfl
  · rw [List.getElem?_eq_none (by simpa using hi), List.getElem?_eq_none (by simpa using hi)]; rfl
end Cal


namespace Cal
open PySem PySem.Spec PyProof.Rows L2
abbrev s_is_integer : Stmt := topS 12
abbrev n_is_integer : List Str := ["thing"]
theorem sc_is_integer : FnScope n_is_integer ["thing"] (defScope s_is_integer) := ⟨rfl, rfl, rfl, by decide +kernel, rfl, by decide +kernel, by decide +kernel⟩
abbrev s_is_below : Stmt := topS 13
abbrev n_is_below : List Str := ["thing", "limit"]
theorem sc_is_below : FnScope n_is_below ["thing", "limit"] (defScope s_is_below) := ⟨rfl, rfl, rfl, by decide +kernel, rfl, by decide +kernel, by decide +kernel⟩
abbrev s_is_name : Stmt := topS 15
abbrev n_is_name : List Str := ["thing", "letter"]
theorem sc_is_name : FnScope n_is_name ["thing"] (defScope s_is_name) := ⟨rfl, rfl, rfl, by decide +kernel, rfl, by decide +kernel, by decide +kernel⟩
abbrev s_is_tuple_of : Stmt := topS 16
abbrev n_is_tuple_of : List Str := ["thing", "length"]
theorem sc_is_tuple_of : FnScope n_is_tuple_of ["thing", "length"] (defScope s_is_tuple_of) := ⟨rfl, rfl, rfl, by decide +kernel, rfl, by decide +kernel, by decide +kernel⟩
abbrev s_is_ascending : Stmt := topS 17
abbrev n_is_ascending : List Str := ["items", "one", "other"]
theorem sc_is_ascending : FnScope n_is_ascending ["items"] (defScope s_is_ascending) := ⟨rfl, rfl, rfl, by decide +kernel, rfl, by decide +kernel, by decide +kernel⟩
abbrev s_are_names_ascending : Stmt := topS 18
abbrev n_are_names_ascending : List Str := ["thing", "item"]
theorem sc_are_names_ascending : FnScope n_are_names_ascending ["thing"] (defScope s_are_names_ascending) := ⟨rfl, rfl, rfl, by decide +kernel, rfl, by decide +kernel, by decide +kernel⟩
abbrev s_are_below : Stmt := topS 19
abbrev n_are_below : List Str := ["thing", "limit", "item"]
theorem sc_are_below : FnScope n_are_below ["thing", "limit"] (defScope s_are_below) := ⟨rfl, rfl, rfl, by decide +kernel, rfl, by decide +kernel, by decide +kernel⟩
abbrev s_are_below_ascending : Stmt := topS 20
abbrev n_are_below_ascending : List Str := ["thing", "limit"]
theorem sc_are_below_ascending : FnScope n_are_below_ascending ["thing", "limit"] (defScope s_are_below_ascending) := ⟨rfl, rfl, rfl, by decide +kernel, rfl, by decide +kernel, by decide +kernel⟩
abbrev s_is_placement : Stmt := topS 23
abbrev n_is_placement : List Str := ["thing", "sites", "clients", "kept"]
theorem sc_is_placement : FnScope n_is_placement ["thing"] (defScope s_is_placement) := ⟨rfl, rfl, rfl, by decide +kernel, rfl, by decide +kernel, by decide +kernel⟩
abbrev s_are_clients : Stmt := topS 24
abbrev n_are_clients : List Str := ["clients", "count", "visited"]
theorem sc_are_clients : FnScope n_are_clients ["clients", "count"] (defScope s_are_clients) := ⟨rfl, rfl, rfl, by decide +kernel, rfl, by decide +kernel, by decide +kernel⟩
/-! ### what the program's functions say -/
def isInt : D → Bool | .int _ => true | _ => false
theorem isInt_eq {d : D} (h : isInt d = true) : ∃ i, d = .int i := by cases d <;> first | exact ⟨_, rfl⟩ | cases h
theorem isInt_of (d : D) : (isI d && !isBl d) = isInt d := by cases d <;> rfl
def isBelow (n : Int) : D → Bool | .int i => decide (0 ≤ i) && decide (i < n) | _ => false
def isNameS (s : Str) : Bool := (decide (1 ≤ (s.length : Int)) && decide ((s.length : Int) ≤ 10)) && (List.range s.cps.size).all fun i => !decide ([s.cps.getD i 0] < [97]) && !decide ([122] < [s.cps.getD i 0])
def isName : D → Bool | .str s => isNameS s | _ => false
def isTup (n : Int) : D → Bool | .tup ds => decide ((ds.length : Int) = n) | _ => false
def ltD : D → D → Bool | .int i, .int j => decide (i < j) | .str s, .str t => decide (s.cps.toList < t.cps.toList) | .tup xs, .tup ys => dLt (.tup xs) (.tup ys) | _, _ => false
def ascD (ds : List D) : Bool := (List.range (ds.length - 1)).all fun i => ltD (ds.getD i .non) (ds.getD (i + 1) .non)
def namesAsc : D → Bool | .tup ds => ((List.range ds.length).all fun i => isName (ds.getD i .non)) && ascD ds | _ => false
def areBelow (n : Int) : D → Bool | .tup ds => (List.range ds.length).all fun i => isBelow n (ds.getD i .non) | _ => false
def belowAsc (n : Int) : D → Bool | .tup ds => areBelow n (.tup ds) && ascD ds | _ => false
def areClients (n : Int) (ds : List D) : Bool := (List.range ds.length).all fun i => belowAsc n (ds.getD i .non) && (match ds.getD i .non with | .tup vs => decide (2 ≤ (vs.length : Int)) | _ => false)
def isPl : D → Bool
  | .tup [.tup ss, .tup cs] => ((List.range ss.length).all fun i => namesAsc (ss.getD i .non)) && areClients ss.length cs
  | _ => false
section
variable {P : Program} {w : World} {K : PySem.W.Frag} {mg : Str → Option Value} {base : Heap} {f : Addr} {fd : FuncData}
abbrev BN1 : List Str := ["all", "bool", "int", "isinstance", "len", "str", "tuple", "zip"]
abbrev sp_is_integer (K : PySem.W.Frag) : Sp := psp K (fun ds => ∃ d, ds = [d] ∧ Sm d) (fun ds e => ∃ d, ds = [d] ∧ e = .bl (isInt d))
abbrev sp_is_below (K : PySem.W.Frag) : Sp := psp K (fun ds => ∃ d n, ds = [d, .int n] ∧ Sm d) (fun ds e => ∃ d n, ds = [d, .int n] ∧ e = .bl (isBelow n d))
abbrev sp_is_name (K : PySem.W.Frag) : Sp := psp K (fun ds => ∃ d, ds = [d] ∧ Sm d) (fun ds e => ∃ d, ds = [d] ∧ e = .bl (isName d))
abbrev sp_is_tuple_of (K : PySem.W.Frag) : Sp := psp K (fun ds => ∃ d n, ds = [d, .int n] ∧ Sm d) (fun ds e => ∃ d n, ds = [d, .int n] ∧ e = .bl (isTup n d))
variable (bi : ∀ x, x ∈ BN1 → mg x = none)
include bi in
theorem ok_is_integer (F : Fun K "is_integer" "is_integer" s_is_integer f fd) : FnOk P w K mg base CX0 1 f fd ["thing"] (sp_is_integer K) := by
  refine F.ok sc_is_integer (fun vs H Q E h => ?_) (fun cdv A outer s H vs Q E hr h => ?_)
  · obtain ⟨G, ds, h1, ⟨d, rfl, _⟩, _⟩ := h
    exact h1.length
  · have hu := hu_of hr
    obtain ⟨G, ds, ⟨d, rfl, hd⟩, hlen, a, hq⟩ := fsp_start locT n_is_integer h
    refine ⟨_, (pss_one (ps_ret (pe_and (pe_callB (id := "isinstance") (r := rIsi K) call_isi (by rfl) (bi "isinstance" (by decide +kernel)) (by decide +kernel) (pa_cons (pv 0) (pa_cons (pe_bltn (v := .ty "int") (u := .type "int") (by rfl) (bi "int" (by decide +kernel)) (by decide +kernel) rfl) pa_nil))) (pe_one (pe_not (pe_callB (id := "isinstance") (r := rIsi K) call_isi (by rfl) (bi "isinstance" (by decide +kernel)) (by decide +kernel) (pa_cons (pv 0) (pa_cons (pe_bltn (v := .ty "bool") (u := .type "bool") (by rfl) (bi "bool" (by decide +kernel)) (by decide +kernel) rfl) pa_nil)))))))), ?_⟩
    exact x_ret a (Ed.is (ed_andV (ed_isiI (ed_var rfl) hd.ty) fun _ => ed_notV (ed_isiB (ed_var rfl) hd.ty)) (by rw [isInt_of])) fun v H' d' hd' a' => hq ⟨d, rfl, hd'⟩ a'
include bi in
theorem ok_is_below (F : Fun K "is_below" "is_below" s_is_below f fd) (c_is_integer : C8.Cal P w K mg base 1 "is_integer" (sp_is_integer K) []) : FnOk P w K mg base CX0 2 f fd ["thing", "limit"] (sp_is_below K) := by
  refine F.ok sc_is_below (fun vs H Q E h => ?_) (fun cdv A outer s H vs Q E hr h => ?_)
  · obtain ⟨G, ds, h1, ⟨d, n, rfl, _⟩, _⟩ := h
    exact h1.length
  · have hu := hu_of hr
    obtain ⟨G, ds, ⟨d, n, rfl, hd⟩, hlen, a, hq⟩ := fsp_start locT n_is_below h
    refine ⟨_, (pss_one (ps_ret (pe_and (C8.pe_c c_is_integer hr (by first | decide | omega) (by rfl) (pa_cons (pv 0) pa_nil)) (pe_one (pe_chain u_le u_lt pe_int (pv 0) (pv 1)))))), ?_⟩
    refine x_ret a (Ed.is (d := .bl (isInt d && isBelow n d)) (ed_andV (ed_p (ead_cons (ed_var rfl) ea_nil) ⟨d, rfl, hd⟩ (by rintro e ⟨d', e1, rfl⟩; cases e1; rfl)) fun hb => ?_) ?_) fun v H' d' hd' a' => hq ⟨d, n, rfl, hd'⟩ a'
    · obtain ⟨i, rfl⟩ := isInt_eq hb
      exact ed_leltI ed_int (ed_var rfl) (ed_var rfl)
    · cases d <;> rfl
abbrev sp_is_ascending (K : PySem.W.Frag) : Sp := psp K (fun ds => ∃ es, ds = [.tup es] ∧ es.length ≤ 1000000 ∧ ((∀ e ∈ es, ∃ i, e = .int i) ∨ (∀ e ∈ es, ∃ s, e = .str s) ∨ ∀ e ∈ es, ∃ q, e = pairD q)) (fun ds e => ∃ es, ds = [.tup es] ∧ e = .bl (ascD es))
abbrev sp_are_names_ascending (K : PySem.W.Frag) : Sp := psp K (fun ds => ∃ d, ds = [d] ∧ Sm d) (fun ds e => ∃ d, ds = [d] ∧ e = .bl (namesAsc d))
abbrev sp_are_below (K : PySem.W.Frag) : Sp := psp K (fun ds => ∃ d n, ds = [d, .int n] ∧ Sm d) (fun ds e => ∃ d n, ds = [d, .int n] ∧ e = .bl (areBelow n d))
abbrev sp_are_below_ascending (K : PySem.W.Frag) : Sp := psp K (fun ds => ∃ d n, ds = [d, .int n] ∧ Sm d) (fun ds e => ∃ d n, ds = [d, .int n] ∧ e = .bl (belowAsc n d))
abbrev sp_are_clients (K : PySem.W.Frag) : Sp := psp K (fun ds => ∃ es n, ds = [.tup es, .int n] ∧ es.length ≤ 1000000 ∧ SmA es) (fun ds e => ∃ es n, ds = [.tup es, .int n] ∧ e = .bl (areClients n es))
abbrev sp_is_placement (K : PySem.W.Frag) : Sp := psp K (fun ds => ∃ d, ds = [d] ∧ Sm d) (fun ds e => ∃ d, ds = [d] ∧ e = .bl (isPl d))
theorem sz1000 {n : Nat} (h : n ≤ 1000000) : n ≤ sizeLine := Nat.le_trans h (by decide)
theorem str1 (c : Nat) : (⟨#[c]⟩ : Str).cps.toList = [c] := rfl
variable (g_LONGEST_NAME : ∃ u, mg "LONGEST_NAME" = some u ∧ RelV (.int 10) u) (g_FEWEST_VISITED : ∃ u, mg "FEWEST_VISITED" = some u ∧ RelV (.int 2) u)
include bi g_LONGEST_NAME in
theorem ok_is_name (F : Fun K "is_name" "is_name" s_is_name f fd) : FnOk P w K mg base CX0 1 f fd ["thing"] (sp_is_name K) := by
  refine F.ok sc_is_name (fun vs H Q E h => ?_) (fun cdv A outer s H vs Q E hr h => ?_)
  · obtain ⟨G, ds, h1, ⟨d, rfl, _⟩, _⟩ := h
    exact h1.length
  · have hu := hu_of hr
    obtain ⟨G, ds, ⟨d, rfl, hd⟩, hlen, a, hq⟩ := fsp_start locT n_is_name h
    refine ⟨_, (pss_cons (ps_if (PW.pt (pw_or (pt_not (pt_val (pe_callB (id := "isinstance") (r := rIsi K) call_isi (by rfl) (bi "isinstance" (by decide +kernel)) (by decide +kernel) (pa_cons (pv 0) (pa_cons (pe_bltn (v := .ty "str") (u := .type "str") (by rfl) (bi "str" (by decide +kernel)) (by decide +kernel) rfl) pa_nil))))) (pw_or1 (pt_not (pt_chain u_le u_le pe_int (pe_callB (id := "len") (r := rLenU K) u_len (by rfl) (bi "len" (by decide +kernel)) (by decide +kernel) (pa_cons (pv 0) pa_nil)) (C8.pe_gc (by rfl) g_LONGEST_NAME)))))) (pss_one (ps_ret pe_bl)) pss_nil)
      (pss_one (ps_ret (pe_callB (id := "all") (r := rAll K) (cr_all rfl) (by rfl) (bi "all" (by decide +kernel)) (by decide +kernel) (pa_cons (pe_lc (own := [("letter", 1)]) (g := gName 1) (tt := tYes) rfl sc_is_name.nd (pi_str (pv 0)) (blkOk_by (N := n_is_name) (sc := defScope s_is_name) (by decide +kernel)) (fun _ _ _ _ _ => (pg_name (i := 1) sc_is_name.nd rfl (by first | exact (.inl rfl) | exact (.inr rfl)))) (fun _ _ _ _ _ => pts_nil) (fun _ _ _ _ _ => (pe_chain u_le u_le pe_str (pv 1) pe_str))) pa_nil))))), ?_⟩
    by_cases hs : isS d = true
    · obtain ⟨s, rfl⟩ := isS_eq hs
      have hz := sz1000 hd.1
      refine x_seq (x_ifb a (eb_or (b := !(decide (1 ≤ (s.length : Int)) && decide ((s.length : Int) ≤ 10))) (eb_not (eb_B (ed_isiS (ed_var rfl) hd.ty))) fun _ => eb_not (eb_test (ed_leleI ed_int (ed_lenS (ed_var rfl) hz) ed_int))) (fun hb H' a' => ?_) fun hb H' a' => x_next ?_)
      · refine x_ret a' ed_bl fun v H2 d' hd' a2 => hq ⟨_, rfl, ?_⟩ a2
        rw [hd']
        have hb' := or_not hb rfl
        show D.bl false = .bl (isNameS s)
        unfold isNameS
        rw [hb']; rfl
      · refine x_ret a' (ed_allF (ed_lc0 (ei_str (ed_var rfl)) (by decide) (Nat.le_trans (show s.cps.size ≤ 1000000 from hd.1) (by decide)) fun i hi cl => ed_leleS ed_str (ed_var rfl) ed_str)) fun v H2 d' hd' a2 => hq ⟨_, rfl, ?_⟩ a2
        rw [hd']
        have hb' := (and_of hb).2
        show _ = D.bl (isNameS s)
        unfold isNameS
        rw [hb']; rfl
    · refine x_seq (x_ifb a (eb_or (b := true) (eb_not (eb_B (ed_isiS (ed_var rfl) hd.ty))) fun hb => absurd (by simpa using hb) hs) (fun hb H' a' => ?_) fun hb H' a' => ?_)
      · refine x_ret a' ed_bl fun v H2 d' hd' a2 => hq ⟨_, rfl, ?_⟩ a2
        rw [hd']
        cases d <;> first | rfl | exact absurd rfl hs
      · simp at hb
include bi in
theorem ok_is_tuple_of (F : Fun K "is_tuple_of" "is_tuple_of" s_is_tuple_of f fd) : FnOk P w K mg base CX0 1 f fd ["thing", "length"] (sp_is_tuple_of K) := by
  refine F.ok sc_is_tuple_of (fun vs H Q E h => ?_) (fun cdv A outer s H vs Q E hr h => ?_)
  · obtain ⟨G, ds, h1, ⟨d, n, rfl, _⟩, _⟩ := h
    exact h1.length
  · have hu := hu_of hr
    obtain ⟨G, ds, ⟨d, n, rfl, hd⟩, hlen, a, hq⟩ := fsp_start locT n_is_tuple_of h
    refine ⟨_, (pss_one (ps_ret (pe_and (pe_callB (id := "isinstance") (r := rIsi K) call_isi (by rfl) (bi "isinstance" (by decide +kernel)) (by decide +kernel) (pa_cons (pv 0) (pa_cons (pe_bltn (v := .ty "tuple") (u := .type "tuple") (by rfl) (bi "tuple" (by decide +kernel)) (by decide +kernel) rfl) pa_nil))) (pe_one (pe_cmpR (r := rEqD K) (u_eq hr.units) (pe_callB (id := "len") (r := rLenU K) u_len (by rfl) (bi "len" (by decide +kernel)) (by decide +kernel) (pa_cons (pv 0) pa_nil)) (pv 1) (nomark _)))))), ?_⟩
    refine x_ret a (Ed.is (d := .bl (isT d && isTup n d)) (ed_andV (ed_isiT (ed_var rfl) hd.ty) fun hb => ?_) ?_) fun v H' d' hd' a' => hq ⟨d, n, rfl, hd'⟩ a'
    · obtain ⟨es, rfl⟩ := isT_eq hb
      exact Ed.is (ed_op (ed_lenT (ed_var rfl)) (ed_var rfl) (rd_eqI)) rfl
    · cases d <;> rfl
include bi in
theorem ok_is_ascending (F : Fun K "is_ascending" "is_ascending" s_is_ascending f fd) : FnOk P w K mg base CX0 1 f fd ["items"] (sp_is_ascending K) := by
  refine F.ok sc_is_ascending (fun vs H Q E h => ?_) (fun cdv A outer s H vs Q E hr h => ?_)
  · obtain ⟨G, ds, h1, ⟨d, rfl, _⟩, _⟩ := h
    exact h1.length
  · have hu := hu_of hr
    obtain ⟨G, ds, ⟨es, rfl, hl, hk⟩, hlen, a, hq⟩ := fsp_start locT n_is_ascending h
    refine ⟨_, (pss_one (ps_ret (pe_callB (id := "all") (r := rAll K) (cr_all rfl) (by rfl) (bi "all" (by decide +kernel)) (by decide +kernel) (pa_cons (pe_lc (own := [("one", 1), ("other", 2)]) (g := gTup K 2 (gCons (gName 1) (gCons (gName 2) gNil))) (tt := tYes) rfl sc_is_ascending.nd (RZ.pi_zipA (by rfl) (bi "zip" (by decide +kernel)) (pa_cons (pv 0) (pa_cons (pe_slice (r := rSlU K) u_sl (pv 0) (po_some pe_int) po_none) pa_nil))) (blkOk_by (N := n_is_ascending) (sc := defScope s_is_ascending) (by decide +kernel)) (fun _ _ _ _ _ => (pg_tup rfl (pgs_cons (pg_name (i := 1) sc_is_ascending.nd rfl (by first | exact (.inl rfl) | exact (.inr rfl))) (pgs_cons (pg_name (i := 2) sc_is_ascending.nd rfl (by first | exact (.inl rfl) | exact (.inr rfl))) pgs_nil)))) (fun _ _ _ _ _ => pts_nil) (fun _ _ _ _ _ => (pe_cmpR (r := rLtV K) (u_ltV hr.units) (pv 1) (pv 2) (nomark _)))) pa_nil)))), ?_⟩
    refine x_ret a (ed_allF (ed_lc2 (n := es.length - 1) (f := fun i => .tup [es.getD i .non, (es.drop 1).getD i .non]) (x := fun i => es.getD i .non) (y := fun i => es.getD (i + 1) .non) ?_ (fun i hi => ?_) (by decide) (by decide) (by omega) fun i hi cl => ?_)) fun v H' d' hd' a' => hq ⟨es, rfl, hd'⟩ a'
    · rw [show es.length - 1 = min es.length (es.drop 1).length by rw [List.length_drop]; omega]
      exact ei_zipT (ead_cons (ed_var rfl) (ead_cons (Ed.is (ed_slT (ed_var rfl) (eo_some ed_int) eo_none) (by rw [cutD1])) ea_nil))
    · show D.tup [_, _] = _
      rw [getD_drop1]
    · have m1 : es.getD i .non ∈ es := List.mem_of_getElem? (getD_of (by omega))
      have m2 : es.getD (i + 1) .non ∈ es := List.mem_of_getElem? (getD_of (by omega))
      rcases hk with hk | hk | hk
      · obtain ⟨x, hx⟩ := hk _ m1
        obtain ⟨y, hy⟩ := hk _ m2
        rw [hx, hy]
        exact ed_op (ed_var rfl) (ed_var rfl) (rd_ltVU rd_ltI)
      · obtain ⟨x, hx⟩ := hk _ m1
        obtain ⟨y, hy⟩ := hk _ m2
        rw [hx, hy]
        exact ed_op (ed_var rfl) (ed_var rfl) (rd_ltVU rd_ltS)
      · obtain ⟨x, hx⟩ := hk _ m1
        obtain ⟨y, hy⟩ := hk _ m2
        rw [hx, hy]
        exact ed_op (ed_var rfl) (ed_var rfl) rd_ltP
theorem isName_eq {d : D} (h : isName d = true) : ∃ s, d = .str s := by cases d <;> first | exact ⟨_, rfl⟩ | cases h
theorem all_range {n : Nat} {f : Nat → Bool} (h : (List.range n).all f = true) : ∀ i, i < n → f i = true := fun i hi => List.all_eq_true.mp h i (List.mem_range.mpr hi)
theorem getD_all {es : List D} {p : D → Bool} (h : ((List.range es.length).all fun i => p (es.getD i .non)) = true) : ∀ e ∈ es, p e = true := fun e he => by
  obtain ⟨i, hi⟩ := List.mem_iff_getElem?.mp he
  have hl := (List.getElem?_eq_some_iff.mp hi).1
  have := all_range h i hl
  rw [getD_of hl] at hi
  cases hi
  exact this
include bi in
theorem ok_are_names_ascending (F : Fun K "are_names_ascending" "are_names_ascending" s_are_names_ascending f fd) (c_is_name : C8.Cal P w K mg base 1 "is_name" (sp_is_name K) []) (c_is_ascending : C8.Cal P w K mg base 1 "is_ascending" (sp_is_ascending K) []) :
    FnOk P w K mg base CX0 2 f fd ["thing"] (sp_are_names_ascending K) := by
  refine F.ok sc_are_names_ascending (fun vs H Q E h => ?_) (fun cdv A outer s H vs Q E hr h => ?_)
  · obtain ⟨G, ds, h1, ⟨d, rfl, _⟩, _⟩ := h
    exact h1.length
  · have hu := hu_of hr
    obtain ⟨G, ds, ⟨d, rfl, hd⟩, hlen, a, hq⟩ := fsp_start locT n_are_names_ascending h
    refine ⟨_, (pss_one (ps_ret (pe_and (pe_callB (id := "isinstance") (r := rIsi K) call_isi (by rfl) (bi "isinstance" (by decide +kernel)) (by decide +kernel) (pa_cons (pv 0) (pa_cons (pe_bltn (v := .ty "tuple") (u := .type "tuple") (by rfl) (bi "tuple" (by decide +kernel)) (by decide +kernel) rfl) pa_nil))) (pe_and (pe_callB (id := "all") (r := rAll K) (cr_all rfl) (by rfl) (bi "all" (by decide +kernel)) (by decide +kernel) (pa_cons (pe_lc (own := [("item", 1)]) (g := gName 1) (tt := tYes) rfl sc_are_names_ascending.nd (pi_tup (pv 0)) (blkOk_by (N := n_are_names_ascending) (sc := defScope s_are_names_ascending) (by decide +kernel)) (fun _ _ _ _ _ => (pg_name (i := 1) sc_are_names_ascending.nd rfl (by first | exact (.inl rfl) | exact (.inr rfl)))) (fun _ _ _ _ _ => pts_nil) (fun _ _ _ _ _ => (C8.pe_c c_is_name hr (by first | decide | omega) (by rfl) (pa_cons (pv 1) pa_nil)))) pa_nil)) (pe_one (C8.pe_c c_is_ascending hr (by first | decide | omega) (by rfl) (pa_cons (pv 0) pa_nil))))))), ?_⟩
    by_cases ht : isT d = true
    · obtain ⟨es, rfl⟩ := isT_eq ht
      refine x_ret a (ed_andV (b := namesAsc (.tup es)) (ed_isiT (ed_var rfl) hd.ty) fun _ => ed_andV (ed_allF (f := fun i => isName (es.getD i .non)) (ed_lc0 (ei_tup (ed_var rfl)) (by decide) (Nat.le_trans hd.1 (by decide)) fun i hi cl => ed_p (ead_cons (ed_var rfl) ea_nil) ⟨_, rfl, hd.2.all _ (List.mem_of_getElem? (getD_of hi))⟩ (by rintro e ⟨d', e1, rfl⟩; cases e1; rfl))) fun hn => ?_) fun v H' d' hd' a' => hq ⟨_, rfl, hd'⟩ a'
      refine ed_p (ead_cons (ed_var rfl) ea_nil) ⟨es, rfl, hd.1, .inr (.inl fun e he => isName_eq (getD_all hn e he))⟩ (by rintro e ⟨d', e1, rfl⟩; cases e1; rfl)
    · refine x_ret a (Ed.is (ed_andV (b := true) (ed_isiT (ed_var rfl) hd.ty) fun hb => absurd hb ht) ?_) fun v H' d' hd' a' => hq ⟨_, rfl, hd'⟩ a'
      cases d <;> first | rfl | exact absurd rfl ht
include bi in
theorem ok_are_below (F : Fun K "are_below" "are_below" s_are_below f fd) (c_is_below : C8.Cal P w K mg base 2 "is_below" (sp_is_below K) []) :
    FnOk P w K mg base CX0 3 f fd ["thing", "limit"] (sp_are_below K) := by
  refine F.ok sc_are_below (fun vs H Q E h => ?_) (fun cdv A outer s H vs Q E hr h => ?_)
  · obtain ⟨G, ds, h1, ⟨d, n, rfl, _⟩, _⟩ := h
    exact h1.length
  · have hu := hu_of hr
    obtain ⟨G, ds, ⟨d, n, rfl, hd⟩, hlen, a, hq⟩ := fsp_start locT n_are_below h
    refine ⟨_, (pss_one (ps_ret (pe_and (pe_callB (id := "isinstance") (r := rIsi K) call_isi (by rfl) (bi "isinstance" (by decide +kernel)) (by decide +kernel) (pa_cons (pv 0) (pa_cons (pe_bltn (v := .ty "tuple") (u := .type "tuple") (by rfl) (bi "tuple" (by decide +kernel)) (by decide +kernel) rfl) pa_nil))) (pe_one (pe_callB (id := "all") (r := rAll K) (cr_all rfl) (by rfl) (bi "all" (by decide +kernel)) (by decide +kernel) (pa_cons (pe_lc (own := [("item", 2)]) (g := gName 2) (tt := tYes) rfl sc_are_below.nd (pi_tup (pv 0)) (blkOk_by (N := n_are_below) (sc := defScope s_are_below) (by decide +kernel)) (fun _ _ _ _ _ => (pg_name (i := 2) sc_are_below.nd rfl (by first | exact (.inl rfl) | exact (.inr rfl)))) (fun _ _ _ _ _ => pts_nil) (fun _ _ _ _ _ => (C8.pe_c c_is_below hr (by first | decide | omega) (by rfl) (pa_cons (pv 2) (pa_cons (pv 1) pa_nil))))) pa_nil)))))), ?_⟩
    by_cases ht : isT d = true
    · obtain ⟨es, rfl⟩ := isT_eq ht
      exact x_ret a (ed_andV (b := areBelow n (.tup es)) (ed_isiT (ed_var rfl) hd.ty) fun _ => (ed_allF (f := fun i => isBelow n (es.getD i .non)) (ed_lc0 (ei_tup (ed_var rfl)) (by decide) (Nat.le_trans hd.1 (by decide)) fun i hi cl => ed_p (ead_cons (ed_var rfl) (ead_cons (ed_var rfl) ea_nil)) ⟨_, _, rfl, hd.2.all _ (List.mem_of_getElem? (getD_of hi))⟩ (by rintro e ⟨d', n', e1, rfl⟩; cases e1; rfl)))) fun v H' d' hd' a' => hq ⟨_, _, rfl, hd'⟩ a'
    · refine x_ret a (Ed.is (ed_andV (b := true) (ed_isiT (ed_var rfl) hd.ty) fun hb => absurd hb ht) ?_) fun v H' d' hd' a' => hq ⟨_, _, rfl, hd'⟩ a'
      cases d <;> first | rfl | exact absurd rfl ht
theorem isBelow_eq {n : Int} {d : D} (h : isBelow n d = true) : ∃ i, d = .int i := by cases d <;> first | exact ⟨_, rfl⟩ | cases h
theorem ok_are_below_ascending (F : Fun K "are_below_ascending" "are_below_ascending" s_are_below_ascending f fd) (c_are_below : C8.Cal P w K mg base 3 "are_below" (sp_are_below K) []) (c_is_ascending : C8.Cal P w K mg base 1 "is_ascending" (sp_is_ascending K) []) :
    FnOk P w K mg base CX0 4 f fd ["thing", "limit"] (sp_are_below_ascending K) := by
  refine F.ok sc_are_below_ascending (fun vs H Q E h => ?_) (fun cdv A outer s H vs Q E hr h => ?_)
  · obtain ⟨G, ds, h1, ⟨d, n, rfl, _⟩, _⟩ := h
    exact h1.length
  · have hu := hu_of hr
    obtain ⟨G, ds, ⟨d, n, rfl, hd⟩, hlen, a, hq⟩ := fsp_start locT n_are_below_ascending h
    refine ⟨_, (pss_one (ps_ret (pe_and (C8.pe_c c_are_below hr (by first | decide | omega) (by rfl) (pa_cons (pv 0) (pa_cons (pv 1) pa_nil))) (pe_one (C8.pe_c c_is_ascending hr (by first | decide | omega) (by rfl) (pa_cons (pv 0) pa_nil)))))), ?_⟩
    by_cases ht : isT d = true
    · obtain ⟨es, rfl⟩ := isT_eq ht
      refine x_ret a (ed_andV (b := ascD es) (ed_p (ead_cons (ed_var rfl) (ead_cons (ed_var rfl) ea_nil)) ⟨_, _, rfl, hd⟩ (by rintro e ⟨d', n', e1, rfl⟩; cases e1; rfl)) fun hb => ?_) fun v H' d' hd' a' => hq ⟨_, _, rfl, hd'⟩ a'
      exact ed_p (ead_cons (ed_var rfl) ea_nil) ⟨es, rfl, hd.1, .inl fun e he => isBelow_eq (getD_all hb e he)⟩ (by rintro e ⟨d', e1, rfl⟩; cases e1; rfl)
    · refine x_ret a (Ed.is (ed_andV (a := areBelow n d) (b := true) (ed_p (ead_cons (ed_var rfl) (ead_cons (ed_var rfl) ea_nil)) ⟨_, _, rfl, hd⟩ (by rintro e ⟨d', n', e1, rfl⟩; cases e1; rfl)) fun hb => absurd hb ?_) ?_) fun v H' d' hd' a' => hq ⟨_, _, rfl, hd'⟩ a'
      · cases d <;> first | exact absurd rfl ht | exact Bool.false_ne_true
      · cases d <;> first | rfl | exact absurd rfl ht
include bi g_FEWEST_VISITED in
theorem ok_are_clients (F : Fun K "are_clients" "are_clients" s_are_clients f fd) (c_are_below_ascending : C8.Cal P w K mg base 4 "are_below_ascending" (sp_are_below_ascending K) []) :
    FnOk P w K mg base CX0 5 f fd ["clients", "count"] (sp_are_clients K) := by
  refine F.ok sc_are_clients (fun vs H Q E h => ?_) (fun cdv A outer s H vs Q E hr h => ?_)
  · obtain ⟨G, ds, h1, ⟨d, n, rfl, _⟩, _⟩ := h
    exact h1.length
  · have hu := hu_of hr
    obtain ⟨G, ds, ⟨es, n, rfl, hl, hd⟩, hlen, a, hq⟩ := fsp_start locT n_are_clients h
    refine ⟨_, (pss_one (ps_ret (pe_callB (id := "all") (r := rAll K) (cr_all rfl) (by rfl) (bi "all" (by decide +kernel)) (by decide +kernel) (pa_cons (pe_lc (own := [("visited", 2)]) (g := gName 2) (tt := tYes) rfl sc_are_clients.nd (pi_tup (pv 0)) (blkOk_by (N := n_are_clients) (sc := defScope s_are_clients) (by decide +kernel)) (fun _ _ _ _ _ => (pg_name (i := 2) sc_are_clients.nd rfl (by first | exact (.inl rfl) | exact (.inr rfl)))) (fun _ _ _ _ _ => pts_nil) (fun _ _ _ _ _ => (pe_and (C8.pe_c c_are_below_ascending hr (by first | decide | omega) (by rfl) (pa_cons (pv 2) (pa_cons (pv 1) pa_nil))) (pe_one (pe_cmpR u_ge (pe_callB (id := "len") (r := rLenU K) u_len (by rfl) (bi "len" (by decide +kernel)) (by decide +kernel) (pa_cons (pv 2) pa_nil)) (C8.pe_gc (by rfl) g_FEWEST_VISITED) (nomark _)))))) pa_nil)))), ?_⟩
    refine x_ret a (ed_allF (f := fun i => belowAsc n (es.getD i .non) && (match es.getD i .non with | .tup vs => decide (2 ≤ (vs.length : Int)) | _ => false)) (ed_lc0 (ei_tup (ed_var rfl)) (by decide) (Nat.le_trans hl (by decide)) fun i hi cl => ?_)) fun v H' d' hd' a' => hq ⟨_, _, rfl, hd'⟩ a'
    have hs := hd.all _ (List.mem_of_getElem? (getD_of hi))
    refine ed_andV (ed_p (ead_cons (ed_var rfl) (ead_cons (ed_var rfl) ea_nil)) ⟨_, _, rfl, hs⟩ (by rintro e ⟨d', n', e1, rfl⟩; cases e1; rfl)) fun hb => ?_
    have ht : isT (es.getD i .non) = true := by
      revert hb
      cases es.getD i .non <;> intro hb <;> first | rfl | cases hb
    obtain ⟨vs, hvs⟩ := isT_eq ht
    rw [hvs]
    exact ed_op (ed_lenT (ed_var rfl)) ed_int rd_geI
theorem isTup2_eq {d : D} (h : isTup 2 d = true) : ∃ x y, d = .tup [x, y] := by
  cases d with
  | tup ds =>
    have : (ds.length : Int) = 2 := of_decide_eq_true h
    match ds, this with
    | [x, y], _ => exact ⟨x, y, rfl⟩
    | [], h => cases h
    | [x], h => simp at h
    | x :: y :: z :: r, h => simp at h; omega
  | _ => cases h
theorem isPl_no {x y : D} (h : (!isT x || !isT y) = true) : isPl (.tup [x, y]) = false := by
  cases x <;> cases y <;> first | rfl | cases h
theorem isPl_no2 {d : D} (h : isTup 2 d = false) : isPl d = false := by
  cases hp : isPl d with
  | false => rfl
  | true =>
    unfold isPl at hp
    split at hp
    · cases h
    · cases hp
include bi in
theorem ok_is_placement (F : Fun K "is_placement" "is_placement" s_is_placement f fd) (c_is_tuple_of : C8.Cal P w K mg base 1 "is_tuple_of" (sp_is_tuple_of K) []) (c_are_names_ascending : C8.Cal P w K mg base 2 "are_names_ascending" (sp_are_names_ascending K) []) (c_are_clients : C8.Cal P w K mg base 5 "are_clients" (sp_are_clients K) []) :
    FnOk P w K mg base CX0 6 f fd ["thing"] (sp_is_placement K) := by
  refine F.ok sc_is_placement (fun vs H Q E h => ?_) (fun cdv A outer s H vs Q E hr h => ?_)
  · obtain ⟨G, ds, h1, ⟨d, rfl, _⟩, _⟩ := h
    exact h1.length
  · have hu := hu_of hr
    obtain ⟨G, ds, ⟨d, rfl, hd⟩, hlen, a, hq⟩ := fsp_start locT n_is_placement h
    refine ⟨_, (pss_cons (ps_if (pt_not (pt_val (C8.pe_c c_is_tuple_of hr (by first | decide | omega) (by rfl) (pa_cons (pv 0) (pa_cons pe_int pa_nil))))) (pss_one (ps_ret pe_bl)) pss_nil)
      (pss_cons (ps_asg (pv 0) (pg_tup rfl (pgs_cons (pg_name (i := 1) sc_is_placement.nd rfl (by first | exact (.inl rfl) | exact (.inr rfl))) (pgs_cons (pg_name (i := 2) sc_is_placement.nd rfl (by first | exact (.inl rfl) | exact (.inr rfl))) pgs_nil))))
      (pss_cons (ps_if (PW.pt (pw_or (pt_not (pt_val (pe_callB (id := "isinstance") (r := rIsi K) call_isi (by rfl) (bi "isinstance" (by decide +kernel)) (by decide +kernel) (pa_cons (pv 1) (pa_cons (pe_bltn (v := .ty "tuple") (u := .type "tuple") (by rfl) (bi "tuple" (by decide +kernel)) (by decide +kernel) rfl) pa_nil))))) (pw_or1 (pt_not (pt_val (pe_callB (id := "isinstance") (r := rIsi K) call_isi (by rfl) (bi "isinstance" (by decide +kernel)) (by decide +kernel) (pa_cons (pv 2) (pa_cons (pe_bltn (v := .ty "tuple") (u := .type "tuple") (by rfl) (bi "tuple" (by decide +kernel)) (by decide +kernel) rfl) pa_nil)))))))) (pss_one (ps_ret pe_bl)) pss_nil)
      (pss_one (ps_ret (pe_and (pe_callB (id := "all") (r := rAll K) (cr_all rfl) (by rfl) (bi "all" (by decide +kernel)) (by decide +kernel) (pa_cons (pe_lc (own := [("kept", 3)]) (g := gName 3) (tt := tYes) rfl sc_is_placement.nd (pi_tup (pv 1)) (blkOk_by (N := n_is_placement) (sc := defScope s_is_placement) (by decide +kernel)) (fun _ _ _ _ _ => (pg_name (i := 3) sc_is_placement.nd rfl (by first | exact (.inl rfl) | exact (.inr rfl)))) (fun _ _ _ _ _ => pts_nil) (fun _ _ _ _ _ => (C8.pe_c c_are_names_ascending hr (by first | decide | omega) (by rfl) (pa_cons (pv 3) pa_nil)))) pa_nil)) (pe_one (C8.pe_c c_are_clients hr (by first | decide | omega) (by rfl) (pa_cons (pv 2) (pa_cons (pe_callB (id := "len") (r := rLenU K) u_len (by rfl) (bi "len" (by decide +kernel)) (by decide +kernel) (pa_cons (pv 1) pa_nil)) pa_nil)))))))))), ?_⟩
    refine x_seq (x_ifb a (eb_not (eb_B (ed_p (ead_cons (ed_var rfl) (ead_cons ed_int ea_nil)) ⟨_, _, rfl, hd⟩ (by rintro e ⟨d', n', e1, rfl⟩; cases e1; rfl)))) (fun hb H' a' => ?_) fun hb H' a' => x_next ?_)
    · refine x_ret a' ed_bl fun v H2 d' hd' a2 => hq ⟨_, rfl, ?_⟩ a2
      rw [hd', isPl_no2 (by simpa using hb)]
    · obtain ⟨x, y, rfl⟩ := isTup2_eq (by simpa using hb)
      have hx : Sm x := hd.2.1
      have hy : Sm y := hd.2.2.1
      refine x_seq (x_asgG a' (ed_var rfl) gd_tup2 fun σ2 H2 a2 => ?_)
      refine x_seq (x_ifb a2 (eb_or (eb_not (eb_B (ed_isiT (ed_var rfl) hx.ty))) fun _ => eb_not (eb_B (ed_isiT (ed_var rfl) hy.ty))) (fun hb H' a' => ?_) fun hb H' a' => x_next ?_)
      · refine x_ret a' ed_bl fun v H2 d' hd' a2 => hq ⟨_, rfl, ?_⟩ a2
        rw [hd', isPl_no hb]
      · obtain ⟨h1, h2⟩ := and_of hb
        obtain ⟨ss, rfl⟩ := isT_eq h1
        obtain ⟨cs, rfl⟩ := isT_eq h2
        exact x_ret a' (ed_andV (b := areClients ss.length cs) (ed_allF (f := fun i => namesAsc (ss.getD i .non)) (ed_lc0 (ei_tup (ed_var rfl)) (by decide) (Nat.le_trans hx.1 (by decide)) fun i hi cl => ed_p (ead_cons (ed_var rfl) ea_nil) ⟨_, rfl, hx.2.all _ (List.mem_of_getElem? (getD_of hi))⟩ (by rintro e ⟨d', e1, rfl⟩; cases e1; rfl))) fun _ => ed_p (ead_cons (ed_var rfl) (ead_cons (ed_lenT (ed_var rfl)) ea_nil)) ⟨_, _, rfl, hy.1, hy.2⟩ (by rintro e ⟨d', n', e1, rfl⟩; cases e1; rfl)) fun v H2 d' hd' a2 => hq ⟨_, rfl, hd'⟩ a2
end
end Cal


namespace Cal
open PySem PySem.Spec PyProof.Rows L2
abbrev s_count_places : Stmt := topS 6
abbrev n_count_places : List Str := ["placement", "sites", "clients"]
theorem sc_count_places : FnScope n_count_places ["placement"] (defScope s_count_places) := ⟨rfl, rfl, rfl, by decide +kernel, rfl, by decide +kernel, by decide +kernel⟩
abbrev s_kept_at : Stmt := topS 7
abbrev n_kept_at : List Str := ["placement", "place", "sites", "_"]
theorem sc_kept_at : FnScope n_kept_at ["placement", "place"] (defScope s_kept_at) := ⟨rfl, rfl, rfl, by decide +kernel, rfl, by decide +kernel, by decide +kernel⟩
abbrev s_shared_by : Stmt := topS 8
abbrev n_shared_by : List Str := ["placement", "one", "other", "theirs", "register"]
theorem sc_shared_by : FnScope n_shared_by ["placement", "one", "other"] (defScope s_shared_by) := ⟨rfl, rfl, rfl, by decide +kernel, rfl, by decide +kernel, by decide +kernel⟩
abbrev s_all_edges : Stmt := topS 9
abbrev n_all_edges : List Str := ["placement", "sites", "_", "numbers", "one", "other"]
theorem sc_all_edges : FnScope n_all_edges ["placement"] (defScope s_all_edges) := ⟨rfl, rfl, rfl, by decide +kernel, rfl, by decide +kernel, by decide +kernel⟩
abbrev s_check_placement : Stmt := topS 29
abbrev n_check_placement : List Str := ["placement"]
theorem sc_check_placement : FnScope n_check_placement ["placement"] (defScope s_check_placement) := ⟨rfl, rfl, rfl, by decide +kernel, rfl, by decide +kernel, by decide +kernel⟩
/-! ### placements as lists of names and of numbers -/
abbrev tS (k : List Str) : D := .tup (k.map .str)
abbrev tI (v : List Int) : D := .tup (v.map .int)
def plD (ss : List (List Str)) (cs : List (List Int)) : D := .tup [.tup (ss.map tS), .tup (cs.map tI)]
def PlOk (ss : List (List Str)) (cs : List (List Int)) : Prop := isPl (plD ss cs) = true ∧ Sm (plD ss cs)
def keptS (ss : List (List Str)) (p : Int) : List Str := ss.getD p.toNat []
def sharedS (ss : List (List Str)) (a b : Int) : List Str := if a = b then [] else (keptS ss a).filter fun x => decide (x ∈ keptS ss b)
def visitB (ss : List (List Str)) (cs : List (List Int)) (a b : Int) : Bool := decide ((ss.length : Int) ≤ a) && decide (b ∈ cs.getD (a - ss.length).toNat [])
def stepB (ss : List (List Str)) (cs : List (List Int)) (a b : Int) : Bool := !(sharedS ss a b).isEmpty || (visitB ss cs a b || visitB ss cs b a)
def edgesD (ss : List (List Str)) : List D := (List.range ss.length).flatMap fun (a : Nat) => ((List.range ss.length).filter fun (b : Nat) => !(sharedS ss a b).isEmpty).map fun (b : Nat) => .tup [.int a, .int b]
section
variable {P : Program} {w : World} {K : PySem.W.Frag} {mg : Str → Option Value} {base : Heap} {f : Addr} {fd : FuncData}
abbrev BNq : List Str := ["len", "range", "tuple"]
variable (bi : ∀ x, x ∈ BNq → mg x = none)
theorem pl_len {ss : List (List Str)} {cs : List (List Int)} (h : PlOk ss cs) : ss.length ≤ 1000000 ∧ cs.length ≤ 1000000 := by
  obtain ⟨_, _, h1, h2, _⟩ := h
  refine ⟨?_, ?_⟩
  · have := h1.1; rwa [List.length_map] at this
  · have := h2.1; rwa [List.length_map] at this
theorem pl_kept {ss : List (List Str)} {cs : List (List Int)} (h : PlOk ss cs) (p : Int) : (keptS ss p).length ≤ 1000000 := by
  obtain ⟨_, _, h1, _⟩ := h
  unfold keptS
  by_cases hp : p.toNat < ss.length
  · have e : ss[p.toNat]? = some (ss.getD p.toNat []) := by rw [List.getD_eq_getElem?_getD, List.getElem?_eq_getElem hp]; rfl
    have := (h1.2.all (tS (ss.getD p.toNat [])) (List.mem_map.mpr ⟨_, List.mem_of_getElem? e, rfl⟩)).1
    rwa [List.length_map] at this
  · rw [List.getD_eq_getElem?_getD, List.getElem?_eq_none (by omega)]
    exact Nat.zero_le _
abbrev sp_count_places (K : PySem.W.Frag) : Sp := psp K (fun ds => ∃ ss cs, ds = [plD ss cs] ∧ PlOk ss cs) (fun ds e => ∃ ss cs, ds = [plD ss cs] ∧ e = .int (ss.length + cs.length))
abbrev sp_kept_at (K : PySem.W.Frag) : Sp := psp K (fun ds => ∃ ss cs p, ds = [plD ss cs, .int p] ∧ PlOk ss cs ∧ 0 ≤ p) (fun ds e => ∃ ss cs p, ds = [plD ss cs, .int p] ∧ e = tS (keptS ss p))
abbrev sp_is_client (K : PySem.W.Frag) : Sp := psp K (fun ds => ∃ ss cs p, ds = [plD ss cs, .int p]) (fun ds e => ∃ ss cs p, ds = [plD ss cs, .int p] ∧ e = .bl (decide ((ss.length : Int) ≤ p)))
abbrev sp_shared_by (K : PySem.W.Frag) : Sp := psp K (fun ds => ∃ ss cs a b, ds = [plD ss cs, .int a, .int b] ∧ PlOk ss cs ∧ 0 ≤ a ∧ 0 ≤ b) (fun ds e => ∃ ss cs a b, ds = [plD ss cs, .int a, .int b] ∧ e = tS (sharedS ss a b))
abbrev sp_does_visit (K : PySem.W.Frag) : Sp := psp K (fun ds => ∃ ss cs a b, ds = [plD ss cs, .int a, .int b] ∧ PlOk ss cs ∧ 0 ≤ a ∧ a < ss.length + cs.length) (fun ds e => ∃ ss cs a b, ds = [plD ss cs, .int a, .int b] ∧ e = .bl (visitB ss cs a b))
abbrev sp_is_step (K : PySem.W.Frag) : Sp := psp K (fun ds => ∃ ss cs a b, ds = [plD ss cs, .int a, .int b] ∧ PlOk ss cs ∧ (0 ≤ a ∧ a < ss.length + cs.length) ∧ 0 ≤ b ∧ b < ss.length + cs.length) (fun ds e => ∃ ss cs a b, ds = [plD ss cs, .int a, .int b] ∧ e = .bl (stepB ss cs a b))
theorem plD_inj {ss ss' : List (List Str)} {cs cs' : List (List Int)} (h : plD ss cs = plD ss' cs') : ss = ss' ∧ cs = cs' := by
  have str : ∀ {a b : List Str}, a.map D.str = b.map D.str → a = b := fun {a} => by
    induction a with
    | nil => intro b h; cases b with
      | nil => rfl
      | cons y r => simp at h
    | cons x r ih => intro b h; cases b with
      | nil => simp at h
      | cons y r' =>
        rw [List.map_cons, List.map_cons] at h
        injection h with h1 h2
        rw [D.str.inj h1, ih h2]
  have int : ∀ {a b : List Int}, a.map D.int = b.map D.int → a = b := fun {a} => by
    induction a with
    | nil => intro b h; cases b with
      | nil => rfl
      | cons y r => simp at h
    | cons x r ih => intro b h; cases b with
      | nil => simp at h
      | cons y r' =>
        rw [List.map_cons, List.map_cons] at h
        injection h with h1 h2
        rw [D.int.inj h1, ih h2]
  have hS : ∀ {a b : List (List Str)}, a.map tS = b.map tS → a = b := fun {a} => by
    induction a with
    | nil => intro b h; cases b with
      | nil => rfl
      | cons y r => simp at h
    | cons x r ih => intro b h; cases b with
      | nil => simp at h
      | cons y r' =>
        rw [List.map_cons, List.map_cons] at h
        injection h with h1 h2
        rw [str (D.tup.inj h1), ih h2]
  have hI : ∀ {a b : List (List Int)}, a.map tI = b.map tI → a = b := fun {a} => by
    induction a with
    | nil => intro b h; cases b with
      | nil => rfl
      | cons y r => simp at h
    | cons x r ih => intro b h; cases b with
      | nil => simp at h
      | cons y r' =>
        rw [List.map_cons, List.map_cons] at h
        injection h with h1 h2
        rw [int (D.tup.inj h1), ih h2]
  have h' := D.tup.inj h
  injection h' with h1 h2
  injection h2 with h2 _
  exact ⟨hS (D.tup.inj h1), hI (D.tup.inj h2)⟩
abbrev sp_is_place (K : PySem.W.Frag) : Sp := psp K (fun ds => ∃ ss cs d, ds = [plD ss cs, d] ∧ PlOk ss cs ∧ Sm d) (fun ds e => ∃ ss cs d, ds = [plD ss cs, d] ∧ e = .bl (isBelow (ss.length + cs.length) d))
abbrev sp_check_placement (K : PySem.W.Frag) : Sp := psp K (fun ds => ∃ ss cs, ds = [plD ss cs] ∧ PlOk ss cs) (fun ds e => e = .non)
abbrev sp_check_place (K : PySem.W.Frag) : Sp := psp K (fun ds => ∃ ss cs p, ds = [plD ss cs, .int p] ∧ PlOk ss cs ∧ (0 ≤ p ∧ p < ss.length + cs.length) ∧ p < 2000000) (fun ds e => e = .non)
theorem plD_one {ss ss' : List (List Str)} {cs cs' : List (List Int)} {a a' : Int} (h : [plD ss cs, .int a] = [plD ss' cs', .int a']) : ss = ss' ∧ cs = cs' ∧ a = a' := by
  injection h with h1 h2
  injection h2 with h2 _
  exact ⟨(plD_inj h1).1, (plD_inj h1).2, D.int.inj h2⟩
theorem plD_zero {ss ss' : List (List Str)} {cs cs' : List (List Int)} (h : [plD ss cs] = [plD ss' cs']) : ss = ss' ∧ cs = cs' := by
  injection h with h1 _
  exact plD_inj h1
include bi in
theorem ok_count_places (F : Fun K "count_places" "count_places" s_count_places f fd) : FnOk P w K mg base CX0 1 f fd ["placement"] (sp_count_places K) := by
  refine F.ok sc_count_places (fun vs H Q E h => ?_) (fun cdv A outer s H vs Q E hr h => ?_)
  · obtain ⟨G, ds, h1, ⟨ss, cs, rfl, _⟩, _⟩ := h
    exact h1.length
  · have hu := hu_of hr
    obtain ⟨G, ds, ⟨ss, cs, rfl, hp⟩, hlen, a, hq⟩ := fsp_start locT n_count_places h
    refine ⟨_, (pss_cons (ps_asg (pv 0) (pg_tup rfl (pgs_cons (pg_name (i := 1) sc_count_places.nd rfl (by first | exact (.inl rfl) | exact (.inr rfl))) (pgs_cons (pg_name (i := 2) sc_count_places.nd rfl (by first | exact (.inl rfl) | exact (.inr rfl))) pgs_nil))))
      (pss_one (ps_ret (pe_op (r := rAddU K) u_add (pe_callB (id := "len") (r := rLenU K) u_len (by rfl) (bi "len" (by decide +kernel)) (by decide +kernel) (pa_cons (pv 1) pa_nil)) (pe_callB (id := "len") (r := rLenU K) u_len (by rfl) (bi "len" (by decide +kernel)) (by decide +kernel) (pa_cons (pv 2) pa_nil)))))), ?_⟩
    refine y_asgG a (ed_var rfl) gd_tup2 fun σ1 H1 a1 => ?_
    refine x_ret a1 (ed_op (ed_lenT (ed_var rfl)) (ed_lenT (ed_var rfl)) rd_addI) fun v H' d hd a' => hq ⟨ss, cs, rfl, ?_⟩ a'
    rw [hd, List.length_map, List.length_map]
include bi in
theorem ok_kept_at (F : Fun K "kept_at" "kept_at" s_kept_at f fd) : FnOk P w K mg base CX0 1 f fd ["placement", "place"] (sp_kept_at K) := by
  refine F.ok sc_kept_at (fun vs H Q E h => ?_) (fun cdv A outer s H vs Q E hr h => ?_)
  · obtain ⟨G, ds, h1, ⟨ss, cs, p, rfl, _⟩, _⟩ := h
    exact h1.length
  · have hu := hu_of hr
    obtain ⟨G, ds, ⟨ss, cs, p, rfl, hp, h0⟩, hlen, a, hq⟩ := fsp_start locT n_kept_at h
    refine ⟨_, (pss_cons (ps_asg (pv 0) (pg_tup rfl (pgs_cons (pg_name (i := 2) sc_kept_at.nd rfl (by first | exact (.inl rfl) | exact (.inr rfl))) (pgs_cons (pg_name (i := 3) sc_kept_at.nd rfl (by first | exact (.inl rfl) | exact (.inr rfl))) pgs_nil))))
      (pss_one (ps_ret (pe_ifExp (pt_cmpR u_lt (pv 1) (pe_callB (id := "len") (r := rLenU K) u_len (by rfl) (bi "len" (by decide +kernel)) (by decide +kernel) (pa_cons (pv 2) pa_nil)) (nomark _)) (pe_ix (r := rIx K) ix_seq (pv 2) (pv 1) (fun _ _ => rfl)) (pe_tup pa_nil))))), ?_⟩
    refine y_asgG a (ed_var rfl) gd_tup2 fun σ1 H1 a1 => ?_
    refine x_ret a1 (ed_if (d := tS (keptS ss p)) (eb_test (ed_op (ed_var rfl) (ed_lenT (ed_var rfl)) rd_ltI)) (fun hb => ?_) fun hb => ?_) fun v H' d hd a' => hq ⟨ss, cs, p, rfl, hd⟩ a'
    · have hb' := of_decide_eq_true hb
      rw [List.length_map] at hb'
      have hl : p.toNat < ss.length := by omega
      refine ed_op (ed_var rfl) (ed_var rfl) (rd_ixT ?_)
      unfold atI ixN keptS
      rw [if_pos h0, List.length_map, if_pos (by omega), List.getD_eq_getElem?_getD]
      show (ss.map tS)[p.toNat]? = _
      rw [List.getElem?_map, List.getElem?_eq_getElem hl]; rfl
    · have hb' := of_decide_eq_false hb
      rw [List.length_map] at hb'
      refine Ed.is (ed_tup ea_nil (by decide)) ?_
      unfold keptS
      rw [List.getD_eq_getElem?_getD, List.getElem?_eq_none (by omega)]; rfl
include bi in
theorem ok_shared_by (F : Fun K "shared_by" "shared_by" s_shared_by f fd) (c_kept_at : C8.Cal P w K mg base 1 "kept_at" (sp_kept_at K) []) : FnOk P w K mg base CX0 2 f fd ["placement", "one", "other"] (sp_shared_by K) := by
  refine F.ok sc_shared_by (fun vs H Q E h => ?_) (fun cdv A outer s H vs Q E hr h => ?_)
  · obtain ⟨G, ds, h1, ⟨ss, cs, x, y, rfl, _⟩, _⟩ := h
    exact h1.length
  · have hu := hu_of hr
    obtain ⟨G, ds, ⟨ss, cs, x, y, rfl, hp, hx, hy⟩, hlen, a, hq⟩ := fsp_start locT n_shared_by h
    refine ⟨_, (pss_cons (ps_if (pt_cmpR (r := rEqD K) (u_eq hr.units) (pv 1) (pv 2) (nomark _)) (pss_one (ps_ret (pe_tup pa_nil))) pss_nil)
      (pss_cons (ps_asg (C8.pe_c c_kept_at hr (by first | decide | omega) (by rfl) (pa_cons (pv 0) (pa_cons (pv 2) pa_nil))) (pg_name (i := 3) sc_shared_by.nd rfl (by first | exact (.inl rfl) | exact (.inr rfl))))
      (pss_one (ps_ret (pe_callTy (T := "tuple") (r := rTupOf K) u_tuple (by rfl) (bi "tuple" (by decide +kernel)) (by decide +kernel) (pa_cons (pe_lc (own := [("register", 4)]) (g := gName 4) rfl sc_shared_by.nd (pi_tup (C8.pe_c c_kept_at hr (by first | decide | omega) (by rfl) (pa_cons (pv 0) (pa_cons (pv 1) pa_nil)))) (blkOk_by (N := n_shared_by) (sc := defScope s_shared_by) (by decide +kernel)) (fun _ _ _ _ _ => (pg_name (i := 4) sc_shared_by.nd rfl (by first | exact (.inl rfl) | exact (.inr rfl)))) (fun _ _ _ _ _ => (pts_one (pt_cmpR (r := rIn K false) op_in_seq (pv 4) (pv 3) (by rfl)))) (fun _ _ _ _ _ => (pv 4))) pa_nil)))))), ?_⟩
    have kept : ∀ {B : Bs} {ρ : Ro} {μ : Mu} {i j : Nat} {p : Int} {E : XK}, B.K = K → 0 ≤ p → ρ[i]? = some (some (plD ss cs)) → ρ[j]? = some (some (.int p)) → Ed B (tCall (psp B.K (fun ds => ∃ ss cs p, ds = [plD ss cs, .int p] ∧ PlOk ss cs ∧ 0 ≤ p) (fun ds e => ∃ ss cs p, ds = [plD ss cs, .int p] ∧ e = tS (keptS ss p))) [] E (tCons (tVar i) (tCons (tVar j) tNil))) ρ μ (tS (keptS ss p)) := fun hK h0 h1 h2 => ed_p (ead_cons (ed_var h1) (ead_cons (ed_var h2) ea_nil)) ⟨_, _, _, rfl, hp, h0⟩ (by
      rintro e ⟨ss', cs', p', e1, rfl⟩
      injection e1 with e2 e3
      injection e3 with e3 _
      rw [(plD_inj e2).1, D.int.inj e3])
    refine y_ifb a (eb_test (ed_op (ed_var rfl) (ed_var rfl) rd_eqI)) (fun hb H1 a1 => ?_) fun hb H1 a1 => ?_
    · refine x_ret a1 (ed_tup ea_nil (by decide)) fun v H' d hd a' => hq ⟨ss, cs, x, y, rfl, ?_⟩ a'
      rw [hd]
      unfold sharedS
      rw [if_pos (of_decide_eq_true hb)]; rfl
    · refine y_set a1 (kept rfl hy rfl rfl) fun σ2 H2 a2 => ?_
      refine x_ret a2 (ed_tupL (ed_lcT (n := (keptS ss x).length) (f := fun i => ((keptS ss x).map D.str).getD i .non) (h := fun i => .str ((keptS ss x).getD i "")) (fun i => decide ((keptS ss x).getD i "" ∈ keptS ss y)) ?_ (by decide) (pl_kept hp x) (fun i hi cl => ?_) fun i hi _ cl => ?_)) fun v H' d hd a' => hq ⟨ss, cs, x, y, rfl, ?_⟩ a'
      · have := ei_tup (B := ⟨K, fun _ => True, [], locT, G, H⟩) (kept (B := ⟨K, fun _ => True, [], locT, G, H⟩) (μ := []) (E := C8.E0) rfl hx (ρ := [some (plD ss cs), some (.int x), some (.int y), some (tS (keptS ss y)), none]) (i := 0) (j := 1) rfl rfl)
        rw [List.length_map] at this
        exact this
      · have e : ((keptS ss x).map D.str).getD i .non = .str ((keptS ss x).getD i "") := by
          rw [List.getD_eq_getElem?_getD, List.getElem?_map, List.getElem?_eq_getElem hi, List.getD_eq_getElem?_getD, List.getElem?_eq_getElem hi]; rfl
        rw [e]
        exact eb_test (ed_op (ed_var rfl) (ed_var rfl) rd_inS)
      · have e : ((keptS ss x).map D.str).getD i .non = .str ((keptS ss x).getD i "") := by
          rw [List.getD_eq_getElem?_getD, List.getElem?_map, List.getElem?_eq_getElem hi, List.getD_eq_getElem?_getD, List.getElem?_eq_getElem hi]; rfl
        rw [e]
        exact ed_var rfl
      · rw [hd]
        unfold sharedS
        rw [if_neg (of_decide_eq_false hb)]
        have e : ∀ l : List Str, ((List.range l.length).filter fun i => decide (l.getD i "" ∈ keptS ss y)).map (fun i => D.str (l.getD i "")) = (l.filter fun z => decide (z ∈ keptS ss y)).map D.str := fun l => by
          have e1 : (List.range l.length).map (fun i => l.getD i "") = l := by
            refine List.ext_getElem? fun i => ?_
            rw [List.getElem?_map]
            by_cases hi : i < l.length
            · rw [List.getElem?_range hi, List.getElem?_eq_getElem hi]
              show some (l.getD i "") = _
              rw [List.getD_eq_getElem?_getD, List.getElem?_eq_getElem hi]; rfl
            · rw [List.getElem?_eq_none (by simpa using hi), List.getElem?_eq_none (by simpa using hi)]; rfl
          conv => rhs; rw [← e1]
          rw [List.filter_map, List.map_map]; rfl
        rw [e]
theorem plD_two {ss ss' : List (List Str)} {cs cs' : List (List Int)} {a b a' b' : Int} (h : [plD ss cs, .int a, .int b] = [plD ss' cs', .int a', .int b']) : ss = ss' ∧ cs = cs' ∧ a = a' ∧ b = b' := by
  injection h with h1 h2
  injection h2 with h2 h3
  injection h3 with h3 _
  exact ⟨(plD_inj h1).1, (plD_inj h1).2, D.int.inj h2, D.int.inj h3⟩
theorem plD_one0 {ss ss' : List (List Str)} {cs cs' : List (List Int)} {a a' : Int} (h : [plD ss cs, .int a] = [plD ss' cs', .int a']) : ss = ss' ∧ cs = cs' ∧ a = a' := by
  injection h with h1 h2
  injection h2 with h2 _
  exact ⟨(plD_inj h1).1, (plD_inj h1).2, D.int.inj h2⟩
include bi in
theorem ok_check_placement (F : Fun K "check_placement" "check_placement" s_check_placement f fd) (c_is_placement : C8.Cal P w K mg base 6 "is_placement" (sp_is_placement K) []) : FnOk P w K mg base CX0 7 f fd ["placement"] (sp_check_placement K) := by
  refine F.ok sc_check_placement (fun vs H Q E h => ?_) (fun cdv A outer s H vs Q E hr h => ?_)
  · obtain ⟨G, ds, h1, ⟨ss, cs, rfl, _⟩, _⟩ := h
    exact h1.length
  · have hu := hu_of hr
    obtain ⟨G, ds, ⟨ss, cs, rfl, hp⟩, hlen, a, hq⟩ := fsp_start locT n_check_placement h
    refine ⟨_, (pss_one (ps_if (pt_not (pt_val (C8.pe_c c_is_placement hr (by first | decide | omega) (by rfl) (pa_cons (pv 0) pa_nil)))) (pss_one ps_nv) pss_nil)), ?_⟩
    refine x_ifb a (eb_not (eb_B (ed_p (d := .bl (isPl (plD ss cs))) (ead_cons (ed_var rfl) ea_nil) ⟨_, rfl, hp.2⟩ (by rintro e ⟨d', e1, rfl⟩; injection e1 with e1 _; rw [e1])))) (fun hb H1 a1 => ?_) fun hb H1 a1 => x_next (hq rfl (At.flat a1 fun _ => rfl))
    rw [hp.1] at hb; cases hb
abbrev sp_all_edges (K : PySem.W.Frag) : Sp := psp K (fun ds => ∃ ss cs, ds = [plD ss cs] ∧ PlOk ss cs ∧ ss.length ≤ 900) (fun ds e => ∃ ss cs, ds = [plD ss cs] ∧ e = .tup (edgesD ss))
include bi in
theorem ok_all_edges (F : Fun K "all_edges" "all_edges" s_all_edges f fd) (c_shared_by : C8.Cal P w K mg base 2 "shared_by" (sp_shared_by K) []) : FnOk P w K mg base CX0 3 f fd ["placement"] (sp_all_edges K) := by
  refine F.ok sc_all_edges (fun vs H Q E h => ?_) (fun cdv A outer s H vs Q E hr h => ?_)
  · obtain ⟨G, ds, h1, ⟨ss, cs, rfl, _⟩, _⟩ := h
    exact h1.length
  · have hu := hu_of hr
    obtain ⟨G, ds, ⟨ss, cs, rfl, hp, hl⟩, hlen, a, hq⟩ := fsp_start locT n_all_edges h
    refine ⟨_, (pss_cons (ps_asg (pv 0) (pg_tup rfl (pgs_cons (pg_name (i := 1) sc_all_edges.nd rfl (by first | exact (.inl rfl) | exact (.inr rfl))) (pgs_cons (pg_name (i := 2) sc_all_edges.nd rfl (by first | exact (.inl rfl) | exact (.inr rfl))) pgs_nil))))
      (pss_cons (ps_asg (pe_callTy (T := "range") cr_range1 (by rfl) (bi "range" (by decide +kernel)) (by decide +kernel) (pa_cons (pe_callB (id := "len") (r := rLenU K) u_len (by rfl) (bi "len" (by decide +kernel)) (by decide +kernel) (pa_cons (pv 1) pa_nil)) pa_nil)) (pg_name (i := 3) sc_all_edges.nd rfl (by first | exact (.inl rfl) | exact (.inr rfl))))
      (pss_one (ps_ret (pe_callTy (T := "tuple") (r := rTupOf K) u_tuple (by rfl) (bi "tuple" (by decide +kernel)) (by decide +kernel) (pa_cons (pe_lc2 (own := [("one", 4), ("other", 5)]) (vs1 := [5]) (g := gName 4) (g1 := gName 5) (tt := tYes) rfl sc_all_edges.nd (pi_rngV (pv 3)) (blkOk_by (N := n_all_edges) (sc := defScope s_all_edges) (by decide +kernel)) (by decide) (fun _ _ _ _ _ => (pg_name (i := 4) sc_all_edges.nd rfl (by first | exact (.inl rfl) | exact (.inr rfl)))) (fun _ _ _ _ _ => pts_nil) (fun _ _ _ _ _ => (pi_rngV (pv 3))) (fun _ _ _ _ _ => (pg_name (i := 5) sc_all_edges.nd rfl (by first | exact (.inl rfl) | exact (.inr rfl)))) (fun _ _ _ _ _ => (pts_one (pt_truK (K := K) (by rfl) (C8.pe_c c_shared_by hr (by first | decide | omega) (by rfl) (pa_cons (pv 0) (pa_cons (pv 4) (pa_cons (pv 5) pa_nil))))))) (fun _ _ _ _ _ => (pe_tup (pa_cons (pv 4) (pa_cons (pv 5) pa_nil))))) pa_nil)))))), ?_⟩
    refine y_asgG a (ed_var rfl) gd_tup2 fun σ1 H1 a1 => ?_
    refine y_asg a1 (xv_rng (Ed.is (ed_lenT (ed_var rfl)) (by rw [List.length_map]))) fun d μ2 σ2 H2 hd a2 => ?_
    obtain ⟨p, rfl, rfl⟩ := hd
    have en : ((ss.length : Int) - 0).toNat = ss.length := by omega
    have zi : ∀ k : Nat, (0 : Int) + (k : Int) = k := fun k => Int.zero_add _
    refine x_ret a2 (ed_tupL (ed_lc2x (n := ((ss.length : Int) - 0).toNat) (m := fun _ => ((ss.length : Int) - 0).toNat) (f := fun i => .int (0 + i)) (f1 := fun _ j => .int (0 + j)) (h := fun i j => .tup [.int (0 + i), .int (0 + j)]) (js := [4]) (js1 := [5]) (ei_rngV (k := 0) (ed_var rfl) rfl ⟨by omega, by omega, by omega, by omega⟩)
      (fun i => (wipeR [some (plD ss cs), some (.tup (ss.map tS)), some (.tup (cs.map tI)), some (.raw (.ref p)), none, none] [4, 5]).set 4 (some (.int (0 + i)))) (fun i j => (wipeR ((wipeR [some (plD ss cs), some (.tup (ss.map tS)), some (.tup (cs.map tI)), some (.raw (.ref p)), none, none] [4, 5]).set 4 (some (.int (0 + i)))) [5]).set 5 (some (.int (0 + j)))) (by decide) (by decide) (fun i j => !(sharedS ss (0 + i) (0 + j)).isEmpty)
      (fun i _ cl => gd_name 4) (fun i _ cl => ei_rngV (k := 1) (ed_var rfl) rfl ⟨by omega, by omega, by omega, by omega⟩) (fun i _ j _ cl => gd_name 5) (fun i hi j hj cl => ?_) (fun i hi j hj _ cl => ed_tup (ead_cons (ed_var rfl) (ead_cons (ed_var rfl) ea_nil)) (by show 2 ≤ _; decide)) fun i hi => ?_)) fun v H' d hd a' => hq ⟨ss, cs, rfl, ?_⟩ a'
    · have em : (!((sharedS ss (0 + i) (0 + j)).map D.str).isEmpty) = !(sharedS ss (0 + i) (0 + j)).isEmpty := by rw [List.isEmpty_map]
      rw [← em]
      exact eb_truT (ed_p (d := tS (sharedS ss (0 + i) (0 + j))) (ead_cons (ed_var rfl) (ead_cons (ed_var rfl) (ead_cons (ed_var rfl) ea_nil))) ⟨_, _, _, _, rfl, hp, by omega, by omega⟩ (by
        rintro e ⟨ss', cs', a', b', e1, rfl⟩
        obtain ⟨rfl, rfl, rfl, rfl⟩ := plD_two e1; rfl))
    · rw [List.length_flatMap]
      have : ∀ l : List Nat, (l.map fun i : Nat => (((List.range ((ss.length : Int) - 0).toNat).filter fun (j : Nat) => !(sharedS ss (0 + (i : Int)) (0 + (j : Int))).isEmpty).map fun (j : Nat) => (D.tup [.int (0 + (i : Int)), .int (0 + (j : Int))])).length).sum ≤ l.length * 900 := fun l => by
        induction l with
        | nil => exact Nat.zero_le _
        | cons x r ih =>
          rw [List.map_cons, List.sum_cons, List.length_cons, Nat.succ_mul, List.length_map]
          have := List.length_filter_le (fun (j : Nat) => !(sharedS ss (0 + (x : Int)) (0 + (j : Int))).isEmpty) (List.range ((ss.length : Int) - 0).toNat)
          rw [List.length_range] at this
          omega
      have h1 := this (List.range i)
      rw [List.length_range] at h1
      have h2 : i * 900 ≤ 900 * 900 := Nat.mul_le_mul_right 900 (by omega)
      exact Nat.le_trans h1 (Nat.le_trans h2 (by decide))
    · rw [hd]
      unfold edgesD
      rw [en]
      simp only [zi]
end
end Cal


namespace Cal
open PySem PySem.Spec PyProof.Rows L2
/-! ### enumerate of a tuple -/
theorem enumT_new (t : Addr) (its : Array Value) (n : Nat) (dd : Option Addr) (sl : Array (Option Value)) : Meets (Builtin.«enumerate.__new__» ⟨[.type "enumerate", .ref t], []⟩) fun _ R s => s.heap.get? t = some { cls := .type "tuple", dict := dd, data := .seq its n, slots := sl } ∧ R (.ok (.ret (.ref (s.heap.push { cls := .type "tuple_iterator", data := .fields #[.ref t, .int 0 0] }).objs.size))) { s with heap := (s.heap.push { cls := .type "tuple_iterator", data := .fields #[.ref t, .int 0 0] }).push { cls := .type "enumerate", data := .fields #[.none, .bool false, .ref s.heap.objs.size, rawInt 0, .none, .none] } } :=
  .of_wp fun prog w A R s hh => by
    obtain ⟨hp, g, d, tk, os⟩ := s
    obtain ⟨ht, hr⟩ := hh
    have su := sub_enumerate
    have hT : Heap.IsTuple (Shared.heap ⟨hp, g, d, tk, os⟩) t its := ⟨_, ht, rfl, n, rfl⟩
    (wp_walk using AutoSeq1.wpAny_loadPart' ht); refine wpAny_stack_any fun z => wpAny_pure ?_
    split
    · rename_i c _ _ _ _ _
      cases (c == Value.type "enumerate") <;> (wp_walk using AutoSeq1.wpAny_loadPart' ht, wpAny_pyIter_tuple hT; exact ⟨_, rfl, hr⟩)
    · (wp_walk using AutoSeq1.wpAny_loadPart' ht, wpAny_pyIter_tuple hT); exact ⟨_, rfl, hr⟩
section
variable {prog : Program} {w : World} {A : Around} {E : Value → Shared → Prop} {s : Shared}
theorem call_enumT {t : Addr} {its : Array Value} {Q : Value → Shared → Prop} (hT : s.heap.IsTuple t its)
    (h : ∀ h', IsEnum h' (s.heap.objs.size + 1) s.heap.objs.size 0 .none → h'.IsTupleIter s.heap.objs.size t 0 → (∀ b o, s.heap.get? b = some o → h'.get? b = some o) → Q (.ref (s.heap.objs.size + 1)) { s with heap := h' }) : wpAny (model prog w) A (call (.type "enumerate") [.ref t]) Q E s := by
  obtain ⟨⟨c, dd, dt, sl⟩, ht, hc, n, hd⟩ := hT
  obtain rfl : c = .type "tuple" := hc
  obtain rfl : dt = .seq its n := hd
  refine callType_new F.called_enumerate (by decide) (F.typeCall_enumerate_1 _) (F.newCall_enumerate_1 _) (fun ob => F.args_object_init_2 ob _) F.entry_enumerate_new (enumT_new t its n dd sl) ⟨ht, ?_⟩
  have z1 : (s.heap.push { cls := .type "tuple_iterator", data := .fields #[.ref t, .int 0 0] }).objs.size = s.heap.objs.size + 1 := Heap.size_push ..
  have z2 := Heap.get?_push_size (s.heap.push { cls := .type "tuple_iterator", data := .fields #[.ref t, .int 0 0] }) (o := { cls := .type "enumerate", data := .fields #[.none, .bool false, .ref s.heap.objs.size, rawInt 0, .none, .none] }) rfl
  rw [z1] at z2
  show _ ∧ _
  rw [z1]
  exact ⟨⟨_, z2, rfl⟩, h _ z2 ⟨_, Heap.get?_push_of_some _ (Heap.get?_push_size _ rfl), rfl, rfl⟩ fun b o y => Heap.get?_push_of_some _ (Heap.get?_push_of_some _ y)⟩
end
def ItE (K : PySem.W.Frag) (a : Addr) : It :=
  ⟨fun i H => ∃ (xs : List V) (x : V), SqT K H a xs ∧ xs[i]? = some x, fun i H v H' => ∃ T x, v = .ref T ∧ H T = none ∧ H' = upd H T (.tup [.int (i : Nat), x]) ∧ ∀ xs, SqT K H a xs → xs[i]? = some x, fun i H => ∃ xs : List V, SqT K H a xs ∧ xs.length ≤ i⟩
theorem tup_ne {h : Heap} {e it a : Addr} {c : Int} {old : Value} {its : Array Value} (he : IsEnum h e it c old) (ht : h.IsTuple a its) : a ≠ e := fun z => by
  obtain ⟨o, ho, hc, _⟩ := ht
  rw [z, he] at ho
  cases ho
  exact absurd hc (by simp)
theorem titer_ne {h : Heap} {it a b : Addr} {i : Nat} {its : Array Value} (hi : h.IsTupleIter it b i) (ht : h.IsTuple a its) : a ≠ it := fun z => by
  obtain ⟨o, ho, hc, _⟩ := ht
  obtain ⟨o2, ho2, hc2, _⟩ := hi
  rw [z, ho2] at ho
  cases ho
  rw [hc2] at hc
  exact absurd hc (by simp)
theorem turn_enumT {P : Program} {w : World} {K : PySem.W.Frag} {elts : List Expr} {kk : Nat} {tpos : Pos} (a e it : Addr) : Turn P w K (.Tuple elts kk tpos) (ItE K a) [e, it] e (fun i h => (∃ old, IsEnum h e it ((i : Nat) : Int) old) ∧ h.IsTupleIter it a i ∧ e ≠ it) where
  mem := by simp
  obj := fun i h st b hb => by
    obtain ⟨⟨old, he⟩, ⟨o, ho, hc, hd⟩, _⟩ := st
    rcases (show b = e ∨ b = it by simpa using hb) with z | z
    · rw [z]; exact ⟨_, he, fun v q => nomatch q⟩
    · rw [z]; exact ⟨o, ho, fun v q => by rw [hd] at q; cases q⟩
  keep := fun i h h' st k => by
    obtain ⟨⟨old, he⟩, hi, hne⟩ := st
    exact ⟨⟨old, k e (by simp) _ he⟩, hi.at fun o q => k it (by simp) o q, hne⟩
  item := by
    intro X hP hw hK hc i pins s σ H E I hf st hg
    subst hP hw hK
    obtain ⟨⟨old, he⟩, hit, hne⟩ := st
    obtain ⟨xs, x, hq, hx⟩ := hg
    obtain ⟨its, rv, p, hz⟩ := I.tuple hq
    obtain ⟨u, hu, ru⟩ := rv.get hx
    have pT : s.heap.IsTuple a its.toArray := p
    have la : e < s.heap.objs.size := Heap.lt_size he
    have lb : it < s.heap.objs.size := hit.elim fun _ q => Heap.lt_size q.1
    have hlt : i < its.toArray.size := by
      have := (List.getElem?_eq_some_iff.mp hu).1
      simpa using this
    refine wpAny_pyNext_enum_itemD (fp := [it, a]) (Draws.tuple (A := X.A.in1) (I.ok.hd hc) it a (titer_ne hit pT) its.toArray) he ⟨hit, pT⟩ hlt hne (by simp [hne, (tup_ne he pT).symm]) fun y h' tk hy ho hst hT hsz hk => ?_
    have ey : y = u := by
      have : its.toArray[i]? = some u := by simpa using hu
      rw [this] at hy
      exact (Option.some.inj hy).symm
    subst ey
    refine ⟨_, rfl, wpAny_letOwnedTupleGo_enum (s := { s with heap := h', toks := tk + 1 }) ho fun h2 he2 sb => ?_⟩
    have t2 : h2.get? s.heap.objs.size = some { cls := .type "tuple", data := .seq #[.int i tk, y] } := (sb.2 _ (Nat.ne_of_gt la)).trans hT
    have nw : ObjOk X.prog X.w (upd H s.heap.objs.size (.tup [.int (i : Nat), x])) h2 s.heap.objs.size (.tup [.int (i : Nat), x]) := ⟨by show 2 ≤ sizeLine; decide, [.int i tk, y], .cons ⟨_, rfl⟩ (.cons ru .nil), ⟨_, t2, rfl, _, rfl⟩⟩
    have I1 : Inv X pins σ (upd H s.heap.objs.size (.tup [.int (i : Nat), x])) { s with heap := h2, toks := tk + 1 } := I.turnedNew (ch := [e, it]) (fun b ob hb q => (sb.2 b (fun z => hb (by simp [z]))).trans (hk b ob (fun z => hb (by simp [z])) (fun z => hb (by simp [z])) q)) hf (Nat.le_refl _) nw
    refine ⟨.ref s.heap.objs.size, _, I1, rfl, ⟨_, x, rfl, I.hok.fresh (Nat.le_refl _), rfl, fun ys hy => by rw [I.tuple_inj hy hq]; exact hx⟩, ⟨⟨y, ?_⟩, hst.1.at fun o q => (sb.2 it (Ne.symm hne)).trans q, hne⟩, fun b hb => ?_⟩
    · rw [show ((i + 1 : Nat) : Int) = (i : Int) + 1 by omega]; exact he2
    · have lt : b < s.heap.objs.size := by
        rcases (show b = e ∨ b = it by simpa using hb) with z | z <;> rw [z] <;> assumption
      rw [upd_ne (Nat.ne_of_lt lt)]; exact (hf b hb).1
  done := by
    intro X hP hw hK hc i pins s σ H E I hf st hg
    subst hP hw hK
    obtain ⟨⟨old, he⟩, hit, hne⟩ := st
    obtain ⟨xs, hq, hx⟩ := hg
    obtain ⟨its, rv, p, hz⟩ := I.tuple hq
    have pT : s.heap.IsTuple a its.toArray := p
    have hl := rv.length
    have hn : its.toArray[i]? = none := by
      rw [List.getElem?_toArray]
      exact List.getElem?_eq_none (by omega)
    obtain ⟨f0, f1, f2, f3, f4, f5⟩ := hf it (by simp)
    have D : Draws X.prog X.w X.A.in1 it [it, a] i (fun _ _ => True) (fun j h => j = i ∧ h.IsTupleIter it a i ∧ h.IsTuple a its.toArray) :=
      ⟨fun _ _ st => st.2.1.elim fun o q => ⟨o, q.1⟩, fun _ _ _ st hk => ⟨st.1, st.2.1.at fun o q => hk it (by simp) o q, st.2.2.at fun o q => hk a (by simp) o q⟩, fun j s Q E hj st _ => absurd st.1 (Nat.ne_of_lt hj), fun s Q E st hE => wpAny_nextOf_tuple_end (I.ok.hd hc) st.2.1 st.2.2 hn hE⟩
    exact wpAny_pyNext_enum_endD D he ⟨rfl, hit, pT⟩ fun h' eb => ⟨rfl, I.turned (t' := s.toks) (fun b o hb q => eb b o hb q) f0 f1 f3 f4 f5⟩
  self := fun A i s Q E st h => let ⟨⟨_, he⟩, _⟩ := st; wpAny_pyIter_enum he h
def iEnumT (K : PySem.W.Frag) (ta : TA) : TI := fun σ H R => ta σ H fun vs H1 => ∃ a xs, vs = [.ref a] ∧ SqT K H1 a xs ∧ R (ItE K a) H1
theorem pi_enumT {X : Cx} {e : Expr} {ta : TA} {p pos tpos : Pos} {elts : List Expr} {kk : Nat} (hg : Gl X "enumerate") (hm : X.mg "enumerate" = none) (ha : PA X [e] ta) (hs : starEach [e] X.env = [(false, eval e X.env)] := by rfl) : PI X (.Tuple elts kk tpos) (.Call (.Name "enumerate" p) [e] [] pos) (iEnumT X.K ta) := by
  refine ⟨fun pins s σ H R I h => Call_ (ld_blt I hg hm boot_enumerate (PyProof.Rows.callWith_type1 (thn (ha.run pos pins s σ H _ I h) fun us s1 ⟨vs, H1, I1, r1, q1⟩ => ?_) hs rfl))⟩
  obtain ⟨a, xs, rfl, hq, q⟩ := q1
  obtain ⟨u, rfl, rx⟩ := vals1 r1
  cases rx
  obtain ⟨its, rv, pt, hz⟩ := I1.tuple hq
  refine call_enumT (show s1.heap.IsTuple a its.toArray from pt) fun h' he hit hk => wpAny_pyIter_enum he ?_
  refine ⟨s1.heap.objs.size + 1, [s1.heap.objs.size + 1, s1.heap.objs.size], _, _, H1, rfl, I1.kept (t' := s1.toks) hk, turn_enumT a (s1.heap.objs.size + 1) s1.heap.objs.size, ⟨⟨.none, he⟩, hit, Nat.succ_ne_self _⟩, fun b hb => ?_, q⟩
  have hb' : s1.heap.objs.size ≤ b := by
    rcases (show b = s1.heap.objs.size + 1 ∨ b = s1.heap.objs.size by simpa using hb) with z | z
    · rw [z]; exact Nat.le_add_right _ _
    · rw [z]; exact Nat.le_refl _
  exact I1.fpOk hb' (I1.hok.fresh hb')
theorem ei_enumT {B : Bs} {ρ : Ro} {μ : Mu} {ds : List D} {t : TA} (h : Ea B t ρ μ (fun l => l = [.tup ds])) : Ei B (iEnumT B.K t) ρ μ ds.length (fun i => .tup [.int i, ds.getD i .non]) := fun τ σ H a Rr q => h τ σ H a _ fun vs H1 l hl hlen a1 => by
  subst hl
  obtain ⟨G, g, k⟩ := id (a1.args hlen)
  obtain ⟨v, rfl, p, xs, rfl, e1, k1⟩ := one_arg k
  refine ⟨p, xs, rfl, .inl (.inl (g.sub _ _ e1)), q _ H1 _ (fun z hz => List.mem_append_right _ hz) a1 fun i ρ' μ' τ' σ' H' hsub a2 => ?_⟩
  obtain ⟨G2, g2⟩ := id a2
  obtain ⟨q1, xs', c1, e3, k3⟩ := g2.temps (V.ref p, .tup ds) (hsub _ (by simp))
  cases c1
  have s1 : SqT B.K H' p xs' := .inl (.inl (g2.sub _ _ e3))
  refine ⟨fun hi => ⟨xs', s1, by rw [k3.length]; omega⟩, fun hi => ?_⟩
  obtain ⟨x, hx, dx⟩ := k3.get (getD_of (show i < ds.length by omega))
  refine ⟨⟨xs', x, s1, hx⟩, fun z H2 hz => ?_⟩
  obtain ⟨T, x1, rfl, nT, rfl, f1⟩ := hz
  have ex : x = x1 := Option.some.inj (hx.symm.trans (f1 _ s1))
  subst ex
  exact g2.newTup nT ⟨_, _, rfl, rfl, x, _, rfl, dx, rfl⟩
end Cal


namespace Cal
open PySem PySem.Spec PyProof.Rows L2
abbrev s__law_map : Stmt := topS 50
abbrev n__law_map : List Str := ["placement", "sites", "clients", "n", "many", "steps", "one", "other", "both", "name", "at", "visits", "site", "near"]
theorem sc__law_map : FnScope n__law_map ["placement"] (defScope s__law_map) := ⟨rfl, rfl, rfl, by decide +kernel, rfl, by decide +kernel, by decide +kernel⟩
/-! ### the law's map -/
def relabS (a b : Scope) : Scope := { a with names := a.names.map fun (n, k) => if (k == NameKind.free && b.kind == .function && b.names.lookup n == some .cell) then (n, NameKind.cell) else (n, k) }
def lcScope : Stmt → Scope | .Assign _ (.ListComp _ _ sc _) _ => sc | _ => defScope s__law_map
def bothS (ss : List (List Str)) (a b : Nat) : List Str := (ss.getD a []).filter fun z => decide (z ∈ ss.getD b [])
def rowE (ss : List (List Str)) (a m : Nat) : List (List Key × D) := ((List.range m).filter fun b => !decide (a = b) && !(bothS ss a b).isEmpty).map fun (b : Nat) => (k2 a b, tS (bothS ss a b))
def stE (ss : List (List Str)) (m : Nat) : List (List Key × D) := (List.range m).flatMap fun a => rowE ss a ss.length
def rowC (n at' : Nat) (v : List Int) : List (List Key × D) := v.flatMap fun s => [(k2 (n + at' : Nat) s, .non), (k2 s (n + at' : Nat), .non)]
def stC (n : Nat) (cs : List (List Int)) (m : Nat) : List (List Key × D) := (List.range m).flatMap fun at' => rowC n at' (cs.getD at' [])
def stepsD (ss : List (List Str)) (cs : List (List Int)) : List (List Key × D) := stE ss ss.length ++ stC ss.length cs cs.length
def nearD (ss : List (List Str)) (cs : List (List Int)) : D := .lst ((List.range (ss.length + cs.length)).map fun (a : Nat) => .lst (((List.range (ss.length + cs.length)).filter fun (b : Nat) => (getD' (stepsD ss cs) (k2 a b)).isSome).map fun (b : Nat) => .int b))
def worldD (ss : List (List Str)) (cs : List (List Int)) : D := .dk [(.inr "sites", .tup (ss.map tS)), (.inr "clients", .tup (cs.map tI)), (.inr "n", .int ss.length), (.inr "many", .int (ss.length + cs.length)), (.inr "steps", .dt (stepsD ss cs)), (.inr "near", nearD ss cs)]
/-- lists that a drawn placement is made of -/
structure PlL (ss : List (List Str)) (cs : List (List Int)) : Prop where
  ns : ss.length ≤ 60
  nc : cs.length ≤ 60
  names : ∀ k ∈ ss, k.length ≤ 60 ∧ ∀ s ∈ k, PyData.strOk s = true ∧ s.length ≤ 100
  vis : ∀ v ∈ cs, v.Pairwise (· < ·) ∧ (∀ x ∈ v, 0 ≤ x ∧ x < ss.length) ∧ v.length ≤ 60
theorem putD_new {ds : List (List Key × D)} {k : List Key} {d : D} (h : ∀ p ∈ ds, p.1 ≠ k) : putD ds k d = ds ++ [(k, d)] := by
  unfold putD
  rw [if_neg]
  intro z
  obtain ⟨p, hp, e⟩ := List.any_eq_true.mp z
  exact h p hp (of_decide_eq_true e)
theorem k2_inj {a b c d : Int} (h : k2 a b = k2 c d) : a = c ∧ b = d := by
  injection h with h1 h2
  injection h2 with h2 _
  injection h1 with h1
  injection h2 with h2
  exact ⟨h1, h2⟩
theorem rowE_key {ss : List (List Str)} {a m : Nat} {p : List Key × D} (h : p ∈ rowE ss a m) : ∃ b : Nat, b < m ∧ p = (k2 a b, tS (bothS ss a b)) ∧ a ≠ b ∧ bothS ss a b ≠ [] := by
  obtain ⟨b, hb, rfl⟩ := List.mem_map.mp h
  obtain ⟨h1, h2⟩ := List.mem_filter.mp hb
  rw [Bool.and_eq_true] at h2
  refine ⟨b, List.mem_range.mp h1, rfl, by simpa using h2.1, fun e => ?_⟩
  have := h2.2
  rw [e] at this
  cases this
theorem stE_key {ss : List (List Str)} {m : Nat} {p : List Key × D} (h : p ∈ stE ss m) : ∃ a b : Nat, a < m ∧ b < ss.length ∧ p = (k2 a b, tS (bothS ss a b)) ∧ a ≠ b ∧ bothS ss a b ≠ [] := by
  obtain ⟨a, ha, hp⟩ := List.mem_flatMap.mp h
  obtain ⟨b, hb, e, h1, h2⟩ := rowE_key hp
  exact ⟨a, b, List.mem_range.mp ha, hb, e, h1, h2⟩
theorem rowC_key {n at' : Nat} {v : List Int} {p : List Key × D} (h : p ∈ rowC n at' v) : ∃ s ∈ v, p = (k2 (n + at' : Nat) s, .non) ∨ p = (k2 s (n + at' : Nat), .non) := by
  obtain ⟨s, hs, hp⟩ := List.mem_flatMap.mp h
  refine ⟨s, hs, ?_⟩
  simpa using hp
theorem stC_key {n m : Nat} {cs : List (List Int)} {p : List Key × D} (h : p ∈ stC n cs m) : ∃ at' : Nat, at' < m ∧ ∃ s ∈ cs.getD at' [], p = (k2 (n + at' : Nat) s, .non) ∨ p = (k2 s (n + at' : Nat), .non) := by
  obtain ⟨at', ha, hp⟩ := List.mem_flatMap.mp h
  obtain ⟨s, hs, e⟩ := rowC_key hp
  exact ⟨at', List.mem_range.mp ha, s, hs, e⟩
theorem rowE_succ (ss : List (List Str)) (a m : Nat) : rowE ss a (m + 1) = rowE ss a m ++ if (!decide (a = m) && !(bothS ss a m).isEmpty) = true then [(k2 a m, tS (bothS ss a m))] else [] := by
  unfold rowE
  rw [List.range_succ, List.filter_append, List.map_append]
  congr 1
  by_cases h : (!decide (a = m) && !(bothS ss a m).isEmpty) = true
  · rw [if_pos h, List.filter_cons, if_pos h]; rfl
  · rw [if_neg h, List.filter_cons, if_neg h]; rfl
theorem stE_succ (ss : List (List Str)) (m : Nat) : stE ss (m + 1) = stE ss m ++ rowE ss m ss.length := by
  unfold stE
  rw [List.range_succ, List.flatMap_append, List.flatMap_cons, List.flatMap_nil, List.append_nil]
theorem stC_succ (n : Nat) (cs : List (List Int)) (m : Nat) : stC n cs (m + 1) = stC n cs m ++ rowC n m (cs.getD m []) := by
  unfold stC
  rw [List.range_succ, List.flatMap_append, List.flatMap_cons, List.flatMap_nil, List.append_nil]
theorem rowE_len (ss : List (List Str)) (a m : Nat) : (rowE ss a m).length ≤ m := by
  unfold rowE
  rw [List.length_map]
  have := List.length_filter_le (fun b => !decide (a = b) && !(bothS ss a b).isEmpty) (List.range m)
  rwa [List.length_range] at this
theorem stE_len (ss : List (List Str)) (m : Nat) : (stE ss m).length ≤ m * ss.length := by
  induction m with
  | zero => exact Nat.zero_le _
  | succ m ih =>
    rw [stE_succ, List.length_append, Nat.succ_mul]
    have := rowE_len ss m ss.length
    omega
theorem rowC_len (n at' : Nat) (v : List Int) : (rowC n at' v).length = 2 * v.length := by
  induction v with
  | nil => rfl
  | cons x r ih =>
    show (rowC n at' r).length + 1 + 1 = 2 * (r.length + 1)
    omega
theorem stC_len {n m : Nat} {cs : List (List Int)} (h : ∀ v ∈ cs, v.length ≤ 60) : (stC n cs m).length ≤ m * 120 := by
  induction m with
  | zero => exact Nat.zero_le _
  | succ m ih =>
    rw [stC_succ, List.length_append, Nat.succ_mul, rowC_len]
    have : (cs.getD m []).length ≤ 60 := by
      by_cases hm : m < cs.length
      · rw [List.getD_eq_getElem?_getD, List.getElem?_eq_getElem hm]
        exact h _ (List.getElem_mem hm)
      · rw [List.getD_eq_getElem?_getD, List.getElem?_eq_none (by omega)]; exact Nat.zero_le _
    omega
theorem eqT_nil (l : List Str) : eqD (tS l) (.tup []) = l.isEmpty := by
  cases l with
  | nil => decide
  | cons x r =>
    show PyData.eqv (.tuple (PyData.str x :: pyA (r.map D.str))) (.tuple []) = false
    simp [PyData.eqv, PyData.eqvAll]
theorem plA_strs {l : List Str} (h : ∀ s ∈ l, PyData.strOk s = true) : plainA (l.map D.str) = true := by
  induction l with
  | nil => rfl
  | cons x r ih =>
    have h1 := h x (List.mem_cons_self ..)
    have h2 := ih fun s hs => h s (List.mem_cons_of_mem _ hs)
    rw [List.map_cons]
    simp [plainA, plain, h1, h2]
theorem depA_strs (l : List Str) : depA (l.map D.str) = 0 := by
  induction l with
  | nil => rfl
  | cons x r ih => show max 0 (depA (r.map D.str)) = 0; rw [ih]; rfl
theorem filt_map (l : List Str) (q : Str → Bool) : ((List.range l.length).filter fun i => q (l.getD i "")).map (fun i => D.str (l.getD i "")) = (l.filter q).map D.str := by
  have e1 : (List.range l.length).map (fun i => l.getD i "") = l := by
    refine List.ext_getElem? fun i => ?_
    rw [List.getElem?_map]
    by_cases hi : i < l.length
    · rw [List.getElem?_range hi, List.getElem?_eq_getElem hi]
      show some (l.getD i "") = _
      rw [List.getD_eq_getElem?_getD, List.getElem?_eq_getElem hi]; rfl
    · rw [List.getElem?_eq_none (by simpa using hi), List.getElem?_eq_none (by simpa using hi)]; rfl
  conv => rhs; rw [← e1]
  rw [List.filter_map, List.map_map]; rfl
theorem getD_map' {α : Type} (g : α → D) (z : α) (l : List α) {i : Nat} (hi : i < l.length) : (l.map g).getD i .non = g (l.getD i z) := by
  rw [List.getD_eq_getElem?_getD, List.getElem?_map, List.getElem?_eq_getElem hi, List.getD_eq_getElem?_getD, List.getElem?_eq_getElem hi]; rfl
theorem getD_in {α : Type} {z : α} {l : List α} {i : Nat} (hi : i < l.length) : l.getD i z ∈ l := by
  rw [List.getD_eq_getElem?_getD, List.getElem?_eq_getElem hi]; exact List.getElem_mem hi
theorem getD_at {α : Type} {z : α} {l : List α} {i : Nat} (hi : i < l.length) : l[i]? = some (l.getD i z) := by
  rw [List.getD_eq_getElem?_getD, List.getElem?_eq_getElem hi]; rfl
theorem atI_nat' {l : List D} {i : Nat} {d : D} (h : l[i]? = some d) : atI l (i : Int) = some d := by
  have hl := (List.getElem?_eq_some_iff.mp h).1
  unfold atI ixN
  rw [if_pos (by omega), if_pos (by omega)]
  exact h
section
variable {P : Program} {w : World} {K : PySem.W.Frag} {mg : Str → Option Value} {base : Heap} {f : Addr} {fd : FuncData}
abbrev BNm : List Str := ["enumerate", "len", "range", "tuple"]
variable (bi : ∀ x, x ∈ BNm → mg x = none)
abbrev sp__law_map (K : PySem.W.Frag) : Sp := psp K (fun ds => ∃ ss cs, ds = [plD ss cs] ∧ PlL ss cs) (fun ds e => ∃ ss cs, ds = [plD ss cs] ∧ e = worldD ss cs)
include bi in
theorem ok__law_map (F : Fun K "_law_map" "_law_map" s__law_map f fd) : FnOk P w K mg base CX0 1 f fd ["placement"] (sp__law_map K) := by
  refine F.ok sc__law_map (fun vs H Q E h => ?_) (fun cdv A outer s H vs Q E hr h => ?_)
  · obtain ⟨G, ds, h1, ⟨ss, cs, rfl, _⟩, _⟩ := h
    exact h1.length
  · have hu := hu_of hr
    obtain ⟨G, ds, ⟨ss, cs, rfl, hp⟩, hlen, a, hq⟩ := fsp_start locT n__law_map h
    refine ⟨_, (pss_cons (ps_asg (pv 0) (pg_tup rfl (pgs_cons (pg_name (i := 1) sc__law_map.nd rfl (by first | exact (.inl rfl) | exact (.inr rfl))) (pgs_cons (pg_name (i := 2) sc__law_map.nd rfl (by first | exact (.inl rfl) | exact (.inr rfl))) pgs_nil))))
      (pss_cons (ps_asg (pe_tup (pa_cons (pe_callB (id := "len") (r := rLenU K) u_len (by rfl) (bi "len" (by decide +kernel)) (by decide +kernel) (pa_cons (pv 1) pa_nil)) (pa_cons (pe_op (r := rAddU K) u_add (pe_callB (id := "len") (r := rLenU K) u_len (by rfl) (bi "len" (by decide +kernel)) (by decide +kernel) (pa_cons (pv 1) pa_nil)) (pe_callB (id := "len") (r := rLenU K) u_len (by rfl) (bi "len" (by decide +kernel)) (by decide +kernel) (pa_cons (pv 2) pa_nil))) pa_nil))) (pg_tup rfl (pgs_cons (pg_name (i := 3) sc__law_map.nd rfl (by first | exact (.inl rfl) | exact (.inr rfl))) (pgs_cons (pg_name (i := 4) sc__law_map.nd rfl (by first | exact (.inl rfl) | exact (.inr rfl))) pgs_nil))))
      (pss_cons (ps_asg pe_dnewT (pg_name (i := 5) sc__law_map.nd rfl (by first | exact (.inl rfl) | exact (.inr rfl))))
      (pss_cons (ps_for PassesOwn.never rfl (pi_range1 (by rfl) (bi "range" (by decide +kernel)) (pa_cons (pv 3) pa_nil)) (pg_name (i := 6) sc__law_map.nd rfl (by first | exact (.inl rfl) | exact (.inr rfl)))
        (pss_one (ps_for PassesOwn.never rfl (pi_range1 (by rfl) (bi "range" (by decide +kernel)) (pa_cons (pv 3) pa_nil)) (pg_name (i := 7) sc__law_map.nd rfl (by first | exact (.inl rfl) | exact (.inr rfl)))
        (pss_cons (ps_asg (pe_callTy (T := "tuple") (r := rTupOf K) u_tuple (by rfl) (bi "tuple" (by decide +kernel)) (by decide +kernel) (pa_cons (pe_lc (own := [("name", 9)]) (g := gName 9) rfl sc__law_map.nd (pi_tup (pe_ix (r := rIx K) ix_seq (pv 1) (pv 6) (fun _ _ => rfl))) (blkOk_by (N := n__law_map) (sc := defScope s__law_map) (by decide +kernel)) (fun _ _ _ _ _ => (pg_name (i := 9) sc__law_map.nd rfl (by first | exact (.inl rfl) | exact (.inr rfl)))) (fun _ _ _ _ _ => (pts_one (pt_cmpR (r := rIn K false) op_in_seq (pv 9) (pe_ix (r := rIx K) ix_seq (pv 1) (pv 7) (fun _ _ => rfl)) (by rfl)))) (fun _ _ _ _ _ => (pv 9))) pa_nil)) (pg_name (i := 8) sc__law_map.nd rfl (by first | exact (.inl rfl) | exact (.inr rfl))))
      (pss_one (ps_if (PW.pt (pw_and (pt_cmpR (r := rNeD K) (u_ne hr.units) (pv 6) (pv 7) (nomark _)) (pw_and1 (pt_cmpR (r := rNeD K) (u_ne hr.units) (pv 8) (pe_tup pa_nil) (nomark _))))) (pss_one (ps_dput hu (pv 5) (pe_tup (pa_cons (pv 6) (pa_cons (pv 7) pa_nil))) (pv 8) rfl)) pss_nil))))))
      (pss_cons (ps_for PassesOwn.never rfl (pi_enumT (by rfl) (bi "enumerate" (by decide +kernel)) (pa_cons (pv 2) pa_nil)) (pg_tup rfl (pgs_cons (pg_name (i := 10) sc__law_map.nd rfl (by first | exact (.inl rfl) | exact (.inr rfl))) (pgs_cons (pg_name (i := 11) sc__law_map.nd rfl (by first | exact (.inl rfl) | exact (.inr rfl))) pgs_nil)))
        (pss_one (ps_for PassesOwn.never rfl (pi_tup (pv 11)) (pg_name (i := 12) sc__law_map.nd rfl (by first | exact (.inl rfl) | exact (.inr rfl)))
        (pss_cons (ps_dput hu (pv 5) (pe_tup (pa_cons (pe_op (r := rAddU K) u_add (pv 3) (pv 10)) (pa_cons (pv 12) pa_nil))) pe_non rfl)
      (pss_one (ps_dput hu (pv 5) (pe_tup (pa_cons (pv 12) (pa_cons (pe_op (r := rAddU K) u_add (pv 3) (pv 10)) pa_nil))) pe_non rfl))))))
      (pss_cons (ps_setLc (i := 13) (own := [("one", 6)]) (g := gName 6) (tt := tYes) rfl sc__law_map.nd rfl rfl (sw_true rfl rfl rfl (by decide +kernel)) (pi_range1 (by rfl) (bi "range" (by decide +kernel)) (pa_cons (pv 4) pa_nil)) (blkOk_by (N := n__law_map) (sc := defScope s__law_map) (by decide +kernel)) (fun _ _ _ _ _ => (pg_name (i := 6) sc__law_map.nd rfl (by first | exact (.inl rfl) | exact (.inr rfl)))) (fun _ _ _ _ _ => pts_nil) (fun _ _ _ _ _ => (pe_lc (own := [("other", 7)]) (g := gName 7) rfl sc__law_map.nd (pi_range1 (by rfl) (bi "range" (by decide +kernel)) (pa_cons (pv 4) pa_nil)) (blkOk_by (N := n__law_map) (sc := relabS (lcScope ((defBody s__law_map).getD 5 (.Pass ⟨0, 0, 0, 0⟩))) (defScope s__law_map)) (by decide +kernel)) (fun _ _ _ _ _ => (pg_name (i := 7) sc__law_map.nd rfl (by first | exact (.inl rfl) | exact (.inr rfl)))) (fun _ _ _ _ _ => (pts_one (pt_cmp (pc_din hu (pe_tup (pa_cons (pv 6) (pa_cons (pv 7) pa_nil))) (pv 5))))) (fun _ _ _ _ _ => (pv 7)))))
      (pss_one (ps_ret (pe_disp (pps_cons pe_str (pv 1) (pps_cons pe_str (pv 2) (pps_cons pe_str (pv 3) (pps_cons pe_str (pv 4) (pps_cons pe_str (pv 5) (pps_cons pe_str (pv 13) pps_nil)))))) (by rfl) (by rfl) (fun z => by cases z) (by decide)))))))))), ?_⟩
    have l1 := hp.ns
    have l2 := hp.nc
    refine y_asgG a (ed_var rfl) gd_tup2 fun σ1 H1 a1 => ?_
    refine y_asgG (d := .tup [.int ss.length, .int (ss.length + cs.length)]) a1 (Ed.is (ed_tup (ead_cons (ed_lenT (ed_var rfl)) (ead_cons (ed_op (ed_lenT (ed_var rfl)) (ed_lenT (ed_var rfl)) rd_addI) ea_nil)) (by show 2 ≤ _; decide)) (by rw [List.length_map, List.length_map])) gd_tup2 fun σ2 H2 a2 => ?_
    refine y_asg a2 xv_dnewT fun d μ3 σ3 H3 hd a3 => ?_
    obtain ⟨p, rfl, rfl⟩ := hd
    have site : ∀ {i : Nat}, i < ss.length → atI (ss.map tS) (i : Int) = some (tS (ss.getD i [])) := fun {i} hi => atI_nat' (by rw [List.getElem?_map, List.getElem?_eq_getElem hi, List.getD_eq_getElem?_getD, List.getElem?_eq_getElem hi]; rfl)
    refine y_forN a3 (ei_rng1 (ead_cons (ed_var rfl) ea_nil) ⟨by omega, by omega⟩) (fun i ρ μ => ∃ x6 x7 x8 : Option D, ρ = [some (plD ss cs), some (.tup (ss.map tS)), some (.tup (cs.map tI)), some (.int ss.length), some (.int (ss.length + cs.length)), some (.raw (.ref p)), x6, x7, x8, none, none, none, none, none] ∧ μ = [(p, .dt (stE ss i))]) ⟨_, _, _, rfl, rfl⟩ (fun i ρ' μ' τ1 σ4 H4 Dn hi hI a4 hnx hct hbk hrt => ?_) fun ρ' μ' σ4 H4 hI a4 => ?_
    · obtain ⟨x6, x7, x8, rfl, rfl⟩ := hI
      have hi' : i < ss.length := by omega
      refine x_forN a4 (ei_rng1 (ead_cons (ed_var rfl) ea_nil) ⟨by omega, by omega⟩) (fun j ρ μ => ∃ x7 x8 : Option D, ρ = [some (plD ss cs), some (.tup (ss.map tS)), some (.tup (cs.map tI)), some (.int ss.length), some (.int (ss.length + cs.length)), some (.raw (.ref p)), some (.int i), x7, x8, none, none, none, none, none] ∧ μ = [(p, .dt (stE ss i ++ rowE ss i j))]) ⟨_, _, rfl, by simp [rowE]⟩ (fun j ρ' μ' τ2 σ5 H5 Dn2 hj hI a5 hnx2 hct2 hbk2 hrt2 => ?_) fun ρ' μ' σ5 H5 hI a5 => ?_
      · obtain ⟨x7, x8, rfl, rfl⟩ := hI
        have hj' : j < ss.length := by omega
        have hb : ∀ s ∈ bothS ss i j, PyData.strOk s = true := fun s hs => ((hp.names _ (getD_in hi')).2 s (List.mem_filter.mp hs).1).1
        refine y_set (d := tS (bothS ss i j)) a5 (Ed.is (ed_tupL (ed_lcT (n := (ss.getD i []).length) (f := fun k => ((ss.getD i []).map D.str).getD k .non) (h := fun k => .str ((ss.getD i []).getD k "")) (fun k => decide ((ss.getD i []).getD k "" ∈ ss.getD j [])) ?_ (by decide) (Nat.le_trans (hp.names _ (getD_in hi')).1 (by decide)) (fun k hk cl => ?_) fun k hk _ cl => ?_)) (by unfold bothS; rw [filt_map (ss.getD i []) fun z => decide (z ∈ ss.getD j [])])) fun σ6 H6 a6 => ?_
        · have := ei_tup (B := ⟨K, fun _ => True, [], locT, G, H⟩) (ed_op (B := ⟨K, fun _ => True, [], locT, G, H⟩) (ρ := ([some (plD ss cs), some (.tup (ss.map tS)), some (.tup (cs.map tI)), some (.int ss.length), some (.int (ss.length + cs.length)), some (.raw (.ref p)), some (.int i), x7, x8, none, none, none, none, none] : Ro).set 7 (some (.int j))) (μ := [(p, .dt (stE ss i ++ rowE ss i j))]) (ed_var (i := 1) rfl) (ed_var (i := 6) rfl) (rd_ixT (site hi')))
          rw [List.length_map] at this
          exact this
        · rw [getD_map' D.str "" (ss.getD i []) hk]
          exact eb_test (ed_op (ed_var rfl) (ed_op (ed_var rfl) (ed_var rfl) (rd_ixT (site hj'))) rd_inS)
        · rw [getD_map' D.str "" (ss.getD i []) hk]
          exact ed_var rfl
        · refine x_ifb a6 (eb_and (eb_test (ed_op (ed_var rfl) (ed_var rfl) rd_neI)) fun _ => eb_test (ed_op (ed_var rfl) (ed_tup ea_nil (by decide)) (rd_neD (plA_strs hb) rfl (by show depA _ + 1 ≤ 64; rw [depA_strs]; decide) (by decide)))) (fun hc H7 a7 => ?_) fun hc H7 a7 => x_next ?_
          · rw [eqT_nil] at hc
            have hc' : (!decide (i = j) && !(bothS ss i j).isEmpty) = true := by
              rw [← hc]
              congr 2
              exact decide_eq_decide.mpr ⟨fun e => by rw [e], fun e => by omega⟩
            refine x_dputT (k := 0) a7 rfl rfl (ed_var rfl) (ed_tup (ead_cons (ed_var rfl) (ead_cons (ed_var rfl) ea_nil)) (by show 2 ≤ _; decide)) (by
              have h1 := stE_len ss i
              have h2 := rowE_len ss i j
              have h3 : i * ss.length ≤ 60 * 60 := Nat.mul_le_mul (by omega) (by omega)
              rw [List.length_append]; omega) fun H8 a8 => ?_
            rw [putD_new (fun q hq => by
              rcases List.mem_append.mp hq with z | z
              · obtain ⟨a', b', ha, hb', rfl, _⟩ := stE_key z
                intro e
                have := (k2_inj e).1
                omega
              · obtain ⟨b', hb', rfl, _⟩ := rowE_key z
                intro e
                have := (k2_inj e).2
                omega)] at a8
            refine hnx2 _ _ _ _ ⟨_, _, rfl, ?_⟩ a8
            rw [rowE_succ, if_pos hc', ← List.append_assoc]; rfl
          · rw [eqT_nil] at hc
            have hc' : ¬ (!decide (i = j) && !(bothS ss i j).isEmpty) = true := by
              have : (!decide (i = j) && !(bothS ss i j).isEmpty) = false := by
                rw [← hc]
                congr 2
                exact decide_eq_decide.mpr ⟨fun e => by rw [e], fun e => by omega⟩
              rw [this]; exact Bool.false_ne_true
            refine hnx2 _ _ _ _ ⟨_, _, rfl, ?_⟩ a7
            rw [rowE_succ, if_neg hc', List.append_nil]
      · obtain ⟨x7, x8, rfl, rfl⟩ := hI
        refine hnx _ _ _ _ ⟨_, _, _, rfl, ?_⟩ a5
        rw [stE_succ, show ((ss.length : Int)).toNat = ss.length by omega]
    · obtain ⟨x6, x7, x8, rfl, rfl⟩ := hI
      rw [show ((ss.length : Int)).toNat = ss.length by omega] at a4
      refine y_for a4 (ei_enumT (ead_cons (ed_var rfl) ea_nil)) (fun i ρ μ => ∃ x10 x11 x12 : Option D, ρ = [some (plD ss cs), some (.tup (ss.map tS)), some (.tup (cs.map tI)), some (.int ss.length), some (.int (ss.length + cs.length)), some (.raw (.ref p)), x6, x7, x8, none, x10, x11, x12, none] ∧ μ = [(p, .dt (stE ss ss.length ++ stC ss.length cs i))]) ⟨_, _, _, rfl, by simp [stC]⟩ (fun i ρ' μ' τ1 σ5 H5 v Dn hi hI hsub a5 hnx hct hbk hrt => ?_) fun ρ' μ' σ5 H5 hI a5 => ?_
      · obtain ⟨x10, x11, x12, rfl, rfl⟩ := hI
        have hi' : i < cs.length := by rwa [List.length_map] at hi
        refine gd_tup2 (k := 10) (l := 11) τ1 σ5 H5 v a5 _ fun σ6 a6 _ _ => ?_
        rw [getD_map' tI [] cs hi'] at a6
        obtain ⟨hpw, hbd, hln⟩ := hp.vis _ (getD_in (z := []) hi')
        refine x_forN a6 (ei_tup (ed_var rfl)) (fun j ρ μ => ∃ x12 : Option D, ρ = [some (plD ss cs), some (.tup (ss.map tS)), some (.tup (cs.map tI)), some (.int ss.length), some (.int (ss.length + cs.length)), some (.raw (.ref p)), x6, x7, x8, none, some (.int i), some (tI (cs.getD i [])), x12, none] ∧ μ = [(p, .dt (stE ss ss.length ++ stC ss.length cs i ++ rowC ss.length i ((cs.getD i []).take j)))]) ⟨_, rfl, by simp [rowC]⟩ (fun j ρ' μ' τ2 σ7 H7 Dn2 hj hI a7 hnx2 hct2 hbk2 hrt2 => ?_) fun ρ' μ' σ7 H7 hI a7 => ?_
        · obtain ⟨x12, rfl, rfl⟩ := hI
          have hj' : j < (cs.getD i []).length := by rwa [List.length_map] at hj
          rw [getD_map' D.int 0 (cs.getD i []) hj'] at a7
          have hx := hbd _ (getD_in (z := 0) hj')
          have hxj : (cs.getD i [])[j]? = some ((cs.getD i []).getD j 0) := getD_at hj'
          have lt : ∀ s ∈ (cs.getD i []).take j, s ≠ (cs.getD i []).getD j 0 := fun s hs e => by
            obtain ⟨q, hq1, hq2⟩ := List.mem_take_iff_getElem.mp hs
            have hq3 : q < j := by omega
            have := List.pairwise_iff_getElem.mp hpw q j (by omega) hj' hq3
            have e2 : (cs.getD i [])[j] = (cs.getD i []).getD j 0 := (List.getElem?_eq_some_iff.mp hxj).2
            omega
          have inr : ∀ s ∈ (cs.getD i []).take j, s < ss.length := fun s hs => (hbd s ((List.take_sublist _ _).subset hs)).2
          have inc : ∀ at' : Nat, at' < i → ∀ s ∈ cs.getD at' [], s < ss.length := fun at' ha s hs => ((hp.vis _ (getD_in (z := []) (show at' < cs.length by omega))).2.1 s hs).2
          have len : (stE ss ss.length ++ stC ss.length cs i ++ rowC ss.length i ((cs.getD i []).take j)).length + 1 < 100000 := by
            have h1 := stE_len ss ss.length
            have h2 := stC_len (n := ss.length) (m := i) (cs := cs) fun v hv => (hp.vis v hv).2.2
            have h3 : ss.length * ss.length ≤ 60 * 60 := Nat.mul_le_mul (by omega) (by omega)
            have h4 := rowC_len ss.length i ((cs.getD i []).take j)
            have h5 := (List.take_sublist j (cs.getD i [])).length_le
            rw [List.length_append, List.length_append]; omega
          refine y_dputT (k := 0) (x := (ss.length + i : Nat)) (y := (cs.getD i []).getD j 0) a7 rfl rfl ed_non (Ed.is (ed_tup (ead_cons (ed_op (ed_var rfl) (ed_var rfl) rd_addI) (ead_cons (ed_var rfl) ea_nil)) (by show 2 ≤ _; decide)) rfl) (by omega) fun H8 a8 => ?_
          rw [putD_new (fun q hq => by
            rcases List.mem_append.mp hq with z | z
            · rcases List.mem_append.mp z with z | z
              · obtain ⟨a', b', ha, hb', rfl, _⟩ := stE_key z
                intro e
                have := (k2_inj e).1
                omega
              · obtain ⟨at', ha, s, hs, rfl | rfl⟩ := stC_key z
                · intro e
                  have := (k2_inj e).1
                  omega
                · intro e
                  have := (k2_inj e).1
                  have := inc at' ha s hs
                  omega
            · obtain ⟨s, hs, rfl | rfl⟩ := rowC_key z
              · intro e
                exact lt s hs (k2_inj e).2
              · intro e
                have := (k2_inj e).1
                have := inr s hs
                omega)] at a8
          refine x_dputT (k := 0) (x := (cs.getD i []).getD j 0) (y := (ss.length + i : Nat)) a8 rfl rfl ed_non (Ed.is (ed_tup (ead_cons (ed_var rfl) (ead_cons (ed_op (ed_var rfl) (ed_var rfl) rd_addI) ea_nil)) (by show 2 ≤ _; decide)) rfl) (by rw [List.length_append]; exact len) fun H9 a9 => ?_
          rw [putD_new (fun q hq => by
            rcases List.mem_append.mp hq with z | z
            · rcases List.mem_append.mp z with z | z
              · rcases List.mem_append.mp z with z | z
                · obtain ⟨a', b', ha, hb', rfl, _⟩ := stE_key z
                  intro e
                  have := (k2_inj e).2
                  omega
                · obtain ⟨at', ha, s, hs, rfl | rfl⟩ := stC_key z
                  · intro e
                    have := (k2_inj e).1
                    omega
                  · intro e
                    have := (k2_inj e).2
                    omega
              · obtain ⟨s, hs, rfl | rfl⟩ := rowC_key z
                · intro e
                  have := (k2_inj e).1
                  omega
                · intro e
                  exact lt s hs (k2_inj e).1
            · rw [List.mem_singleton.mp z]
              intro e
              have := (k2_inj e).1
              omega)] at a9
          refine hnx2 _ _ _ _ ⟨_, rfl, ?_⟩ a9
          have e1 : (cs.getD i []).take (j + 1) = (cs.getD i []).take j ++ [(cs.getD i []).getD j 0] := by
            rw [List.take_add_one, hxj]; rfl
          have e2 : rowC ss.length i ((cs.getD i []).take j ++ [(cs.getD i []).getD j 0]) = rowC ss.length i ((cs.getD i []).take j) ++ [(k2 (ss.length + i : Nat) ((cs.getD i []).getD j 0), .non), (k2 ((cs.getD i []).getD j 0) (ss.length + i : Nat), .non)] := by
            unfold rowC
            rw [List.flatMap_append, List.flatMap_cons, List.flatMap_nil, List.append_nil]
          rw [e1, e2]
          simp only [List.set_cons_zero, List.append_assoc, List.cons_append, List.nil_append]
        · obtain ⟨x12, rfl, rfl⟩ := hI
          refine hnx _ _ _ _ ⟨_, _, _, rfl, ?_⟩ a7
          rw [stC_succ, List.length_map, List.take_length, ← List.append_assoc]
      · obtain ⟨x10, x11, x12, rfl, rfl⟩ := hI
        rw [List.length_map] at a5
        have em : ((ss.length : Int) + cs.length).toNat = ss.length + cs.length := by omega
        refine y_set (d := nearD ss cs) a5 (Ed.is (ed_lc0 (n := ((ss.length : Int) + cs.length).toNat) (f := fun i => .int i) (h := fun (a : Nat) => .lst (((List.range ((ss.length : Int) + cs.length).toNat).filter fun (b : Nat) => (getD' (stepsD ss cs) (k2 a b)).isSome).map fun (b : Nat) => .int b)) (ei_rng1 (ead_cons (ed_var rfl) ea_nil) ⟨by omega, by omega⟩) (by decide) (by omega) fun i hi cl => ed_lcT (f := fun i => .int i) (fun (b : Nat) => (getD' (stepsD ss cs) (k2 i b)).isSome) (ei_rng1 (ead_cons (ed_var rfl) ea_nil) ⟨by omega, by omega⟩) (by decide) (by omega) (fun j hj cl2 => eb_dinC (k := 2) rfl rfl (ed_tup (ead_cons (ed_var rfl) (ead_cons (ed_var rfl) ea_nil)) (by show 2 ≤ _; decide))) fun j hj _ cl2 => ed_var rfl) (by unfold nearD; rw [em])) fun σ6 H6 a6 => ?_
        have a7 := At.reslot (k := 5) (At.freezeC (by intro _ _ z; cases z) a6) rfl
        exact x_ret a7 (ed_disp (kds := [(.inr "sites", .tup (ss.map tS)), (.inr "clients", .tup (cs.map tI)), (.inr "n", .int ss.length), (.inr "many", .int (ss.length + cs.length)), (.inr "steps", .dt (stepsD ss cs)), (.inr "near", nearD ss cs)]) (fun q => ⟨rfl, ed_var rfl, rfl, ed_var rfl, rfl, ed_var rfl, rfl, ed_var rfl, rfl, ed_var rfl, rfl, ed_var rfl, True.intro⟩) (by show ([.inr "sites", .inr "clients", .inr "n", .inr "many", .inr "steps", .inr "near"] : List Key).Nodup; decide +kernel) (by show 6 ≤ 15; decide)) fun v H' d hd a' => hq ⟨ss, cs, rfl, hd⟩ a'
end
end Cal


namespace Cal
open PySem PySem.Spec PyProof.Rows L2
/-! ### the keys of a dict of pairs whose value is not None -/
def keyD1 : Key → D | .inl i => .int i | .inr s => .str s
def keyD (k : List Key) : D := .tup (k.map keyD1)
def KO (H : Hp) : List (List Key) → List V → Prop
  | [], vs => vs = []
  | k :: ks, vs => ∃ q r, vs = .ref q :: r ∧ H q = some (.tup (k.map kV)) ∧ KO H ks r
theorem KO.app {H : Hp} {k : List Key} {q : Addr} (hq : H q = some (.tup (k.map kV))) : ∀ {ks : List (List Key)} {vs : List V}, KO H ks vs → KO H (ks ++ [k]) (vs ++ [.ref q])
  | [], _, h => by rw [show _ = [] from h]; exact ⟨q, [], rfl, hq, rfl⟩
  | k' :: ks, _, ⟨q', r, e, h1, h2⟩ => by subst e; exact ⟨q', _, rfl, h1, KO.app hq h2⟩
theorem KO.len {H : Hp} : ∀ {ks : List (List Key)} {vs : List V}, KO H ks vs → vs.length = ks.length
  | [], _, h => by rw [show _ = [] from h]; rfl
  | k' :: ks, _, ⟨q', r, e, h1, h2⟩ => by subst e; rw [List.length_cons, List.length_cons, KO.len h2]
theorem keys_dt {K : PySem.W.Frag} {G : Hp} : ∀ k : List Key, DtA K G (k.map keyD1) (k.map kV)
  | [] => rfl
  | .inl i :: r => ⟨_, _, rfl, rfl, keys_dt r⟩
  | .inr s :: r => ⟨_, _, rfl, rfl, keys_dt r⟩
theorem KO.dt {K : PySem.W.Frag} {H G : Hp} (tup : ∀ b vs, H b = some (.tup vs) → G b = some (.tup vs)) : ∀ {ks : List (List Key)} {vs : List V}, KO H ks vs → DtA K G (ks.map keyD) vs
  | [], _, h => h
  | k' :: ks, _, ⟨q', r, e, h1, h2⟩ => ⟨_, r, e, ⟨q', _, rfl, tup _ _ h1, keys_dt k'⟩, KO.dt tup h2⟩
def nnD : D → Bool | .non => false | _ => true
theorem DtT.at {K : PySem.W.Frag} {G : Hp} : ∀ {ds : List (List Key × D)} {ws : List (List Key × V)} {i : Nat} {k : List Key} {v : V}, DtT K G ds ws → ws[i]? = some (k, v) → ∃ d, ds[i]? = some (k, d) ∧ Dt K G d v
  | [], _, _, _, _, h, e => by rw [show _ = [] from h] at e; simp at e
  | (k', d) :: ds, _, 0, _, _, ⟨v', r, q, s, t⟩, e => by
    subst q
    simp at e
    obtain ⟨rfl, rfl⟩ := e
    exact ⟨d, rfl, s⟩
  | (k', d) :: ds, _, i + 1, _, _, ⟨v', r, q, s, t⟩, e => by
    subst q
    obtain ⟨d2, h1, h2⟩ := DtT.at (i := i) t (by simpa using e)
    exact ⟨d2, by simpa using h1, h2⟩
theorem DtT.keys {K : PySem.W.Frag} {G : Hp} : ∀ {ds : List (List Key × D)} {ws : List (List Key × V)}, DtT K G ds ws → ws.map (·.1) = ds.map (·.1)
  | [], _, h => by rw [show _ = [] from h]; rfl
  | (k', d) :: ds, _, ⟨v', r, q, s, t⟩ => by subst q; rw [List.map_cons, List.map_cons, DtT.keys t]
theorem valV_at : ∀ {ws : List (List Key × V)} {i : Nat} {k : List Key} {v : V}, (ws.map (·.1)).Nodup → ws[i]? = some (k, v) → valV ws k = some v
  | [], _, _, _, _, e => by simp at e
  | (k', v') :: r, 0, _, _, _, e => by
    simp at e
    obtain ⟨rfl, rfl⟩ := e
    unfold valV
    rw [List.find?_cons_of_pos (by exact decide_eq_true rfl)]; rfl
  | (k', v') :: r, i + 1, k, v, hn, e => by
    rw [List.map_cons, List.nodup_cons] at hn
    have e' : r[i]? = some (k, v) := by simpa using e
    have hne : k' ≠ k := fun z => hn.1 (List.mem_map.mpr ⟨(k, v), List.mem_of_getElem? e', z.symm⟩)
    unfold valV
    rw [List.find?_cons_of_neg (by simpa using hne)]
    exact valV_at hn.2 e'
theorem upd_upd {H : Hp} {a : Addr} {o o' : HO} : upd (upd H a o) a o' = upd H a o' := funext fun b => by
  by_cases h : b = a
  · subst h; rw [upd_same, upd_same]
  · rw [upd_ne h, upd_ne h, upd_ne h]
theorem upd_back {H : Hp} {d D : Addr} {o u l : HO} (h : H d = some u) (hn : d ≠ D) : upd (upd (upd H d o) D l) d u = upd H D l := funext fun b => by
  by_cases h1 : b = d
  · subst h1; rw [upd_same, upd_ne hn, h]
  · rw [upd_ne h1]
    by_cases h2 : b = D
    · subst h2; rw [upd_same, upd_same]
    · rw [upd_ne h2, upd_ne h1, upd_ne h2]
section
variable {B : Bs} {ρ : Ro} {μ : Mu} {j k : Nat} {kks : List (Key × D)} {kvs : List (List Key × D)} {z : Str}
theorem ed_keysN (h : ρ[j]? = some (some (.dk kks))) (hz : getD' kks (.inr z) = some (.dt kvs)) (hn : (kvs.map (·.1)).Nodup) (hv : ∀ p ∈ kvs, p.2 = .non ∨ ∃ ds, p.2 = .tup ds) (hl : kvs.length ≤ 100000) (hjk : j ≠ k) (hk : k < ρ.length) :
    Ed B (tLockE (tLc (iKeys (tDGet (tVar j) (tC (.str z)))) (gName k) (tTest (tOp (fun x y H Q => y = V.non ∧ Q (.bl (!decide (x = V.non))) H) (tDGet (tDGet (tVar j) (tC (.str z))) (tVar k)) (tC .non))) (tVar k) [k])) ρ μ (.lst (((kvs.filter fun p => nnD p.2).map (·.1)).map keyD)) := Ev.mk fun τ σ H a Q q => by
  obtain ⟨w, hw, a1⟩ := a.var h
  obtain ⟨G, g, aw, kws, rfl, e1, k1⟩ := a1.top
  obtain ⟨d, ws, e2, e3, k3⟩ : ∃ d ws, valV kws (.inr z) = some (.ref d) ∧ G d = some (.dT ws) ∧ DtT B.K G kvs ws := by
    rcases k1.get (k := .inr z) with ⟨h3, _⟩ | ⟨dd, vv, h3, h4, h5⟩
    · rw [hz] at h3; cases h3
    · rw [hz] at h3
      cases h3
      obtain ⟨d, ws, rfl, h6, h7⟩ := h5
      exact ⟨d, ws, h4, h6, h7⟩
  have hd := g.sub _ _ e3
  have ha := g.sub _ _ e1
  have had : aw ≠ d := fun y => by rw [y, hd] at ha; cases ha
  have hlen := k3.length
  have hnw : (ws.map (·.1)).Nodup := by rw [k3.keys]; exact hn
  have hsl : k < σ.length := by rw [← g.len]; exact hk
  refine ⟨d, .dT ws, hd, True.intro, fun od => ?_⟩
  have fa : (upd H d (.frz od (.dT ws))) aw = some (.dK kws) := by rw [upd_ne had]; exact ha
  have gt : ∀ Hx : Hp, Hx aw = some (.dK kws) → DGet Hx aw (.str z) (some (.ref d)) := fun Hx hx => by
    rw [← e2]
    exact DGet.k (k := Sum.inr z) hx
  refine ⟨_, hw, aw, .ref d, rfl, gt _ fa, d, od, rfl, .inr ⟨ws, upd_same, fun Dl hD => ?_⟩⟩
  have hDd : d ≠ Dl := fun y => by rw [← y, upd_same] at hD; cases hD
  have hDa : aw ≠ Dl := fun y => by rw [← y, fa] at hD; cases hD
  have hHD : H Dl = none := by rw [upd_ne hDd.symm] at hD; exact hD
  refine ⟨fun i m Hc => m = ws.length - i ∧ i ≤ ws.length ∧ ∃ acc, KO H (((kvs.take i).filter fun p => nnD p.2).map (·.1)) acc ∧ Hc = upd (upd H d (.frz od (.dT ws))) Dl (.lst acc), ⟨ws.length, by omega, Nat.zero_le _, [], rfl, rfl⟩, fun i m Hc hW => ?_⟩
  obtain ⟨rfl, hin, acc, hacc, rfl⟩ := hW
  have c1 : (upd (upd H d (.frz od (.dT ws))) Dl (.lst acc)) d = some (.frz od (.dT ws)) := by rw [upd_ne hDd, upd_same]
  have c2 : (upd (upd H d (.frz od (.dT ws))) Dl (.lst acc)) aw = some (.dK kws) := by rw [upd_ne hDa]; exact fa
  by_cases hlt : i < ws.length
  · refine .inr ⟨⟨c1, hlt⟩, fun Hn => ∃ acc, KO H (((kvs.take (i + 1)).filter fun p => nnD p.2).map (·.1)) acc ∧ Hn = upd (upd H d (.frz od (.dT ws))) Dl (.lst acc), fun H' ⟨acc', h1, h2⟩ => ⟨ws.length - (i + 1), by omega, rfl, hlt, acc', h1, h2⟩, fun x H' hy => ?_⟩
    obtain ⟨rfl, kk, v, qa, hi, rfl, hqa⟩ := hy
    have hqD : qa ≠ Dl := fun y => by rw [y, upd_same] at hqa; cases hqa
    have hqd : qa ≠ d := fun y => by rw [y, c1] at hqa; cases hqa
    have hqH : H qa = some (.tup (kk.map kV)) := by rw [upd_ne hqD, upd_ne hqd] at hqa; exact hqa
    obtain ⟨dd, hdd, hdv⟩ := k3.at hi
    have tk : kvs.take (i + 1) = kvs.take i ++ [(kk, dd)] := by rw [List.take_add_one, hdd]; rfl
    have wl : (wipe σ [k]).length = σ.length := wipe_length ..
    have sj : ((wipe σ [k]).set k (some (.ref qa)))[j]? = some (some (.ref aw)) := by
      rw [List.getElem?_set_ne hjk.symm, wipe_get (by simpa using hjk)]; exact hw
    have sk : ((wipe σ [k]).set k (some (.ref qa)))[k]? = some (some (.ref qa)) := by rw [List.getElem?_set_self (by rw [wl]; exact hsl)]
    refine ⟨wipe_ext (js := [k]) (fun y hy => hy) (List.length_set ..) fun y hy => ?_, ?_⟩
    · rw [List.getElem?_set_ne (fun e => hy (by rw [e]; exact List.mem_singleton.mpr rfl))]
    · refine ⟨_, sj, aw, .ref d, rfl, gt _ c2, _, sk, d, v, rfl, .inr ⟨ws, kk, qa, .inr ⟨od, c1⟩, rfl, hqa, (valV_at hnw hi).symm⟩, rfl, !decide (v = .non), rfl, ?_⟩
      by_cases hd0 : dd = .non
      · subst hd0
        have hv0 : v = .non := hdv
        rw [hv0]
        show (if (!decide (V.non = V.non)) = true then _ else _)
        rw [decide_eq_true rfl, Bool.not_true, if_neg Bool.false_ne_true]
        refine ⟨acc, ?_, rfl⟩
        rw [tk, List.filter_append, List.filter_cons, if_neg (by show ¬ nnD .non = true; decide), List.filter_nil, List.append_nil]
        exact hacc
      · obtain ⟨ds, rfl⟩ : ∃ ds, dd = .tup ds := by
          rcases hv _ (List.mem_of_getElem? hdd) with y | y
          · exact absurd y hd0
          · exact y
        obtain ⟨ta, us, rfl, _⟩ := hdv
        rw [decide_eq_false (fun y => by cases y), Bool.not_false, if_pos rfl]
        refine ⟨_, sk, acc, upd_same, ?_, acc ++ [.ref qa], ?_, upd_upd⟩
        · rw [hacc.len, List.length_map]
          have := List.length_filter_le (fun p : List Key × D => nnD p.2) (kvs.take i)
          have := List.length_take_le' i kvs
          exact Nat.lt_of_le_of_lt (show _ ≤ 100000 by omega) (by decide)
        · rw [tk, List.filter_append, List.filter_cons, if_pos (by show nnD (.tup ds) = true; rfl), List.filter_nil, List.map_append]
          exact hacc.app hqH
  · have e : i = kvs.length := by omega
    refine .inl ⟨⟨c1, by omega⟩, c1, ?_⟩
    rw [upd_back hd hDd]
    rw [e, List.take_length] at hacc
    exact q _ _ _ rfl (g.newLst hHD (hacc.dt g.tup))
end
end Cal


namespace Cal
open PySem PySem.Spec PyProof.Rows L2
/-! ### sorted pairs -/
def pD (p : Int × Int) : D := .tup [.int p.1, .int p.2]
def kfG (G : Hp) (x : V) : Int × Int := match x with
  | .ref t => (match G t with | some (.tup [.int i, .int j]) => (i, j) | _ => (0, 0))
  | _ => (0, 0)
theorem lex_asym {a b : Int × Int} (h : SrtO.lexB a b = true) : SrtO.lexB b a = false := by
  cases e : SrtO.lexB b a with
  | false => rfl
  | true =>
    have h1 := SrtO.lexB_iff.mp h
    have h2 := SrtO.lexB_iff.mp e
    omega
theorem lex_anti {a b : Int × Int} (h : SrtO.lexB a b = false) (k : SrtO.lexB b a = false) : a = b := by
  have h' : ¬ (a.1 < b.1 ∨ (a.1 = b.1 ∧ a.2 < b.2)) := fun z => by rw [SrtO.lexB_iff.mpr z] at h; cases h
  have k' : ¬ (b.1 < a.1 ∨ (b.1 = a.1 ∧ b.2 < a.2)) := fun z => by rw [SrtO.lexB_iff.mpr z] at k; cases k
  exact Prod.ext (by omega) (by omega)
theorem pairs_of {K : PySem.W.Frag} {G : Hp} : ∀ {ps : List (Int × Int)} {vs : List V}, DtA K G (ps.map pD) vs → vs.map (kfG G) = ps ∧ ∀ x ∈ vs, ∃ t, x = V.ref t ∧ G t = some (.tup [.int (kfG G x).1, .int (kfG G x).2])
  | [], _, h => by rw [show _ = [] from h]; exact ⟨rfl, fun x hx => by cases hx⟩
  | p :: ps, _, ⟨v, r, e, h1, h2⟩ => by
    subst e
    obtain ⟨q, e1, e2⟩ := key_at (x := p.1) (y := p.2) h1
    subst e1
    have ek : kfG G (.ref q) = p := by
      show (match G q with | some (.tup [.int i, .int j]) => (i, j) | _ => (0, 0)) = p
      rw [e2]; rfl
    obtain ⟨h3, h4⟩ := pairs_of h2
    refine ⟨by rw [List.map_cons, ek, h3], fun x hx => ?_⟩
    rcases List.mem_cons.mp hx with z | z
    · rw [z, ek]; exact ⟨q, rfl, e2⟩
    · exact h4 x z
theorem pairs_back {K : PySem.W.Frag} {G : Hp} : ∀ {ys : List V}, (∀ x ∈ ys, ∃ t, x = V.ref t ∧ G t = some (.tup [.int (kfG G x).1, .int (kfG G x).2])) → DtA K G ((ys.map (kfG G)).map pD) ys
  | [], _ => rfl
  | y :: ys, h => by
    obtain ⟨t, e1, e2⟩ := h y (List.mem_cons_self ..)
    exact ⟨y, ys, rfl, ⟨t, _, e1, e2, DtA.of_ints [_, _]⟩, pairs_back fun x hx => h x (List.mem_cons_of_mem _ hx)⟩
theorem rc_sortP {B : Bs} {ρ : Ro} {μ : Mu} {ps : List (Int × Int)} (hs : ps.Pairwise fun a b => SrtO.lexB a b = true) : RC B (rSortedPO B.K) ρ μ [.lst (ps.map pD)] (fun e => e = .lst (ps.map pD)) := fun τ σ H xs hl a Q q => by
  obtain ⟨G, g, h⟩ := a.args hl
  obtain ⟨v, rfl, p, vs, rfl, e, k⟩ := one_arg h
  obtain ⟨h1, h2⟩ := pairs_of k
  refine ⟨p, vs, kfG G, rfl, .inl (.inl (g.sub _ _ e)), fun x hx => ?_, fun ys p' hys hst hp' => q _ _ _ rfl (g.newLst hp' ?_)⟩
  · obtain ⟨t, e1, e2⟩ := h2 x hx
    exact ⟨t, e1, g.sub _ _ e2⟩
  · have hperm : (ys.map (kfG G)).Perm ps := by rw [← h1]; exact hst.perm.map _
    have hy : (ys.map (kfG G)).Pairwise fun a b => SrtO.lexB b a = false := List.pairwise_map.mpr hys
    have hp : ps.Pairwise fun a b => SrtO.lexB b a = false := hs.imp fun h => lex_asym h
    have eq : ys.map (kfG G) = ps := List.Perm.eq_of_pairwise (fun a b _ _ x y => lex_anti y x) hy hp hperm
    have hb := pairs_back (K := B.K) (G := G) (ys := ys) fun x hx => h2 x (hst.perm.mem_iff.mp hx)
    rw [eq] at hb
    exact hb
end Cal


namespace Cal
open PySem PySem.Spec PyProof.Rows L2
abbrev s__law_edges : Stmt := topS 51
abbrev n__law_edges : List Str := ["world", "step"]
theorem sc__law_edges : FnScope n__law_edges ["world"] (defScope s__law_edges) := ⟨rfl, rfl, rfl, by decide +kernel, rfl, by decide +kernel, by decide +kernel⟩
def epairs (ss : List (List Str)) : List (Int × Int) := (List.range ss.length).flatMap fun (a : Nat) => ((List.range ss.length).filter fun (b : Nat) => !decide (a = b) && !(bothS ss a b).isEmpty).map fun (b : Nat) => ((a : Int), (b : Int))
theorem stE_pairs (ss : List (List Str)) (m : Nat) : ((stE ss m).map (·.1)).map keyD = ((List.range m).flatMap fun (a : Nat) => ((List.range ss.length).filter fun (b : Nat) => !decide (a = b) && !(bothS ss a b).isEmpty).map fun (b : Nat) => ((a : Int), (b : Int))).map pD := by
  induction m with
  | zero => rfl
  | succ m ih =>
    rw [stE_succ, List.map_append, List.map_append, ih, List.range_succ, List.flatMap_append, List.map_append, List.flatMap_cons, List.flatMap_nil, List.append_nil]
    congr 1
    unfold rowE
    rw [List.map_map, List.map_map, List.map_map]
    exact List.map_congr_left fun b _ => rfl
theorem nn_steps (ss : List (List Str)) (cs : List (List Int)) : (stepsD ss cs).filter (fun p => nnD p.2) = stE ss ss.length := by
  unfold stepsD
  rw [List.filter_append, List.filter_eq_self.mpr fun p hp => ?_, List.filter_eq_nil_iff.mpr fun p hp => ?_, List.append_nil]
  · obtain ⟨_, _, s, _, rfl | rfl⟩ := stC_key hp <;> exact fun e => absurd (show false = true from e) Bool.false_ne_true
  · obtain ⟨a, b, _, _, rfl, _⟩ := stE_key hp
    rfl
theorem epairs_asc (ss : List (List Str)) : (epairs ss).Pairwise fun a b => SrtO.lexB a b = true := by
  unfold epairs
  rw [List.pairwise_flatMap]
  refine ⟨fun a _ => List.pairwise_map.mpr ?_, ?_⟩
  · refine List.Pairwise.imp ?_ (List.Pairwise.filter _ (List.pairwise_lt_range))
    intro x y h
    exact SrtO.lexB_iff.mpr (.inr ⟨rfl, by show (x : Int) < (y : Int); omega⟩)
  · refine List.Pairwise.imp ?_ (List.pairwise_lt_range)
    intro a b h x hx y hy
    obtain ⟨_, _, rfl⟩ := List.mem_map.mp hx
    obtain ⟨_, _, rfl⟩ := List.mem_map.mp hy
    exact SrtO.lexB_iff.mpr (.inl (by show (a : Int) < (b : Int); omega))
theorem lex_ne {a b : Int × Int} (h : SrtO.lexB a b = true) : a ≠ b := fun e => by
  rw [e] at h
  have := SrtO.lexB_iff.mp h
  omega
theorem rowC_nd {n at' : Nat} : ∀ {v : List Int}, v.Pairwise (· < ·) → (∀ x ∈ v, x < n) → ((rowC n at' v).map (·.1)).Nodup
  | [], _, _ => List.nodup_nil
  | x :: r, hp, hb => by
    rw [List.pairwise_cons] at hp
    have hx := hb x (List.mem_cons_self ..)
    have ih := rowC_nd (n := n) (at' := at') hp.2 fun y hy => hb y (List.mem_cons_of_mem _ hy)
    show ((k2 (n + at' : Nat) x) :: (k2 x (n + at' : Nat)) :: (rowC n at' r).map (·.1)).Nodup
    have key : ∀ q ∈ (rowC n at' r).map (·.1), q ≠ k2 (n + at' : Nat) x ∧ q ≠ k2 x (n + at' : Nat) := fun q hq => by
      obtain ⟨p, hp', rfl⟩ := List.mem_map.mp hq
      obtain ⟨s, hs, rfl | rfl⟩ := rowC_key hp'
      · have := hp.1 s hs
        have := hb s (List.mem_cons_of_mem _ hs)
        exact ⟨fun e => by have := (k2_inj e).2; omega, fun e => by have := (k2_inj e).1; omega⟩
      · have := hp.1 s hs
        have := hb s (List.mem_cons_of_mem _ hs)
        exact ⟨fun e => by have := (k2_inj e).1; omega, fun e => by have := (k2_inj e).1; omega⟩
    refine List.nodup_cons.mpr ⟨fun hm => ?_, List.nodup_cons.mpr ⟨fun hm => (key _ hm).2 rfl, ih⟩⟩
    rcases List.mem_cons.mp hm with e | hm
    · have := (k2_inj e).1
      omega
    · exact (key _ hm).1 rfl
theorem stC_nd {n : Nat} {cs : List (List Int)} (h : ∀ v ∈ cs, v.Pairwise (· < ·) ∧ ∀ x ∈ v, x < n) : ∀ m, m ≤ cs.length → ((stC n cs m).map (·.1)).Nodup
  | 0, _ => List.nodup_nil
  | m + 1, hm => by
    have ih := stC_nd h m (by omega)
    have hv := h _ (getD_in (z := []) (show m < cs.length by omega))
    rw [stC_succ, List.map_append, List.nodup_append]
    refine ⟨ih, rowC_nd hv.1 hv.2, fun a ha b hb e => ?_⟩
    subst e
    obtain ⟨p, hp, e1⟩ := List.mem_map.mp ha
    obtain ⟨q, hq, e2⟩ := List.mem_map.mp hb
    obtain ⟨at', hlt, s, hs, rfl | rfl⟩ := stC_key hp
    · obtain ⟨t, ht, rfl | rfl⟩ := rowC_key hq
      · have := (k2_inj (e1.trans e2.symm)).1; omega
      · have := (k2_inj (e1.trans e2.symm)).1
        have := hv.2 t ht
        omega
    · have hs' := (h _ (getD_in (z := []) (show at' < cs.length by omega))).2 s hs
      obtain ⟨t, ht, rfl | rfl⟩ := rowC_key hq
      · have := (k2_inj (e1.trans e2.symm)).1; omega
      · have := (k2_inj (e1.trans e2.symm)).2; omega
theorem keyD_inj2 {a b c d : Int} (h : keyD (k2 a b) = keyD (k2 c d)) : k2 a b = k2 c d := by
  have h' : (D.tup [.int a, .int b]) = .tup [.int c, .int d] := h
  injection h' with h'
  injection h' with h1 h2
  injection h2 with h2 _
  rw [D.int.inj h1, D.int.inj h2]
theorem steps_nd {ss : List (List Str)} {cs : List (List Int)} (hp : PlL ss cs) : ((stepsD ss cs).map (·.1)).Nodup := by
  unfold stepsD
  rw [List.map_append, List.nodup_append]
  refine ⟨?_, stC_nd (fun v hv => ⟨(hp.vis v hv).1, fun x hx => ((hp.vis v hv).2.1 x hx).2⟩) _ (Nat.le_refl _), fun a ha b hb e => ?_⟩
  · have h1 : (((stE ss ss.length).map (·.1)).map keyD).Nodup := by
      rw [stE_pairs]
      refine List.pairwise_map.mpr (List.Pairwise.imp ?_ (epairs_asc ss))
      intro a b h e
      refine lex_ne h ?_
      have e' : (D.tup [.int a.1, .int a.2]) = .tup [.int b.1, .int b.2] := e
      injection e' with e'
      injection e' with e1 e2
      injection e2 with e2 _
      exact Prod.ext (D.int.inj e1) (D.int.inj e2)
    exact (List.pairwise_map.mp h1).imp fun h e => h (by rw [e])
  · subst e
    obtain ⟨p, hp', e1⟩ := List.mem_map.mp ha
    obtain ⟨q, hq, e2⟩ := List.mem_map.mp hb
    obtain ⟨x, y, hx, hy, rfl, _⟩ := stE_key hp'
    obtain ⟨at', hlt, s, hs, rfl | rfl⟩ := stC_key hq
    · have := (k2_inj (e1.trans e2.symm)).1; omega
    · have := (k2_inj (e1.trans e2.symm)).2; omega
section
variable {P : Program} {w : World} {K : PySem.W.Frag} {mg : Str → Option Value} {base : Heap} {f : Addr} {fd : FuncData}
abbrev BNg : List Str := ["sorted", "tuple"]
variable (bi : ∀ x, x ∈ BNg → mg x = none)
abbrev sp__law_edges (K : PySem.W.Frag) : Sp := psp K (fun ds => ∃ ss cs, ds = [worldD ss cs] ∧ PlL ss cs) (fun ds e => ∃ ss cs, ds = [worldD ss cs] ∧ e = .tup ((epairs ss).map pD))
include bi in
theorem ok__law_edges (F : Fun K "_law_edges" "_law_edges" s__law_edges f fd) : FnOk P w K mg base CX0 1 f fd ["world"] (sp__law_edges K) := by
  refine F.ok sc__law_edges (fun vs H Q E h => ?_) (fun cdv A outer s H vs Q E hr h => ?_)
  · obtain ⟨G, ds, h1, ⟨ss, cs, rfl, _⟩, _⟩ := h
    exact h1.length
  · have hu := hu_of hr
    obtain ⟨G, ds, ⟨ss, cs, rfl, hp⟩, hlen, a, hq⟩ := fsp_start locT n__law_edges h
    refine ⟨_, (pss_one (ps_ret (pe_callTy (T := "tuple") (r := rTupOf K) u_tuple (by rfl) (bi "tuple" (by decide +kernel)) (by decide +kernel) (pa_cons (pe_callB (id := "sorted") (r := rSortedPO K) cr_sortedPO (by rfl) (bi "sorted" (by decide +kernel)) (by decide +kernel) (pa_cons (pe_lock (pe_lc (own := [("step", 1)]) (g := gName 1) rfl sc__law_edges.nd (pi_keys (pe_dget hu (pv 0) pe_str (fun _ _ => rfl))) (blkOk_by (N := n__law_edges) (sc := defScope s__law_edges) (by decide +kernel)) (fun _ _ _ _ _ => (pg_name (i := 1) sc__law_edges.nd rfl (by first | exact (.inl rfl) | exact (.inr rfl)))) (fun _ _ _ _ _ => (pts_one (pt_cmpR op_notN (pe_dget hu (pe_dget hu (pv 0) pe_str (fun _ _ => rfl)) (pv 1) (fun _ _ => rfl)) pe_non (nomark _)))) (fun _ _ _ _ _ => (pv 1)))) pa_nil)) pa_nil)))), ?_⟩
    have hl : (stepsD ss cs).length ≤ 100000 := by
      have h1 := stE_len ss ss.length
      have h2 := stC_len (n := ss.length) (m := cs.length) (cs := cs) fun v hv => (hp.vis v hv).2.2
      have h3 : ss.length * ss.length ≤ 60 * 60 := Nat.mul_le_mul hp.ns hp.ns
      have := hp.nc
      unfold stepsD
      rw [List.length_append]; omega
    refine x_ret a (ed_tupL (ed_cb (ead_cons (Ed.is (ed_keysN (ρ := [some (worldD ss cs), none]) (j := 0) (k := 1) (z := "steps") rfl (show getD' _ _ = some (.dt (stepsD ss cs)) from rfl) (steps_nd hp) (fun p hp' => ?_) hl (by decide) (by show 1 < 2; decide)) ?_) ea_nil) (rc_sortP (epairs_asc ss)))) fun v H' d hd a' => hq ⟨ss, cs, rfl, hd⟩ a'
    · rcases List.mem_append.mp hp' with z | z
      · obtain ⟨a, b, _, _, rfl, _⟩ := stE_key z
        exact .inr ⟨_, rfl⟩
      · obtain ⟨_, _, s, _, rfl | rfl⟩ := stC_key z <;> exact .inl rfl
    · rw [nn_steps, stE_pairs]; rfl
end
end Cal


namespace Cal
open PySem PySem.Spec PyProof.Rows L2
/-! ### the program's values are the law's -/
theorem shared_both (ss : List (List Str)) (a b : Nat) : sharedS ss a b = if a = b then [] else bothS ss a b := by
  unfold sharedS bothS keptS
  by_cases h : a = b
  · rw [if_pos h, if_pos (by rw [h])]
  · rw [if_neg h, if_neg (by omega)]; rfl
theorem edges_eq (ss : List (List Str)) : edgesD ss = (epairs ss).map pD := by
  unfold edgesD epairs
  rw [List.map_flatMap]
  refine congrArg (fun g => List.flatMap g (List.range ss.length)) (funext fun a => ?_)
  rw [List.map_map]
  have e : (fun b : Nat => !(sharedS ss a b).isEmpty) = fun b : Nat => !decide (a = b) && !(bothS ss a b).isEmpty := funext fun b => by
    rw [shared_both]
    by_cases h : a = b
    · rw [if_pos h, decide_eq_true h]; rfl
    · rw [if_neg h, decide_eq_false h]; rfl
  rw [e]; rfl
theorem get_mem {κ : Type} [DecidableEq κ] : ∀ {ds : List (κ × D)} {k : κ} {d : D}, (ds.map (·.1)).Nodup → (k, d) ∈ ds → getD' ds k = some d
  | [], _, _, _, h => by cases h
  | (k', d') :: r, k, d, hn, h => by
    rw [List.map_cons, List.nodup_cons] at hn
    unfold getD'
    rcases List.mem_cons.mp h with e | e
    · cases e
      rw [List.find?_cons_of_pos (by exact decide_eq_true rfl)]; rfl
    · have hne : k' ≠ k := fun z => hn.1 (List.mem_map.mpr ⟨(k, d), e, z.symm⟩)
      rw [List.find?_cons_of_neg (by simpa using hne)]
      exact get_mem hn.2 e
theorem get_none {κ : Type} [DecidableEq κ] : ∀ {ds : List (κ × D)} {k : κ}, (∀ p ∈ ds, p.1 ≠ k) → getD' ds k = none
  | [], _, _ => rfl
  | (k', d') :: r, k, h => by
    unfold getD'
    rw [List.find?_cons_of_neg (by simpa using h _ (List.mem_cons_self ..))]
    exact get_none fun p hp => h p (List.mem_cons_of_mem _ hp)
/-- what stands in the map at a pair of sites -/
theorem get_site {ss : List (List Str)} {cs : List (List Int)} (hp : PlL ss cs) {a b : Nat} (ha : a < ss.length) (hb : b < ss.length) : getD' (stepsD ss cs) (k2 a b) = if a = b ∨ bothS ss a b = [] then none else some (tS (bothS ss a b)) := by
  by_cases h : a = b ∨ bothS ss a b = []
  · rw [if_pos h]
    refine get_none fun p hp' e => ?_
    rcases List.mem_append.mp hp' with z | z
    · obtain ⟨x, y, hx, hy, rfl, h1, h2⟩ := stE_key z
      have e1 := (k2_inj e).1
      have e2 := (k2_inj e).2
      have ex : x = a := by omega
      have ey : y = b := by omega
      subst ex; subst ey
      rcases h with h | h
      · exact h1 h
      · exact h2 h
    · obtain ⟨at', _, s, hs, rfl | rfl⟩ := stC_key z
      · have := (k2_inj e).1; omega
      · have := (k2_inj e).2; omega
  · rw [if_neg h]
    refine get_mem (steps_nd hp) (List.mem_append_left _ ?_)
    refine List.mem_flatMap.mpr ⟨a, List.mem_range.mpr ha, List.mem_map.mpr ⟨b, List.mem_filter.mpr ⟨List.mem_range.mpr hb, ?_⟩, rfl⟩⟩
    rw [decide_eq_false (fun z => h (.inl z))]
    cases e : bothS ss a b with
    | nil => exact absurd (.inr e) h
    | cons x r => rfl
theorem mem_stC {n m at' : Nat} {cs : List (List Int)} {s : Int} (h : at' < m) (hs : s ∈ cs.getD at' []) : (k2 (n + at' : Nat) s, D.non) ∈ stC n cs m ∧ (k2 s (n + at' : Nat), D.non) ∈ stC n cs m :=
  ⟨List.mem_flatMap.mpr ⟨at', List.mem_range.mpr h, List.mem_flatMap.mpr ⟨s, hs, List.mem_cons_self ..⟩⟩, List.mem_flatMap.mpr ⟨at', List.mem_range.mpr h, List.mem_flatMap.mpr ⟨s, hs, List.mem_cons_of_mem _ (List.mem_cons_self ..)⟩⟩⟩
/-- .. of a client and any place, both ways -/
theorem get_client {ss : List (List Str)} {cs : List (List Int)} (hp : PlL ss cs) {c b : Nat} (hc : c < cs.length) : getD' (stepsD ss cs) (k2 (ss.length + c : Nat) b) = (if (b : Int) ∈ cs.getD c [] then some .non else none) ∧ getD' (stepsD ss cs) (k2 b (ss.length + c : Nat)) = if (b : Int) ∈ cs.getD c [] then some .non else none := by
  have bd : ∀ at' : Nat, at' < cs.length → ∀ s ∈ cs.getD at' [], s < ss.length := fun at' ha s hs => ((hp.vis _ (getD_in (z := []) ha)).2.1 s hs).2
  by_cases h : (b : Int) ∈ cs.getD c []
  · rw [if_pos h]
    exact ⟨get_mem (steps_nd hp) (List.mem_append_right _ (mem_stC hc h).1), get_mem (steps_nd hp) (List.mem_append_right _ (mem_stC hc h).2)⟩
  · rw [if_neg h]
    refine ⟨get_none fun p hp' e => ?_, get_none fun p hp' e => ?_⟩
    · rcases List.mem_append.mp hp' with z | z
      · obtain ⟨x, y, hx, hy, rfl, _⟩ := stE_key z
        have := (k2_inj e).1; omega
      · obtain ⟨at', ha, s, hs, rfl | rfl⟩ := stC_key z
        · have e1 := (k2_inj e).1
          have e2 := (k2_inj e).2
          have : at' = c := by omega
          subst this
          exact h (by rw [← e2]; exact hs)
        · have e1 := (k2_inj e).1
          have := bd at' ha s hs
          omega
    · rcases List.mem_append.mp hp' with z | z
      · obtain ⟨x, y, hx, hy, rfl, _⟩ := stE_key z
        have := (k2_inj e).2; omega
      · obtain ⟨at', ha, s, hs, rfl | rfl⟩ := stC_key z
        · have e1 := (k2_inj e).2
          have := bd at' ha s hs
          omega
        · have e1 := (k2_inj e).1
          have e2 := (k2_inj e).2
          have : at' = c := by omega
          subst this
          exact h (by rw [← e1]; exact hs)
theorem kept_client (ss : List (List Str)) {a : Nat} (h : ss.length ≤ a) : keptS ss a = [] := by
  unfold keptS
  rw [List.getD_eq_getElem?_getD, List.getElem?_eq_none (by show ss.length ≤ ((a : Int)).toNat; omega)]; rfl
/-- the law's due is what is shared; a step is there where the map has one -/
theorem step_eq {ss : List (List Str)} {cs : List (List Int)} (hp : PlL ss cs) {a b : Nat} (ha : a < ss.length + cs.length) (hb : b < ss.length + cs.length) :
    (getD' (stepsD ss cs) (k2 a b)).isSome = stepB ss cs a b ∧ ((getD' (stepsD ss cs) (k2 a b)).getD (.tup []) = .non ∧ sharedS ss a b = [] ∨ (getD' (stepsD ss cs) (k2 a b)).getD (.tup []) = tS (sharedS ss a b)) := by
  have bd : ∀ c : Nat, c < cs.length → ∀ s ∈ cs.getD c [], s < ss.length := fun c hc s hs => ((hp.vis _ (getD_in (z := []) hc)).2.1 s hs).2
  have v0 : ∀ x y : Nat, x < ss.length → visitB ss cs x y = false := fun x y hx => by
    unfold visitB
    rw [decide_eq_false (show ¬ (ss.length : Int) ≤ (x : Int) by omega)]; rfl
  have v1 : ∀ c y : Nat, visitB ss cs (ss.length + c : Nat) y = decide ((y : Int) ∈ cs.getD c []) := fun c y => by
    unfold visitB
    rw [decide_eq_true (show (ss.length : Int) ≤ ((ss.length + c : Nat) : Int) by omega), Bool.true_and, show (((ss.length + c : Nat) : Int) - ss.length).toNat = c by omega]
  have v2 : ∀ c y : Nat, c < cs.length → ss.length ≤ y → visitB ss cs (ss.length + c : Nat) y = false := fun c y hc hy => by
    rw [v1]
    exact decide_eq_false fun z => by have := bd c hc _ z; omega
  by_cases h1 : a < ss.length
  · by_cases h2 : b < ss.length
    · rw [get_site hp h1 h2]
      unfold stepB
      rw [shared_both, v0 a b h1, v0 b a h2]
      by_cases h : a = b
      · rw [if_pos (.inl h), if_pos h]; exact ⟨rfl, .inr rfl⟩
      · rw [if_neg h]
        by_cases e : bothS ss a b = []
        · rw [if_pos (.inr e), e]; exact ⟨rfl, .inr rfl⟩
        · rw [if_neg (fun z => z.elim h e)]
          refine ⟨?_, .inr rfl⟩
          cases e2 : bothS ss a b with
          | nil => exact absurd e2 e
          | cons x r => rfl
    · obtain ⟨c, rfl⟩ := Nat.exists_eq_add_of_le (show ss.length ≤ b by omega)
      have hc : c < cs.length := by omega
      have hs : sharedS ss a (ss.length + c : Nat) = [] := by
        rw [shared_both, if_neg (by omega)]
        unfold bothS
        have e : ss.getD (ss.length + c) [] = [] := by rw [List.getD_eq_getElem?_getD, List.getElem?_eq_none (by omega)]; rfl
        rw [e]
        exact List.filter_eq_nil_iff.mpr fun z _ => by simp
      rw [(get_client hp hc).2, hs]
      unfold stepB
      rw [hs, v0 a _ h1, v1]
      by_cases m : (a : Int) ∈ cs.getD c []
      · rw [if_pos m, decide_eq_true m]; exact ⟨rfl, .inl ⟨rfl, rfl⟩⟩
      · rw [if_neg m, decide_eq_false m]; exact ⟨rfl, .inr rfl⟩
  · obtain ⟨c, rfl⟩ := Nat.exists_eq_add_of_le (show ss.length ≤ a by omega)
    have hc : c < cs.length := by omega
    have hs : sharedS ss (ss.length + c : Nat) b = [] := by
      rw [shared_both]
      split
      · rfl
      · unfold bothS
        have e : ss.getD (ss.length + c) [] = [] := by rw [List.getD_eq_getElem?_getD, List.getElem?_eq_none (by omega)]; rfl
        rw [e]; rfl
    have hv : visitB ss cs b (ss.length + c : Nat) = false := by
      by_cases h2 : b < ss.length
      · exact v0 _ _ h2
      · obtain ⟨e, rfl⟩ := Nat.exists_eq_add_of_le (show ss.length ≤ b by omega)
        exact v2 e _ (by omega) (by omega)
    rw [(get_client hp hc).1, hs]
    unfold stepB
    rw [hs, hv, v1]
    by_cases m : (b : Int) ∈ cs.getD c []
    · rw [if_pos m, decide_eq_true m]; exact ⟨rfl, .inl ⟨rfl, rfl⟩⟩
    · rw [if_neg m, decide_eq_false m]; exact ⟨rfl, .inr rfl⟩
end Cal


namespace Cal
open PySem PySem.Spec PyProof.Rows L2
abbrev s__law_deck : Stmt := topS 39
abbrev n__law_deck : List Str := ["script", "mixed", "cell"]
theorem sc__law_deck : FnScope n__law_deck ["script"] (defScope s__law_deck) := ⟨rfl, rfl, rfl, by decide +kernel, rfl, by decide +kernel, by decide +kernel⟩
abbrev s__law_draw : Stmt := topS 40
abbrev n__law_draw : List Str := ["deck", "many", "figure", "cell"]
theorem sc__law_draw : FnScope n__law_draw ["deck", "many"] (defScope s__law_draw) := ⟨rfl, rfl, rfl, by decide +kernel, rfl, by decide +kernel, by decide +kernel⟩
abbrev s__law_pick : Stmt := topS 41
abbrev n__law_pick : List Str := ["deck", "some"]
theorem sc__law_pick : FnScope n__law_pick ["deck", "some"] (defScope s__law_pick) := ⟨rfl, rfl, rfl, by decide +kernel, rfl, by decide +kernel, by decide +kernel⟩
section
variable {P : Program} {w : World} {K : PySem.W.Frag} {mg : Str → Option Value} {base : Heap} {f : Addr} {fd : FuncData}
abbrev BN : List Str := ["int", "len", "max"]
variable (bi : ∀ x, x ∈ BN → mg x = none)
/-- the draw: some number below many -/
abbrev sp__law_draw (K : PySem.W.Frag) : Sp := dsp K (fun es => ∃ n, es = [.int n] ∧ 1 ≤ n ∧ n ≤ 1000000) (fun es e => ∃ n r, es = [.int n] ∧ e = .int r ∧ 0 ≤ r ∧ r < n)
abbrev sp__law_pick (K : PySem.W.Frag) : Sp := dsp K (fun es => ∃ ds, es = [.lst ds] ∧ ds ≠ [] ∧ ds.length ≤ 1000000) (fun es e => ∃ ds, es = [.lst ds] ∧ e ∈ ds)
def isIntD (d : D) : Prop := ∃ z, d = .int z
theorem rdI {B : Bs} {r : R2} {ρ : Ro} {μ : Mu} {ta tb : TE} {g : Int → Int → Int} (hr : ∀ i j, RD B r ρ μ (.int i) (.int j) (fun e => e = .int (g i j))) (ha : Ev B ta ρ μ isIntD) (hb : Ev B tb ρ μ isIntD) : Ev B (tOp r ta tb) ρ μ isIntD :=
  ev_op ha hb fun d1 d2 ⟨i, e1⟩ ⟨j, e2⟩ => by
    subst e1; subst e2
    exact fun τ σ H x y a Q q => hr i j τ σ H x y a Q fun v H' d hd a' => q v H' d ⟨_, hd⟩ a'
theorem evI {B : Bs} {te : TE} {ρ : Ro} {μ : Mu} {i : Int} (h : Ed B te ρ μ (.int i)) : Ev B te ρ μ isIntD := h.ev ⟨i, rfl⟩
include bi in
theorem ok__law_draw (F : Fun K "_law_draw" "_law_draw" s__law_draw f fd) : FnOk P w K mg base CX0 1 f fd ["deck", "many"] (sp__law_draw K) := by
  refine F.ok sc__law_draw (fun vs H Q E h => ?_) (fun cdv A outer s H vs Q E hr h => ?_)
  · obtain ⟨dk, l, G, ds, h1, ⟨es, rfl, n, rfl, _⟩, _⟩ := h
    exact h1.length
  · have hu := hu_of hr
    obtain ⟨dk, l, G, es, ⟨n, rfl, hn1, hn2⟩, hlen, a, hq⟩ := dsp_start n__law_draw h
    refine ⟨_, (pss_cons (ps_dput hu (pv 0) pe_str (pe_op (r := rAddU K) u_add (pe_dget hu (pv 0) pe_str (fun _ _ => rfl)) pe_int) rfl)
      (pss_cons (ps_asg (pe_op (r := rAddU K) u_add (pe_dget hu (pv 0) pe_str (fun _ _ => rfl)) (pe_op u_mul2 pe_int (pe_dget hu (pv 0) pe_str (fun _ _ => rfl)))) (pg_name (i := 2) sc__law_draw.nd rfl (by first | exact (.inl rfl) | exact (.inr rfl))))
      (C8.pss_cut (ps_if (pt_cmpR (r := rNeD K) (u_ne hr.units) (pe_dget hu (pv 0) pe_str (fun _ _ => rfl)) (pe_lst pa_nil) (nomark _)) (pss_cons (ps_asg (pe_bm0 PySem.F.plainAttrs_list PySem.F.slot_list_pop PySem.F.type_list_pop mt_pop (pe_dget hu (pv 0) pe_str (fun _ _ => rfl))) (pg_name (i := 3) sc__law_draw.nd rfl (by first | exact (.inl rfl) | exact (.inr rfl))))
      (pss_cons (ps_if (pt_cmpR u_ge (pv 3) (pe_op op_pow pe_int pe_int) (nomark _)) (pss_cons (ps_expr (pe_bm PySem.F.plainAttrs_list PySem.F.slot_list_append PySem.F.type_list_append mt_append (pe_dget hu (pv 0) pe_str (fun _ _ => rfl)) (pa_cons (pe_op op_fdivW (pv 3) (pe_callB (id := "max") (call_max2 rfl) (by rfl) (bi "max" (by decide +kernel)) (by decide +kernel) (pa_cons pe_int (pa_cons (pv 1) pa_nil)))) pa_nil)))
      (pss_one (ps_ret (pe_op op_mod (pe_callTy (T := "int") call_int1 (by rfl) (bi "int" (by decide +kernel)) (by decide +kernel) (pa_cons (pv 3) pa_nil)) (pv 1))))) pss_nil)
      (pss_one (ps_asg (pe_op (r := rAddU K) u_add (pv 2) (pe_op op_mod (pe_callTy (T := "int") call_int1 (by rfl) (bi "int" (by decide +kernel)) (by decide +kernel) (pa_cons (pv 3) pa_nil)) pe_int)) (pg_name (i := 2) sc__law_draw.nd rfl (by first | exact (.inl rfl) | exact (.inr rfl))))))) pss_nil)
      (pss_cons (ps_asg (pe_op op_mod (pe_callTy (T := "int") call_int1 (by rfl) (bi "int" (by decide +kernel)) (by decide +kernel) (pa_cons (pe_op (r := rAddU K) u_add (pe_op u_mul2 (pv 2) pe_int) pe_int) pa_nil)) pe_int) (pg_name (i := 2) sc__law_draw.nd rfl (by first | exact (.inl rfl) | exact (.inr rfl))))
      (pss_cons (ps_asg (pe_op op_mod (pe_callTy (T := "int") call_int1 (by rfl) (bi "int" (by decide +kernel)) (by decide +kernel) (pa_cons (pe_op (r := rAddU K) u_add (pe_op (r := rAddU K) u_add (pe_op u_mul2 (pv 2) (pv 2)) (pe_op u_mul2 pe_int (pe_dget hu (pv 0) pe_str (fun _ _ => rfl)))) pe_int) pa_nil)) pe_int) (pg_name (i := 2) sc__law_draw.nd rfl (by first | exact (.inl rfl) | exact (.inr rfl))))
      (pss_cons (ps_asg (pe_op op_mod (pe_callTy (T := "int") call_int1 (by rfl) (bi "int" (by decide +kernel)) (by decide +kernel) (pa_cons (pe_op u_mul2 (pv 2) pe_int) pa_nil)) pe_int) (pg_name (i := 2) sc__law_draw.nd rfl (by first | exact (.inl rfl) | exact (.inr rfl))))
      (pss_one (ps_ret (pe_op op_mod (pe_callTy (T := "int") call_int1 (by rfl) (bi "int" (by decide +kernel)) (by decide +kernel) (pa_cons (pe_op op_fdivW (pv 2) pe_int) pa_nil)) (pv 1)))))))))), ?_⟩
    -- deck['draws'] = deck['draws'] + 1
    refine (y_putDraws a rfl (rdI (fun i j => rd_addI) (ev_draws rfl) (evI ed_int)) fun H1 a1 => ?_)
    -- figure = deck['mixed'] + 54059 * deck['draws']
    refine (y_setV a1 (rdI (fun i j => rd_addI) (ev_mixed rfl) (ev_op (P := isIntD) ed_int (ev_draws rfl) fun d1 d2 e1 ⟨j, e2⟩ => by
      subst e1; subst e2
      exact fun τ σ H x y a Q q => rd_mulI2 (.inl ⟨by decide, by decide⟩) τ σ H x y a Q fun v H' d hd a' => q v H' d ⟨_, hd⟩ a')) fun d σ2 H2 hd a2 => ?_)
    obtain ⟨z, rfl⟩ := hd
    -- if deck['left'] != []
    refine ⟨fun σ' H' => ∃ (z : Int) (c : Option D), At (Bd K dk l 64 G H) [some (.raw (.ref dk)), some (.int n), some (.int z), c] [] [] σ' H', ?_, ?_⟩
    · refine x_ifLeft a2 rfl (fun H3 a3 hne => ?_) (fun H3 a3 => x_next ⟨z, none, a3⟩)
      -- cell = deck['left'].pop()
      refine (y_popLeft (k := 63) a3 rfl hne fun c σ4 H4 a4 => ?_)
      -- if cell >= 10 ** 18
      refine (y_if (Pb := fun _ => True) a4 (et_test (P := fun d => ∃ b, d = .bl b) (ev_op (P1 := fun d => d = .int c) (P2 := isIntD) (ed_var rfl) (evI (ed_op ed_int ed_int (rd_pow ⟨by decide, by decide, by decide⟩))) fun d1 d2 e1 ⟨j, e2⟩ => by
        subst e1; subst e2
        exact fun τ σ H x y a Q q => rd_geI τ σ H x y a Q fun v H' d hd a' => q v H' d ⟨_, hd⟩ a') fun d ⟨b, e⟩ => ⟨b, e, True.intro⟩) (fun _ H5 a5 => ?_) fun _ H5 a5 => ?_)
      · -- deck['left'].append(cell // max(2, many)); return int(cell) % many
        refine (y_appLeft (k := 63) a5 rfl (evI (ed_op (ed_var rfl) (ed_cb (ead_cons ed_int (ead_cons (ed_var rfl) ea_nil)) rc_max) (rd_fdiv (wide_div (b := 30) (by omega) (by omega) (by decide) (by decide))))) (by decide) fun H6 a6 => ?_)
        exact x_ret a6 (ed_op (ed_cb (ead_cons (ed_var rfl) ea_nil) rc_intI) (ed_var rfl) (rd_mod (by omega))) fun v H7 d hd a7 => hq ⟨n, c % n, rfl, hd, Int.emod_nonneg _ (by omega), Int.emod_lt_of_pos _ (by omega)⟩ a7
      · -- figure = figure + int(cell) % 2147483629
        exact x_set (Bd.to (k' := 64) (by decide) a5) (ed_op (ed_var rfl) (ed_op (ed_cb (ead_cons (ed_var rfl) ea_nil) rc_intI) ed_int (rd_mod (by decide))) rd_addI) fun σ6 H6 a6 => ⟨_, _, a6⟩
    · rintro σ3 H3 ⟨z, c, a3⟩
      -- the figure is mixed three times
      refine (y_setV (P := fun d => ∃ y : Int, d = .int y ∧ 0 ≤ y ∧ y < 2147483647) a3 (Ev.imp (ed_op (ed_cb (ead_cons (ed_op (ed_op (ed_var rfl) ed_int (rd_mulI2 (.inr ⟨by decide, by decide⟩))) ed_int rd_addI) ea_nil) rc_intI) ed_int (rd_mod (by decide))) fun d hd => ⟨_, hd, Int.emod_nonneg _ (by decide), Int.emod_lt_of_pos _ (by decide)⟩) fun d σ4 H4 hd a4 => ?_)
      obtain ⟨y, rfl, b1, b2⟩ := hd
      refine (y_setV (P := isIntD) a4 (ev_op (P1 := isIntD) (P2 := fun d => d = .int 2147483587) ?_ ed_int fun d1 d2 ⟨i, e1⟩ e2 => by
        subst e1; subst e2
        exact fun τ σ H x y a Q q => rd_mod (by decide) τ σ H x y a Q fun v H' d hd a' => q v H' d ⟨_, hd⟩ a') fun d σ5 H5 hd a5 => ?_)
      · refine ev_cb (Ps := fun ds => ∃ z, ds = [.int z]) (ea_cons (P := isIntD) (rdI (fun i j => rd_addI) (rdI (fun i j => rd_addI) (evI (ed_op (ed_var rfl) (ed_var rfl) (rd_mulI2 (.inl ⟨by omega, by omega⟩)))) (ev_op (P := isIntD) ed_int (ev_draws rfl) fun d1 d2 e1 ⟨j, e2⟩ => by
            subst e1; subst e2
            exact fun τ σ H x y a Q q => rd_mulI2 (.inl ⟨by decide, by decide⟩) τ σ H x y a Q fun v H' d hd a' => q v H' d ⟨_, hd⟩ a')) (evI ed_int)) fun d ⟨z, e⟩ => by
            subst e
            exact fun τ σ H a Q q => ea_nil τ σ H a Q fun vs H' ds e => q vs H' ds ⟨z, by rw [e]⟩) fun ds ⟨z, e⟩ => by
          subst e
          exact fun τ σ H x y a Q q => rc_intI τ σ H x y a Q fun v H' d hd a' => q v H' d ⟨_, hd⟩ a'
      · obtain ⟨u, rfl⟩ := hd
        refine (y_set a5 (ed_op (ed_cb (ead_cons (ed_op (ed_var rfl) ed_int (rd_mulI2 (.inr ⟨by decide, by decide⟩))) ea_nil) rc_intI) ed_int (rd_mod (by decide))) fun σ6 H6 a6 => ?_)
        exact x_ret a6 (ed_op (ed_cb (ead_cons (ed_op (ed_var rfl) ed_int (rd_fdiv (wide_div (b := 30) (by decide) (by decide) (by decide) (by decide)))) ea_nil) rc_intI) (ed_var rfl) (rd_mod (by omega))) fun v H7 d hd a7 => hq ⟨n, _, rfl, hd, Int.emod_nonneg _ (by omega), Int.emod_lt_of_pos _ (by omega)⟩ a7
include bi in
theorem ok__law_pick (F : Fun K "_law_pick" "_law_pick" s__law_pick f fd) (c__law_draw : C8.Cal P w K mg base 1 "_law_draw" (sp__law_draw K) []) : FnOk P w K mg base CX0 2 f fd ["deck", "some"] (sp__law_pick K) := by
  refine F.ok sc__law_pick (fun vs H Q E h => ?_) (fun cdv A outer s H vs Q E hr h => ?_)
  · obtain ⟨dk, l, G, ds, h1, ⟨es, rfl, n, rfl, _⟩, _⟩ := h
    exact h1.length
  · have hu := hu_of hr
    obtain ⟨dk, l, G, es, ⟨ds, rfl, hn1, hn2⟩, hlen, a, hq⟩ := dsp_start n__law_pick h
    refine ⟨_, (pss_one (ps_ret (pe_ix (r := rIx K) ix_seq (pv 1) (C8.pe_c c__law_draw hr (by first | decide | omega) (by rfl) (pa_cons (pv 0) (pa_cons (pe_callB (id := "len") (r := rLenU K) u_len (by rfl) (bi "len" (by decide +kernel)) (by decide +kernel) (pa_cons (pv 1) pa_nil)) pa_nil))) (fun _ _ => rfl)))), ?_⟩
    have hp : 0 < ds.length := List.length_pos_iff.mpr hn1
    refine x_ret a (ev_op (P1 := fun d => d = .lst ds) (P2 := fun d => ∃ r : Int, d = .int r ∧ 0 ≤ r ∧ r < ds.length) (P := fun e => e ∈ ds) (ed_var rfl) (ed_d rfl (ead_cons (ed_lenL (ed_var rfl)) ea_nil) ⟨_, rfl, by omega, by omega⟩ (by rintro e ⟨n, r, e1, rfl, h1, h2⟩; cases e1; exact ⟨r, rfl, h1, h2⟩)) fun d1 d2 e1 ⟨r, e2, h1, h2⟩ => ?_) fun v H' d' hd' a' => hq ⟨_, rfl, hd'⟩ a'
    subst e1; subst e2
    exact rd_ixLP ⟨h1, h2⟩ fun d hd => hd
end
end Cal


namespace Cal
open PySem PySem.Spec PyProof.Rows L2
abbrev s__law_names : Stmt := topS 44
abbrev n__law_names : List Str := ["deck", "many", "left", "found", "turn", "letter"]
theorem sc__law_names : FnScope n__law_names ["deck", "many"] (defScope s__law_names) := ⟨rfl, rfl, rfl, by decide +kernel, rfl, by decide +kernel, by decide +kernel⟩
abbrev s__law_some : Stmt := topS 45
abbrev n__law_some : List Str := ["deck", "many", "least", "left", "found", "turn"]
theorem sc__law_some : FnScope n__law_some ["deck", "many", "least"] (defScope s__law_some) := ⟨rfl, rfl, rfl, by decide +kernel, rfl, by decide +kernel, by decide +kernel⟩
/-! ### names -/
def hdS (s : Str) : Nat := s.cps.getD 0 0
def NameS (s : Str) : Prop := 1 ≤ s.cps.size ∧ s.cps.size ≤ 10 ∧ ∀ c ∈ s.cps.toList, 97 ≤ c ∧ c ≤ 122
def Names (ss : List Str) : Prop := (∀ s ∈ ss, NameS s) ∧ (ss.map hdS).Nodup
theorem perm_erase {α : Type} {l : List α} {k : Nat} {c : α} (h : l[k]? = some c) : (c :: l.eraseIdx k).Perm l := by
  induction l generalizing k with
  | nil => simp at h
  | cons x r ih =>
    cases k with
    | zero =>
      have : x = c := by simpa using h
      rw [this]; exact List.Perm.refl _
    | succ k =>
      have h2 : r[k]? = some c := by simpa using h
      exact (List.Perm.swap x c (r.eraseIdx k)).trans (List.Perm.cons x (ih h2))
theorem nodup_move {α : Type} {A l : List α} {k : Nat} {c : α} (h : l[k]? = some c) (n : (A ++ l).Nodup) : ((A ++ [c]) ++ l.eraseIdx k).Nodup := by
  rw [List.append_assoc]
  exact (List.Perm.append_left A (perm_erase h)).nodup_iff.mpr n
abbrev sgD (c : Nat) : D := .str ⟨#[c]⟩
theorem sgD_erase (ls : List Nat) (k : Nat) : (ls.map sgD).eraseIdx k = (ls.eraseIdx k).map sgD := by
  rw [List.eraseIdx_eq_take_drop_succ, List.eraseIdx_eq_take_drop_succ, List.map_append, List.map_take, List.map_drop]
theorem mul9 (c : Nat) : Txt.mul ⟨#[c]⟩ 9 = ⟨#[c, c, c, c, c, c, c, c, c]⟩ := rfl
theorem mul9_ok (c : Nat) : MulOk ⟨#[c]⟩ 9 := ⟨by decide, fun _ _ => by show ¬ ((1 : Nat) : Int) > (2 ^ 63 - 1) / 9; decide, fun _ _ => by first | decide +kernel | rfl⟩
theorem app_cps (s t : Str) : (s ++ t).cps = s.cps ++ t.cps := rfl
theorem nameS_of {c : Nat} {t : Str} (hc : 97 ≤ c ∧ c ≤ 122) (ht : t.cps.size ≤ 9) (h : ∀ x ∈ t.cps.toList, 97 ≤ x ∧ x ≤ 122) : NameS (⟨#[c]⟩ ++ t) ∧ hdS (⟨#[c]⟩ ++ t) = c := by
  refine ⟨⟨?_, ?_, fun x hx => ?_⟩, ?_⟩
  · rw [app_cps, Array.size_append]; show 1 ≤ 1 + t.cps.size; omega
  · rw [app_cps, Array.size_append]; show 1 + t.cps.size ≤ 10; omega
  · rw [app_cps, Array.toList_append] at hx
    rcases List.mem_append.mp hx with e | e
    · have : x = c := by simpa using e
      rw [this]; exact hc
    · exact h x e
  · unfold hdS
    rw [app_cps, Array.getD_eq_getD_getElem?, Array.getElem?_append_left (by show 0 < 1; decide)]
    rfl
section
variable {P : Program} {w : World} {K : PySem.W.Frag} {mg : Str → Option Value} {base : Heap} {f : Addr} {fd : FuncData}
abbrev BN2 : List Str := ["len", "list", "max", "min", "range", "sorted", "tuple"]
variable (bi : ∀ x, x ∈ BN2 → mg x = none)
abbrev sp__law_names (K : PySem.W.Frag) : Sp := dsp K (fun es => ∃ n : Int, es = [.int n] ∧ 0 ≤ n ∧ n ≤ 26) (fun es e => ∃ (n : Int) (ss : List Str), es = [.int n] ∧ e = .lst (ss.map .str) ∧ (ss.length : Int) = n ∧ Names ss)
abbrev sp__law_some (K : PySem.W.Frag) : Sp := dsp K (fun es => ∃ m n : Int, es = [.int m, .int n] ∧ 0 ≤ m ∧ m ≤ 60) (fun es e => ∃ (m n : Int) (is : List Int), es = [.int m, .int n] ∧ e = .tup (is.map .int) ∧ is.Pairwise (· < ·) ∧ (∀ x ∈ is, 0 ≤ x ∧ x < m) ∧ min m (max n 1) ≤ (is.length : Int) ∧ (is.length : Int) ≤ m)
def abc : List Nat := [97, 98, 99, 100, 101, 102, 103, 104, 105, 106, 107, 108, 109, 110, 111, 112, 113, 114, 115, 116, 117, 118, 119, 120, 121, 122]
theorem abc_is : ((List.range ("abcdefghijklmnopqrstuvwxyz" : Str).cps.size).map fun i => D.str ⟨#[("abcdefghijklmnopqrstuvwxyz" : Str).cps.getD i 0]⟩) = abc.map sgD := by
  have e : (List.range ("abcdefghijklmnopqrstuvwxyz" : Str).cps.size).map (fun i => ("abcdefghijklmnopqrstuvwxyz" : Str).cps.getD i 0) = abc := by decide +kernel
  rw [← e, List.map_map]; rfl
include bi in
theorem ok__law_names (F : Fun K "_law_names" "_law_names" s__law_names f fd) (c__law_draw : C8.Cal P w K mg base 1 "_law_draw" (sp__law_draw K) []) (c__law_pick : C8.Cal P w K mg base 2 "_law_pick" (sp__law_pick K) []) : FnOk P w K mg base CX0 3 f fd ["deck", "many"] (sp__law_names K) := by
  refine F.ok sc__law_names (fun vs H Q E h => ?_) (fun cdv A outer s H vs Q E hr h => ?_)
  · obtain ⟨dk, l, G, ds, h1, ⟨es, rfl, n, rfl, _⟩, _⟩ := h
    exact h1.length
  · have hu := hu_of hr
    obtain ⟨dk, l, G, es, ⟨n, rfl, hn1, hn2⟩, hlen, a, hq⟩ := dsp_start n__law_names h
    refine ⟨_, (pss_cons (ps_par (i := 2) (j := 3) (by rfl) sc__law_names.nd rfl rfl (by decide) rfl rfl (pa_cons (pe_callTy (T := "list") (r := rLstOf K) (u_list rfl) (by rfl) (bi "list" (by decide +kernel)) (by decide +kernel) (pa_cons pe_str pa_nil)) (pa_cons (pe_lst pa_nil) pa_nil)) (by rfl))
      (pss_cons (ps_for PassesOwn.never rfl (pi_range1 (by rfl) (bi "range" (by decide +kernel)) (pa_cons (pv 1) pa_nil)) (pg_name (i := 4) sc__law_names.nd rfl (by first | exact (.inl rfl) | exact (.inr rfl)))
        (pss_cons (ps_asg (pe_bm PySem.F.plainAttrs_list PySem.F.slot_list_pop PySem.F.type_list_pop mt_popAt (pv 2) (pa_cons (C8.pe_c c__law_draw hr (by first | decide | omega) (by rfl) (pa_cons (pv 0) (pa_cons (pe_callB (id := "len") (r := rLenU K) u_len (by rfl) (bi "len" (by decide +kernel)) (by decide +kernel) (pa_cons (pv 2) pa_nil)) pa_nil))) pa_nil)) (pg_name (i := 5) sc__law_names.nd rfl (by first | exact (.inl rfl) | exact (.inr rfl))))
      (pss_one (ps_expr (pe_bm PySem.F.plainAttrs_list PySem.F.slot_list_append PySem.F.type_list_append mt_append (pv 3) (pa_cons (pe_op (r := rAddU K) u_add (pv 5) (C8.pe_c c__law_pick hr (by first | decide | omega) (by rfl) (pa_cons (pv 0) (pa_cons (pe_lst (pa_cons pe_str (pa_cons pe_str (pa_cons pe_str (pa_cons pe_str (pa_cons pe_str (pa_cons (pe_op u_mul2 (pv 5) pe_int) (pa_cons pe_str pa_nil)))))))) pa_nil)))) pa_nil))))))
      (pss_one (ps_ret (pv 3))))), ?_⟩
    -- left, found
    refine y_par2 (R := fun d μ' => ∃ p, d = .raw (.ref p) ∧ μ' = [(p, .lst (abc.map sgD))]) (R2' := fun _ μ1 d μ' => ∃ p, d = .raw (.ref p) ∧ μ' = (p, .lst []) :: μ1) a (Xv.imp (xl_signs ed_str (by decide +kernel)) fun d μ' ⟨p, e1, e2⟩ => ⟨p, e1, by rw [e2, abc_is]⟩) (fun d1 μ1 _ => xl_nil) fun d1 μ1 d2 μ2 σ1 H1 hr1 hr2 a1 => ?_
    obtain ⟨pl, rfl, rfl⟩ := hr1
    obtain ⟨pf, rfl, rfl⟩ := hr2
    refine y_forN a1 (ei_rng1 (ead_cons (ed_var rfl) ea_nil) ⟨by omega, by omega⟩) (fun i ρ μ => ∃ (ls : List Nat) (fs : List Str) (x4 x5 : Option D), ρ = [some (.raw (.ref dk)), some (.int n), some (.raw (.ref pl)), some (.raw (.ref pf)), x4, x5] ∧ μ = [(pf, .lst (fs.map .str)), (pl, .lst (ls.map sgD))] ∧
      ls.length = 26 - i ∧ fs.length = i ∧ (∀ s ∈ fs, NameS s) ∧ (∀ c ∈ ls, 97 ≤ c ∧ c ≤ 122) ∧ (fs.map hdS ++ ls).Nodup) ⟨abc, [], none, none, rfl, rfl, rfl, rfl, by simp, by decide, by decide⟩ (fun i ρ' μ' τ1 σ2 H2 Dn hi hI a2 hnx hct hbk hrt => ?_) fun ρ' μ' σ2 H2 hI a2 => ?_
    · obtain ⟨ls, fs, x4, x5, rfl, rfl, l1, l2, f1, f2, nd⟩ := hI
      have hpos : 0 < ls.length := by omega
      -- letter = left.pop(..)
      refine y_asg a2 (xv_popAt (k := 1) (o_var rfl) rfl (ed_d rfl (ead_cons (ed_cb (ead_cons (ed_var rfl) ea_nil) (rc_lenC (k := 1) rfl)) ea_nil) ⟨_, rfl, by rw [List.length_map]; omega, by rw [List.length_map]; omega⟩ (by rintro e ⟨n, r, e1, rfl, h1, h2⟩; cases e1; exact ⟨r, rfl, h1, h2⟩)) (by rw [List.length_map]; omega)) fun d μ2 σ3 H3 hd a3 => ?_
      obtain ⟨k, hk, hkd, rfl⟩ := hd
      rw [List.length_map] at hk
      obtain ⟨c, hc⟩ : ∃ c, ls[k]? = some c := ⟨ls[k], List.getElem?_eq_getElem hk⟩
      have ed : d = sgD c := by
        rw [List.getElem?_map, hc] at hkd
        exact (Option.some.inj hkd).symm
      subst ed
      have hc2 := f2 c (List.mem_of_getElem? hc)
      rw [sgD_erase] at a3
      -- found.append(letter + ..)
      refine x_append (k := 0) (R := fun d μ' => (∃ s : Str, d = .str s ∧ NameS s ∧ hdS s = c) ∧ μ' = [(pf, .lst (fs.map .str)), (pl, .lst ((ls.eraseIdx k).map sgD))]) a3 (o_var rfl) rfl (ev_op (P1 := fun d => d = .str ⟨#[c]⟩) (P2 := fun d => d ∈ ([.str "", .str "", .str "", .str "a", .str "zz", .str (Txt.mul ⟨#[c]⟩ 9), .str "bc"] : List D)) (ed_var rfl) (ed_d rfl (ead_cons (ed_lst (ead_cons ed_str (ead_cons ed_str (ead_cons ed_str (ead_cons ed_str (ead_cons ed_str (ead_cons (ed_op (ed_var rfl) ed_int (rd_mulS2 (mul9_ok c))) (ead_cons ed_str ea_nil))))))) (show 7 ≤ sizeLine by decide)) ea_nil) ⟨_, rfl, by simp, (show 7 ≤ 1000000 by decide)⟩ (by rintro e ⟨ds, e1, e2⟩; cases e1; exact e2)) fun d1 d2 e1 e2 => ?_) (fun d μ' ⟨_, e⟩ => by rw [e]; rfl) (by rw [List.length_map]; omega) fun d μ' H4 ⟨⟨s, e1, e2, e3⟩, e4⟩ a4 => ?_
      · subst e1
        obtain ⟨t, rfl, ht, hx⟩ : ∃ t : Str, d2 = .str t ∧ t.cps.size ≤ 9 ∧ ∀ x ∈ t.cps.toList, 97 ≤ x ∧ x ≤ 122 := by
          simp only [List.mem_cons, List.not_mem_nil, or_false] at e2
          rcases e2 with e | e | e | e | e | e | e
          · exact ⟨_, e, by decide, by decide⟩
          · exact ⟨_, e, by decide, by decide⟩
          · exact ⟨_, e, by decide, by decide⟩
          · exact ⟨_, e, by decide, by decide⟩
          · exact ⟨_, e, by decide, by decide⟩
          · refine ⟨_, e, by rw [mul9]; show 9 ≤ 9; decide, fun x hx => ?_⟩
            rw [mul9] at hx
            have : x = c := by simpa using hx
            rw [this]; exact hc2
          · exact ⟨_, e, by decide, by decide⟩
        exact fun τ σ H x y a Q q => rd_addS (by show 1 + t.cps.size ≤ sizeLine; exact Nat.le_trans (by omega : 1 + t.cps.size ≤ 1000) (by decide)) τ σ H x y a Q fun v H' d hd a' => q v H' d ⟨_, hd, (nameS_of hc2 ht hx).1, (nameS_of hc2 ht hx).2⟩ a'
      · subst e1; subst e4
        refine hnx _ _ _ _ ⟨ls.eraseIdx k, fs ++ [s], some (.int i), some (sgD c), rfl, by rw [List.map_append]; rfl, ?_, ?_, fun s' hs' => ?_, fun c' hc' => f2 c' (List.mem_of_mem_eraseIdx hc'), ?_⟩ a4
        · rw [List.length_eraseIdx, if_pos hk]; omega
        · rw [List.length_append, l2]; rfl
        · rcases List.mem_append.mp hs' with e | e
          · exact f1 s' e
          · rw [List.mem_singleton.mp e]; exact e2
        · rw [List.map_append, List.map_cons, List.map_nil, e3]
          exact nodup_move hc nd
    · obtain ⟨ls, fs, x4, x5, rfl, rfl, l1, l2, f1, f2, nd⟩ := hI
      exact x_retCell a2 rfl fun a3 => hq ⟨n, fs, rfl, rfl, by rw [l2]; omega, f1, (List.nodup_append.mp nd).1⟩ a3
theorem max1_le {n z m : Int} (h : 0 ≤ z ∧ (1 ≤ z ∨ m = 0)) : 0 ≤ max n z ∧ (max n 1 ≤ max n z ∨ m = 0) := by
  refine ⟨Int.le_trans h.1 (Int.le_max_right ..), ?_⟩
  rcases h.2 with h | h
  · exact .inl (Int.max_le.mpr ⟨Int.le_max_left .., Int.le_trans h (Int.le_max_right ..)⟩)
  · exact .inr h
theorem min_le1 {n z m : Int} (h : 0 ≤ z ∧ (max n 1 ≤ z ∨ m = 0)) (h0 : 0 ≤ m) : min m (max n 1) ≤ min m z ∧ min m z ≤ m := by
  refine ⟨?_, Int.min_le_left ..⟩
  have h1 : 1 ≤ max n 1 := Int.le_max_right ..
  generalize max n 1 = M at h h1 ⊢
  obtain ⟨h2, h | h⟩ := h
  · omega
  · subst h
    omega
theorem perm_sorted {is fs ls : List Int} (hp : is.Perm fs) (hs : is.Pairwise (· ≤ ·)) (hn : (fs ++ ls).Nodup) : is.Pairwise (· < ·) := by
  have h1 : is.Nodup := hp.nodup_iff.mpr (List.nodup_append.mp hn).1
  have h2 : is.Pairwise (fun a b => a ≤ b ∧ a ≠ b) := List.pairwise_and_iff.mpr ⟨hs, h1⟩
  exact h2.imp fun ⟨a, b⟩ => by omega
include bi in
theorem ok__law_some (F : Fun K "_law_some" "_law_some" s__law_some f fd) (c__law_draw : C8.Cal P w K mg base 1 "_law_draw" (sp__law_draw K) []) (c__law_pick : C8.Cal P w K mg base 2 "_law_pick" (sp__law_pick K) []) : FnOk P w K mg base CX0 3 f fd ["deck", "many", "least"] (sp__law_some K) := by
  refine F.ok sc__law_some (fun vs H Q E h => ?_) (fun cdv A outer s H vs Q E hr h => ?_)
  · obtain ⟨dk, l, G, ds, h1, ⟨es, rfl, n, m, rfl, _⟩, _⟩ := h
    exact h1.length
  · have hu := hu_of hr
    obtain ⟨dk, l, G, es, ⟨m, n, rfl, hm1, hm2⟩, hlen, a, hq⟩ := dsp_start n__law_some h
    refine ⟨_, (pss_cons (ps_par (i := 3) (j := 4) (by rfl) sc__law_some.nd rfl rfl (by decide) rfl rfl (pa_cons (pe_listRg rfl (by rfl) (bi "list" (by decide +kernel)) (prg_1 (by rfl) (bi "range" (by decide +kernel)) (pv 1))) (pa_cons (pe_lst pa_nil) pa_nil)) (by rfl))
      (pss_cons (ps_for PassesOwn.never rfl (pi_range1 (by rfl) (bi "range" (by decide +kernel)) (pa_cons (pe_callB (id := "min") (call_min2 rfl) (by rfl) (bi "min" (by decide +kernel)) (by decide +kernel) (pa_cons (pv 1) (pa_cons (pe_callB (id := "max") (call_max2 rfl) (by rfl) (bi "max" (by decide +kernel)) (by decide +kernel) (pa_cons (pv 2) (pa_cons (C8.pe_c c__law_pick hr (by first | decide | omega) (by rfl) (pa_cons (pv 0) (pa_cons (pe_lst (pa_cons pe_int (pa_cons pe_int (pa_cons pe_int (pa_cons pe_int (pa_cons pe_int (pa_cons pe_int (pa_cons pe_int (pa_cons (pv 1) pa_nil))))))))) pa_nil))) pa_nil))) pa_nil))) pa_nil)) (pg_name (i := 5) sc__law_some.nd rfl (by first | exact (.inl rfl) | exact (.inr rfl)))
        (pss_one (ps_expr (pe_bm PySem.F.plainAttrs_list PySem.F.slot_list_append PySem.F.type_list_append mt_append (pv 4) (pa_cons (pe_bm PySem.F.plainAttrs_list PySem.F.slot_list_pop PySem.F.type_list_pop mt_popAt (pv 3) (pa_cons (C8.pe_c c__law_draw hr (by first | decide | omega) (by rfl) (pa_cons (pv 0) (pa_cons (pe_callB (id := "len") (r := rLenU K) u_len (by rfl) (bi "len" (by decide +kernel)) (by decide +kernel) (pa_cons (pv 3) pa_nil)) pa_nil))) pa_nil)) pa_nil)))))
      (pss_one (ps_ret (pe_callTy (T := "tuple") (r := rTupOf K) u_tuple (by rfl) (bi "tuple" (by decide +kernel)) (by decide +kernel) (pa_cons (pe_callB (id := "sorted") (r := rSortU2 K) u_sorted (by rfl) (bi "sorted" (by decide +kernel)) (by decide +kernel) (pa_cons (pv 4) pa_nil)) pa_nil)))))), ?_⟩
    refine y_par2 (R := fun d μ' => ∃ p, d = .raw (.ref p) ∧ μ' = [(p, .lst ((List.range m.toNat).map fun k : Nat => D.int (k : Int)))]) (R2' := fun _ μ1 d μ' => ∃ p, d = .raw (.ref p) ∧ μ' = (p, .lst []) :: μ1) a (xl_range (ed_var rfl) ⟨hm1, by omega⟩) (fun d1 μ1 _ => xl_nil) fun d1 μ1 d2 μ2 σ1 H1 hr1 hr2 a1 => ?_
    obtain ⟨pl, rfl, rfl⟩ := hr1
    obtain ⟨pf, rfl, rfl⟩ := hr2
    have hpick : ∀ (ρ : Ro) (μ : Mu), ρ[0]? = some (some (.raw (.ref dk))) → ρ[1]? = some (some (.int m)) → Ev (Bd K dk l 64 G H) (tCall (sp__law_pick K) [] C8.E0 (tCons (tVar 0) (tCons (tLst (tCons (tC (.int 2)) (tCons (tC (.int 2)) (tCons (tC (.int 3)) (tCons (tC (.int 2)) (tCons (tC (.int 2)) (tCons (tC (.int 3)) (tCons (tC (.int 1)) (tCons (tVar 1) tNil))))))))) tNil))) ρ μ (fun d => ∃ z : Int, d = .int z ∧ 0 ≤ z ∧ (1 ≤ z ∨ m = 0)) := fun ρ μ h0 h1 =>
      ed_d h0 (ead_cons (ed_lst (ead_cons ed_int (ead_cons ed_int (ead_cons ed_int (ead_cons ed_int (ead_cons ed_int (ead_cons ed_int (ead_cons ed_int (ead_cons (ed_var h1) ea_nil)))))))) (show 8 ≤ sizeLine by decide)) ea_nil) ⟨_, rfl, by simp, (show 8 ≤ 1000000 by decide)⟩ (by
        rintro e ⟨ds, e1, e2⟩
        cases e1
        simp only [List.mem_cons, List.not_mem_nil, or_false] at e2
        rcases e2 with e | e | e | e | e | e | e | e <;> refine ⟨_, e, ?_⟩ <;> omega)
    refine y_forRP (Pi := fun i => min m (max n 1) ≤ i ∧ i ≤ m) a1 (ev_cb (ea2P (ed_var rfl) (ev_cb (P := fun d => ∃ z : Int, d = .int z ∧ 0 ≤ z ∧ (max n 1 ≤ z ∨ m = 0)) (ea2P (ed_var rfl) (hpick _ _ rfl rfl)) fun ds hds => by
      obtain ⟨d, e1, z, e2, e3⟩ := hds
      subst e1; subst e2
      exact rc_max.imp fun d hd => ⟨max n z, hd, max1_le e3⟩)) fun ds hds => by
      obtain ⟨d, e1, z, e2, e3⟩ := hds
      subst e1; subst e2
      exact rc_min.imp fun d hd => ⟨min m z, hd, (min_le1 e3 hm1).1, (min_le1 e3 hm1).2⟩) (fun i hi => ⟨by omega, by omega⟩)
      (fun mm i ρ μ => ∃ (ls fs : List Int) (x5 : Option D), ρ = [some (.raw (.ref dk)), some (.int m), some (.int n), some (.raw (.ref pl)), some (.raw (.ref pf)), x5] ∧ μ = [(pf, .lst (fs.map .int)), (pl, .lst (ls.map .int))] ∧
        (ls.length : Int) = m - i ∧ fs.length = i ∧ (∀ x ∈ fs, 0 ≤ x ∧ x < m) ∧ (∀ x ∈ ls, 0 ≤ x ∧ x < m) ∧ (fs ++ ls).Nodup) (fun mm hmm => ⟨(List.range m.toNat).map fun k : Nat => (k : Int), [], none, rfl, by rw [List.map_map]; rfl, by rw [List.length_map, List.length_range]; omega, rfl, by simp, fun x hx => ?_, ?_⟩) (fun mm i ρ' μ' τ1 σ2 H2 Dn hmm hi hI a2 hnx hct hbk hrt => ?_) fun mm ρ' μ' σ2 H2 hmm hI a2 => ?_
    · obtain ⟨k, hk, rfl⟩ := List.mem_map.mp hx
      have := List.mem_range.mp hk
      omega
    · rw [List.nil_append]
      exact List.pairwise_map.mpr (List.nodup_range.imp fun {a b} h e => h (by omega))
    · obtain ⟨ls, fs, x5, rfl, rfl, l1, l2, f1, f2, nd⟩ := hI
      refine x_append (k := 0) (R := fun d μ' => ∃ k z, d = .int z ∧ ls[k]? = some z ∧ μ' = [(pf, .lst (fs.map .int)), (pl, .lst ((ls.eraseIdx k).map .int))]) a2 (o_var rfl) rfl (Xv.imp (xv_popAt (k := 1) (o_var rfl) rfl (ed_d rfl (ead_cons (ed_cb (ead_cons (ed_var rfl) ea_nil) (rc_lenC (k := 1) rfl)) ea_nil) ⟨_, rfl, by rw [List.length_map]; omega, by rw [List.length_map]; omega⟩ (by rintro e ⟨n, r, e1, rfl, h1, h2⟩; cases e1; exact ⟨r, rfl, h1, h2⟩)) (by rw [List.length_map]; omega)) fun d μ' ⟨k, hk, hkd, e⟩ => ?_) (fun d μ' ⟨_, _, _, _, e⟩ => by rw [e]; rfl) (by rw [List.length_map]; omega) fun d μ' H4 ⟨k, z, e1, e2, e3⟩ a4 => ?_
      · rw [List.length_map] at hk
        have hc := List.getElem?_eq_getElem hk
        rw [List.getElem?_map, hc] at hkd
        refine ⟨k, ls[k], (Option.some.inj hkd).symm, hc, ?_⟩
        rw [e]
        show [_, (pl, Cl.lst ((ls.map D.int).eraseIdx k))] = _
        rw [List.eraseIdx_eq_take_drop_succ, List.eraseIdx_eq_take_drop_succ, List.map_append, List.map_take, List.map_drop]
      · subst e1; subst e3
        have hk : k < ls.length := (List.getElem?_eq_some_iff.mp e2).1
        refine hnx _ _ _ _ ⟨ls.eraseIdx k, fs ++ [z], some (.int i), rfl, by rw [List.map_append]; rfl, ?_, ?_, fun s' hs' => ?_, fun c' hc' => f2 c' (List.mem_of_mem_eraseIdx hc'), nodup_move e2 nd⟩ a4
        · rw [List.length_eraseIdx, if_pos hk]; omega
        · rw [List.length_append, l2]; rfl
        · rcases List.mem_append.mp hs' with e | e
          · exact f1 s' e
          · rw [List.mem_singleton.mp e]; exact f2 z (List.mem_of_getElem? e2)
    · obtain ⟨ls, fs, x5, rfl, rfl, l1, l2, f1, f2, nd⟩ := hI
      refine x_ret a2 (ev_cb (ea1P (ev_cb (P := fun d => ∃ js : List Int, d = .lst (js.map .int) ∧ js.Perm fs ∧ js.Pairwise (· ≤ ·)) (ead_cons (ed_var rfl) ea_nil) fun ds e => by
        subst e
        exact rc_sortC (k := 0) rfl (by omega) fun js h1 h2 => ⟨js, rfl, h1, h2⟩)) fun ds hds => by
        obtain ⟨d, e1, js, e2, e3, e4⟩ := hds
        subst e1; subst e2
        exact rc_tupL.imp (P' := fun d => ∃ js : List Int, d = .tup (js.map .int) ∧ js.Perm fs ∧ js.Pairwise (· ≤ ·)) fun d hd => ⟨js, hd, e3, e4⟩) fun v H3 d hd a3 => ?_
      obtain ⟨js, e1, e2, e3⟩ := hd
      refine hq ⟨m, n, js, rfl, e1, perm_sorted e2 e3 nd, fun x hx => f1 x (e2.mem_iff.mp hx), ?_, ?_⟩ a3
      · rw [e2.length_eq, l2]; omega
      · rw [e2.length_eq, l2]; omega
end
end Cal


namespace Cal
open PySem PySem.Spec PyProof.Rows L2
abbrev s__law_placement : Stmt := topS 46
abbrev n__law_placement : List Str := ["deck", "sites", "clients", "registers", "kept", "some", "site", "name", "visits", "client", "names"]
theorem sc__law_placement : FnScope n__law_placement ["deck", "sites", "clients", "registers"] (defScope s__law_placement) := ⟨rfl, rfl, rfl, by decide +kernel, rfl, by decide +kernel, by decide +kernel⟩
/-! ### a placement -/
def PlD (s c r : Int) (e : D) : Prop := ∃ (kept : List (List Str)) (vis : List (List Int)), e = .tup [.tup (kept.map fun k => .tup (k.map .str)), .tup (vis.map fun v => .tup (v.map .int))] ∧ (kept.length : Int) = s ∧ (vis.length : Int) = c ∧
  (∀ k ∈ kept, sortedS k = true ∧ Names k ∧ (k.length : Int) ≤ r) ∧ ∀ v ∈ vis, v.Pairwise (· < ·) ∧ (∀ x ∈ v, 0 ≤ x ∧ x < s) ∧ min s 2 ≤ (v.length : Int) ∧ (v.length : Int) ≤ s
theorem Names.sub {ss rs : List Str} (h : rs.Sublist ss) (n : Names ss) : Names rs := ⟨fun s hs => n.1 s (h.subset hs), (h.map hdS).nodup n.2⟩
theorem Names.perm {ss rs : List Str} (h : rs.Perm ss) (n : Names ss) : Names rs := ⟨fun s hs => n.1 s (h.mem_iff.mp hs), (h.map hdS).nodup_iff.mpr n.2⟩
theorem atI_of {α : Type} {ds : List α} {x : Int} {d : α} (h0 : 0 ≤ x) (h : ds[x.toNat]? = some d) : atI ds x = some d := by
  have hl := (List.getElem?_eq_some_iff.mp h).1
  unfold atI ixN
  rw [if_pos h0, if_pos (by omega)]
  exact h
theorem take_succ {α : Type} {l : List α} {i : Nat} {x : α} (h : l[i]? = some x) : l.take (i + 1) = l.take i ++ [x] := by
  rw [List.take_add_one, h]; rfl
/-- some site keeps something -/
def PlN (e : D) : Prop := ∃ (kept : List (List Str)) (x : D), e = .tup [.tup (kept.map fun k => .tup (k.map .str)), x] ∧ ∃ k ∈ kept, k ≠ []
def Kp (kept : List (List Str)) (r : Int) (c : Prop) : Prop := (∀ k ∈ kept, sortedS k = true ∧ Names k ∧ (k.length : Int) ≤ r) ∧ (c → ∃ k ∈ kept, k ≠ [])
theorem ge_allI {n : Nat} {ds : List D} {α : Type} {f : α → D} {Q : Nat → α → Prop} (hl : ds.length = n) (h : ∀ (i : Nat) (d : D), ds[i]? = some d → ∃ a, d = f a ∧ Q i a) : ∃ as : List α, ds = as.map f ∧ as.length = n ∧ ∀ (i : Nat) (a : α), as[i]? = some a → Q i a := by
  induction ds generalizing n Q with
  | nil => exact ⟨[], rfl, by simpa using hl, fun i a ha => by simp at ha⟩
  | cons d r ih =>
    obtain ⟨a, e, q⟩ := h 0 d rfl
    obtain ⟨as, e1, e2, e3⟩ := ih (Q := fun i a => Q (i + 1) a) rfl fun i d hd => h (i + 1) d (by simpa using hd)
    exact ⟨a :: as, by rw [e, e1]; rfl, by rw [List.length_cons, e2]; simpa using hl, fun i b hb => by
      cases i with
      | zero => simp at hb; rw [← hb]; exact q
      | succ i => exact e3 i b (by simpa using hb)⟩
theorem kp_of {kept rows : List (List Str)} {r : Int} {c : Prop} (hl : kept.length = rows.length) (h : ∀ (i : Nat) (k : List Str), kept[i]? = some k → (sortedS k = true ∧ Names k ∧ (k.length : Int) ≤ r) ∧ (rows.getD i [] ≠ [] → k ≠ [])) (hc : c → ∃ q ∈ rows, q ≠ []) : Kp kept r c := by
  refine ⟨fun k hk => ?_, fun z => ?_⟩
  · obtain ⟨i, hi⟩ := List.mem_iff_getElem?.mp hk
    exact (h i k hi).1
  · obtain ⟨q, hq, hne⟩ := hc z
    obtain ⟨i, hi⟩ := List.mem_iff_getElem?.mp hq
    have hlt : i < kept.length := by rw [hl]; exact (List.getElem?_eq_some_iff.mp hi).1
    refine ⟨kept[i], List.getElem_mem hlt, (h i _ (List.getElem?_eq_getElem hlt)).2 ?_⟩
    rw [List.getD_eq_getElem?_getD, hi]; exact hne
theorem ge_all {P : D → Prop} {n : Nat} {ds : List D} {α : Type} {f : α → D} {Q : α → Prop} (hl : ds.length = n) (h : ∀ (i : Nat) (d : D), ds[i]? = some d → ∃ a, d = f a ∧ Q a) : ∃ as : List α, ds = as.map f ∧ as.length = n ∧ ∀ a ∈ as, Q a := by
  induction ds generalizing n with
  | nil => exact ⟨[], rfl, by simpa using hl, fun a ha => by cases ha⟩
  | cons d r ih =>
    obtain ⟨a, e, q⟩ := h 0 d rfl
    obtain ⟨as, e1, e2, e3⟩ := ih rfl fun i d hd => h (i + 1) d (by simpa using hd)
    exact ⟨a :: as, by rw [e, e1]; rfl, by rw [List.length_cons, e2]; simpa using hl, fun b hb => by
      rcases List.mem_cons.mp hb with z | z
      · rw [z]; exact q
      · exact e3 b z⟩
section
variable {P : Program} {w : World} {K : PySem.W.Frag} {mg : Str → Option Value} {base : Heap} {f : Addr} {fd : FuncData}
abbrev BN3 : List Str := ["range", "sorted", "tuple"]
variable (bi : ∀ x, x ∈ BN3 → mg x = none)
abbrev sp__law_placement (K : PySem.W.Frag) : Sp := dsp K (fun es => ∃ s c r : Int, es = [.int s, .int c, .int r] ∧ (0 ≤ s ∧ s ≤ 60) ∧ (0 ≤ c ∧ c ≤ 60) ∧ 0 ≤ r ∧ r ≤ 26) (fun es e => ∃ s c r : Int, es = [.int s, .int c, .int r] ∧ PlD s c r e ∧ (0 < s ∧ 0 < r → PlN e))
abbrev rowD (r : List Str) : List D := r.map D.str
include bi in
theorem ok__law_placement (F : Fun K "_law_placement" "_law_placement" s__law_placement f fd) (c__law_names : C8.Cal P w K mg base 3 "_law_names" (sp__law_names K) []) (c__law_some : C8.Cal P w K mg base 3 "_law_some" (sp__law_some K) []) : FnOk P w K mg base CX0 4 f fd ["deck", "sites", "clients", "registers"] (sp__law_placement K) := by
  refine F.ok sc__law_placement (fun vs H Q E h => ?_) (fun cdv A outer s H vs Q E hr h => ?_)
  · obtain ⟨dk, l, G, ds, h1, ⟨es, rfl, n, m, o, rfl, _⟩, _⟩ := h
    exact h1.length
  · have hu := hu_of hr
    obtain ⟨dk, l, G, es, ⟨ns, nc, nr, rfl, ⟨hs1, hs2⟩, ⟨hc1, hc2⟩, hr1, hr2⟩, hlen, a, hq⟩ := dsp_start n__law_placement h
    refine ⟨_, (pss_cons (ps_par (i := 4) (j := 5) (by rfl) sc__law_placement.nd rfl rfl (by decide) rfl rfl (pa_cons (pe_lc (own := [("site", 6)]) (g := gName 6) (tt := tYes) rfl sc__law_placement.nd (pi_range1 (by rfl) (bi "range" (by decide +kernel)) (pa_cons (pv 1) pa_nil)) (blkOk_by (N := n__law_placement) (sc := defScope s__law_placement) (by decide +kernel)) (fun _ _ _ _ _ => (pg_name (i := 6) sc__law_placement.nd rfl (by first | exact (.inl rfl) | exact (.inr rfl)))) (fun _ _ _ _ _ => pts_nil) (fun _ _ _ _ _ => (pe_lst pa_nil))) (pa_cons (C8.pe_c c__law_names hr (by first | decide | omega) (by rfl) (pa_cons (pv 0) (pa_cons (pv 3) pa_nil))) pa_nil)) (by rfl))
      (pss_cons (ps_for PassesOwn.never rfl (pi_list (pv 5)) (pg_name (i := 7) sc__law_placement.nd rfl (by first | exact (.inl rfl) | exact (.inr rfl)))
        (pss_one (ps_for PassesOwn.never rfl (pi_tup (C8.pe_c c__law_some hr (by first | decide | omega) (by rfl) (pa_cons (pv 0) (pa_cons (pv 1) (pa_cons pe_int pa_nil))))) (pg_name (i := 6) sc__law_placement.nd rfl (by first | exact (.inl rfl) | exact (.inr rfl)))
        (pss_one (ps_expr (pe_bm PySem.F.plainAttrs_list PySem.F.slot_list_append PySem.F.type_list_append mt_append (pe_ix (r := rIx K) ix_seq (pv 4) (pv 6) (fun _ _ => rfl)) (pa_cons (pv 7) pa_nil)))))))
      (pss_cons (ps_setLc (i := 8) (own := [("client", 9)]) (g := gName 9) (tt := tYes) rfl sc__law_placement.nd rfl rfl (sw_true rfl rfl rfl (by decide +kernel)) (pi_range1 (by rfl) (bi "range" (by decide +kernel)) (pa_cons (pv 2) pa_nil)) (blkOk_by (N := n__law_placement) (sc := defScope s__law_placement) (by decide +kernel)) (fun _ _ _ _ _ => (pg_name (i := 9) sc__law_placement.nd rfl (by first | exact (.inl rfl) | exact (.inr rfl)))) (fun _ _ _ _ _ => pts_nil) (fun _ _ _ _ _ => (C8.pe_c c__law_some hr (by first | decide | omega) (by rfl) (pa_cons (pv 0) (pa_cons (pv 1) (pa_cons pe_int pa_nil))))))
      (pss_one (ps_ret (pe_tup (pa_cons (pe_callTy (T := "tuple") (r := rTupOf K) u_tuple (by rfl) (bi "tuple" (by decide +kernel)) (by decide +kernel) (pa_cons (pe_lc (own := [("names", 10)]) (g := gName 10) (tt := tYes) rfl sc__law_placement.nd (pi_list (pv 4)) (blkOk_by (N := n__law_placement) (sc := defScope s__law_placement) (by decide +kernel)) (fun _ _ _ _ _ => (pg_name (i := 10) sc__law_placement.nd rfl (by first | exact (.inl rfl) | exact (.inr rfl)))) (fun _ _ _ _ _ => pts_nil) (fun _ _ _ _ _ => (pe_callTy (T := "tuple") (r := rTupOf K) u_tuple (by rfl) (bi "tuple" (by decide +kernel)) (by decide +kernel) (pa_cons (pe_callB (id := "sorted") (r := rSortU2 K) u_sorted (by rfl) (bi "sorted" (by decide +kernel)) (by decide +kernel) (pa_cons (pv 10) pa_nil)) pa_nil)))) pa_nil)) (pa_cons (pe_callTy (T := "tuple") (r := rTupOf K) u_tuple (by rfl) (bi "tuple" (by decide +kernel)) (by decide +kernel) (pa_cons (pv 8) pa_nil)) pa_nil)))))))), ?_⟩
    -- kept, some
    refine y_par2 (R := fun d μ' => ∃ (p : Addr) (ls : List Addr), ls.length = ns.toNat ∧ d = rr p ∧ μ' = (p, .lst (ls.map rr)) :: (rowsMu ls (ls.map fun _ => []) ++ [])) (R2' := fun _ μ1 d μ' => (∃ ss : List Str, d = .lst (rowD ss) ∧ (ss.length : Int) = nr ∧ Names ss) ∧ μ' = μ1) a (xl_rows (ead_cons (ed_var rfl) ea_nil) ⟨hs1, by omega⟩ (by decide)) (fun d1 μ1 _ => ed_d rfl (ead_cons (ed_var rfl) ea_nil) ⟨_, rfl, hr1, hr2⟩ (by rintro e ⟨n, ss, e1, e2, e3, e4⟩; cases e1; exact ⟨ss, e2, e3, e4⟩)) fun d1 μ1 d2 μ2 σ1 H1 hh1 hh2 a1 => ?_
    obtain ⟨pk, ls, hls, rfl, rfl⟩ := hh1
    obtain ⟨⟨ss, rfl, hss, hnm⟩, rfl⟩ := hh2
    -- for name in some
    refine y_forN a1 (ei_lst (ed_var rfl)) (fun i ρ μ => ∃ (rows : List (List Str)) (x6 x7 : Option D), ρ = [some (.raw (.ref dk)), some (.int ns), some (.int nc), some (.int nr), some (rr pk), some (.lst (rowD ss)), x6, x7, none, none, none] ∧ μ = (pk, .lst (ls.map rr)) :: (rowsMu ls (rows.map rowD) ++ []) ∧
      rows.length = ns.toNat ∧ (0 < ns ∧ 0 < i → ∃ r ∈ rows, r ≠ []) ∧ ∀ r ∈ rows, r.Sublist (ss.take i)) ⟨ls.map fun _ => [], none, none, rfl, by rw [List.map_map]; rfl, by rw [List.length_map, hls], fun z => absurd z.2 (Nat.lt_irrefl _), fun r hr => by
        obtain ⟨_, _, e⟩ := List.mem_map.mp hr
        rw [← e]; exact List.nil_sublist _⟩ (fun i ρ' μ' τ1 σ2 H2 Dn hi hI a2 hnx hct hbk hrt => ?_) fun ρ' μ' σ2 H2 hI a2 => ?_
    · obtain ⟨rows, x6, x7, rfl, rfl, hrl, hne, hsub⟩ := hI
      have hi' : i < ss.length := by simpa using hi
      obtain ⟨nm, hnmi⟩ : ∃ nm, ss[i]? = some nm := ⟨ss[i], List.getElem?_eq_getElem hi'⟩
      have enm : (rowD ss).getD i .non = .str nm := by
        rw [List.getD_eq_getElem?_getD, List.getElem?_map, hnmi]; rfl
      rw [enm] at a2
      -- for site in _law_some(deck, sites, 1)
      refine x_forTP (Pd := fun ds => ∃ is : List Int, ds = is.map .int ∧ is.Pairwise (· < ·) ∧ (∀ x ∈ is, 0 ≤ x ∧ x < ns) ∧ (0 < ns → 1 ≤ is.length)) a2 (ed_d rfl (ead_cons (ed_var rfl) (ead_cons ed_int ea_nil)) ⟨_, _, rfl, hs1, hs2⟩ (by rintro e ⟨m, n, is, e1, e2, e3, e4, e5, e6⟩; cases e1; exact ⟨_, e2, is, rfl, e3, e4, fun z => by omega⟩))
        (fun ds j ρ μ => ∃ (rows : List (List Str)) (x6 : Option D), ρ = [some (.raw (.ref dk)), some (.int ns), some (.int nc), some (.int nr), some (rr pk), some (.lst (rowD ss)), x6, some (.str nm), none, none, none] ∧ μ = (pk, .lst (ls.map rr)) :: (rowsMu ls (rows.map rowD) ++ []) ∧
          rows.length = ns.toNat ∧ (0 < ns ∧ (0 < i ∨ 0 < j) → ∃ r ∈ rows, r ≠ []) ∧ ∀ (k : Nat) (r : List Str), rows[k]? = some r → r.Sublist (ss.take i) ∨ ((.int (k : Int) : D) ∈ ds.take j ∧ ∃ r0, r = r0 ++ [nm] ∧ r0.Sublist (ss.take i))) (fun ds hds => ⟨rows, x6, rfl, rfl, hrl, fun z => hne ⟨z.1, z.2.elim id fun y => absurd y (Nat.lt_irrefl _)⟩, fun k r hk => .inl (hsub r (List.mem_of_getElem? hk))⟩) (fun ds j ρ' μ' τ2 σ3 H3 Dn2 hds hj hI _ a3 hnx2 hct2 hbk2 hrt2 => ?_) fun ds ρ' μ' σ3 H3 hds hI a3 => ?_
      · obtain ⟨is, rfl, hpw, hbd, hil⟩ := hds
        obtain ⟨rows2, x62, rfl, rfl, hrl2, hne2, hsub2⟩ := hI
        have hj' : j < is.length := by simpa using hj
        obtain ⟨x, hx⟩ : ∃ x, is[j]? = some x := ⟨is[j], List.getElem?_eq_getElem hj'⟩
        have ex : (is.map D.int).getD j .non = .int x := by
          rw [List.getD_eq_getElem?_getD, List.getElem?_map, hx]; rfl
        rw [ex] at a3
        obtain ⟨b1, b2⟩ := hbd x (List.mem_of_getElem? hx)
        have hxl : x.toNat < ls.length := by omega
        have hxr : x.toNat < rows2.length := by omega
        have el : ls[x.toNat]? = some ls[x.toNat] := List.getElem?_eq_getElem hxl
        have er : rows2[x.toNat]? = some rows2[x.toNat] := List.getElem?_eq_getElem hxr
        have hg := rowsMu_get el (show (rows2.map rowD)[x.toNat]? = some (rowD rows2[x.toNat]) by rw [List.getElem?_map, er]; rfl)
        have hgl := (List.getElem?_eq_some_iff.mp hg).1
        refine x_append (k := x.toNat + 1) (ds := rowD rows2[x.toNat]) (R := fun d μ' => d = .str nm ∧ μ' = (pk, .lst (ls.map rr)) :: (rowsMu ls (rows2.map rowD) ++ [])) a3 (ho_of (ed_op (ed_var rfl) (ed_var rfl) (rd_ixC (k := 0) rfl (atI_of b1 (by rw [List.getElem?_map, el]; rfl))))) (by rw [List.getElem?_cons_succ, List.getElem?_append_left hgl]; exact hg) (ed_var rfl) (fun d μ' ⟨_, e⟩ => by rw [e, List.getElem?_cons_succ, List.getElem?_append_left hgl]; exact hg) ?_ fun d μ' H4 ⟨e1, e2⟩ a4 => ?_
        · rw [List.length_map]
          have hk := hsub2 _ _ er
          have hlen2 : rows2[x.toNat].length ≤ ss.length + 1 := by
            rcases hk with h | ⟨_, r0, h1, h2⟩
            · have := h.length_le
              have := List.length_take_le i ss
              omega
            · have := h2.length_le
              have := List.length_take_le i ss
              rw [h1, List.length_append]
              show r0.length + 1 ≤ _
              omega
          omega
        · subst e1; subst e2
          refine hnx2 _ _ _ _ ⟨rows2.set x.toNat (rows2[x.toNat] ++ [nm]), some (.int x), rfl, ?_, by rw [List.length_set, hrl2], fun _ => ⟨rows2[x.toNat] ++ [nm], List.mem_iff_getElem?.mpr ⟨x.toNat, List.getElem?_set_self hxr⟩, by simp⟩, fun k r hk => ?_⟩ a4
          · rw [List.set_cons_succ, List.set_append_left _ _ hgl, rowsMu_set el, List.map_set]
            show (pk, Cl.lst (ls.map rr)) :: (rowsMu ls ((rows2.map rowD).set x.toNat (rowD rows2[x.toNat] ++ [D.str nm])) ++ []) = _
            rw [show rowD rows2[x.toNat] ++ [D.str nm] = rowD (rows2[x.toNat] ++ [nm]) by rw [rowD, rowD, List.map_append]; rfl]
          · have etk : (is.map D.int).take (j + 1) = (is.map D.int).take j ++ [.int x] := take_succ (by rw [List.getElem?_map, hx]; rfl)
            by_cases hkx : x.toNat = k
            · subst hkx
              rw [List.getElem?_set_self hxr] at hk
              have hr := Option.some.inj hk
              refine .inr ⟨by rw [etk]; refine List.mem_append_right _ ?_; rw [show ((x.toNat : Nat) : Int) = x by omega]; exact List.mem_singleton.mpr rfl, rows2[x.toNat], hr.symm, ?_⟩
              rcases hsub2 _ _ er with h | ⟨hm, _⟩
              · exact h
              · exfalso
                rw [show ((x.toNat : Nat) : Int) = x by omega, ← List.map_take] at hm
                obtain ⟨y, hy, e⟩ := List.mem_map.mp hm
                have e' : y = x := D.int.inj e
                subst e'
                obtain ⟨q, hq1, hq2⟩ := List.mem_take_iff_getElem.mp hy
                have hq3 : q < j := by omega
                have := List.pairwise_iff_getElem.mp hpw q j (by omega) hj' hq3
                have e2 : is[j] = y := (List.getElem?_eq_some_iff.mp hx).2
                omega
            · rw [List.getElem?_set_ne hkx] at hk
              rcases hsub2 _ _ hk with h | ⟨hm, h⟩
              · exact .inl h
              · exact .inr ⟨by rw [etk]; exact List.mem_append_left _ hm, h⟩
      · obtain ⟨is, rfl, hpw, hbd, hil⟩ := hds
        obtain ⟨rows2, x62, rfl, rfl, hrl2, hne2, hsub2⟩ := hI
        refine hnx _ _ _ _ ⟨rows2, x62, some (.str nm), rfl, rfl, hrl2, fun z => hne2 ⟨z.1, .inr (by rw [List.length_map]; exact hil z.1)⟩, fun r hr => ?_⟩ a3
        obtain ⟨k, hk⟩ := List.mem_iff_getElem?.mp hr
        rw [take_succ hnmi]
        rcases hsub2 k r hk with h | ⟨_, r0, h1, h2⟩
        · exact h.trans (List.sublist_append_left _ _)
        · rw [h1]; exact List.Sublist.append_right h2 _
    · obtain ⟨rows, x6, x7, rfl, rfl, hrl, hne, hsub⟩ := hI
      -- all rows are told; visits
      have a3 := At.reslot (k := 4) (freezeAll (by rw [List.length_map, hls, hrl]) a2) rfl
      refine y_setV (P := fun d => ∃ vis : List (List Int), d = .lst (vis.map fun v => .tup (v.map .int)) ∧ vis.length = nc.toNat ∧ ∀ v ∈ vis, v.Pairwise (· < ·) ∧ (∀ x ∈ v, 0 ≤ x ∧ x < ns) ∧ min ns 2 ≤ (v.length : Int) ∧ (v.length : Int) ≤ ns) a3 (ev_lc0 (ei_rng1 (ead_cons (ed_var rfl) ea_nil) ⟨by omega, by omega⟩) (by decide) (by omega) (fun i d => ∃ v : List Int, d = .tup (v.map .int) ∧ v.Pairwise (· < ·) ∧ (∀ x ∈ v, 0 ≤ x ∧ x < ns) ∧ min ns 2 ≤ (v.length : Int) ∧ (v.length : Int) ≤ ns) (fun i hi cl => ed_d rfl (ead_cons (ed_var rfl) (ead_cons ed_int ea_nil)) ⟨_, _, rfl, hs1, hs2⟩ (by
          rintro e ⟨m, n, is, e1, e2, e3, e4, e5, e6⟩; cases e1; exact ⟨is, e2, e3, e4, e5, e6⟩)) fun ds hl hd => ?_) fun d σ4 H4 hd a4 => ?_
      · obtain ⟨as, e1, e2, e3⟩ := ge_all (P := fun _ => True) (f := fun v : List Int => D.tup (v.map .int)) hl hd
        exact ⟨as, by rw [e1], e2, e3⟩
      · obtain ⟨vis, rfl, hv1, hv2⟩ := hd
        refine x_ret a4 (ev_tup (P := fun d => PlD ns nc nr d ∧ (0 < ns ∧ 0 < nr → PlN d)) (Ps := fun ds => ∃ kept : List (List Str), ds = [.tup (kept.map fun k => .tup (k.map .str)), .tup (vis.map fun v => .tup (v.map .int))] ∧ (kept.length : Int) = ns ∧ Kp kept nr (0 < ns ∧ 0 < nr)) (ea_cons (P := fun d => ∃ kept : List (List Str), d = .tup (kept.map fun k => .tup (k.map .str)) ∧ (kept.length : Int) = ns ∧ Kp kept nr (0 < ns ∧ 0 < nr)) ?_ fun d ⟨kept, e1, e2, e3⟩ => (ead_cons (ed_tupL (ed_var rfl)) ea_nil).imp fun ds e => ⟨kept, by rw [e, e1], e2, e3⟩) fun ds ⟨kept, e1, e2, e3⟩ => ⟨by rw [e1]; show 2 ≤ sizeLine; decide, ⟨kept, vis, by rw [e1], e2, by omega, e3.1, hv2⟩, fun z => ⟨kept, .tup (vis.map fun v => .tup (v.map .int)), by rw [e1], e3.2 z⟩⟩) fun v H5 d hd a5 => hq ⟨ns, nc, nr, rfl, hd⟩ a5
        refine ev_cb (ea1P (ev_lc0 (P := fun d => ∃ kept : List (List Str), d = .lst (kept.map fun k => .tup (k.map .str)) ∧ (kept.length : Int) = ns ∧ Kp kept nr (0 < ns ∧ 0 < nr)) (ei_lst (ds := rows.map fun r => .lst (rowD r)) (Ed.is (ed_var rfl) (by rw [List.map_map]; rfl))) (by decide) (by rw [List.length_map]; omega) (fun i d => ∃ k : List Str, d = .tup (k.map .str) ∧ (sortedS k = true ∧ Names k ∧ (k.length : Int) ≤ nr) ∧ (rows.getD i [] ≠ [] → k ≠ [])) (fun i hi cl => ?_) fun ds hl hd => ?_)) fun ds hds => ?_
        · have hi' : i < rows.length := by simpa using hi
          have er : rows[i]? = some rows[i] := List.getElem?_eq_getElem hi'
          have hsb := hsub _ (List.mem_of_getElem? er)
          have hN : Names rows[i] := (hnm.sub (List.take_sublist _ _)).sub hsb
          have hle : (rows[i].length : Int) ≤ nr := by
            have := hsb.length_le
            have := List.length_take_le (rowD ss).length ss
            have : (ss.take (rowD ss).length).length ≤ ss.length := List.length_take_le' _ _
            omega
          refine ev_cb (ea1P (ev_cb (P := fun d => ∃ js : List Str, d = .lst (js.map .str) ∧ js.Perm rows[i] ∧ sortedS js = true) (ead_cons (d := .lst (rowD rows[i])) (Ed.is (ed_var rfl) ?_) ea_nil) fun ds e => ?_)) fun ds hds => ?_
          · rw [List.getD_eq_getElem?_getD, List.getElem?_map, er]; rfl
          · subst e
            exact rc_sortS (by omega) fun js h1 h2 => ⟨js, rfl, h1, h2⟩
          · obtain ⟨d, rfl, js, rfl, h1, h2⟩ := hds
            exact rc_tupL.imp fun d hd => ⟨js, hd, ⟨h2, hN.perm h1, by rw [h1.length_eq]; exact hle⟩, fun z => by
              rw [List.getD_eq_getElem?_getD, er] at z
              exact fun y => z (by rw [y] at h1; exact List.nil_perm.mp h1)⟩
        · obtain ⟨as, e1, e2, e3⟩ := ge_allI (f := fun v : List Str => D.tup (v.map .str)) hl hd
          rw [List.length_map] at e2
          exact ⟨as, by rw [e1], by omega, kp_of (rows := rows) e2 e3 fun z => hne ⟨z.1, by rw [List.length_map]; omega⟩⟩
        · obtain ⟨d, rfl, kept, rfl, h1, h2⟩ := hds
          exact rc_tupL.imp fun d hd => ⟨kept, hd, h1, h2⟩
end
end Cal


namespace Cal
open PySem PySem.Spec PyProof.Rows L2
theorem one_lt' (a b : Nat) : ([a] < [b]) ↔ a < b := by simp [List.cons_lt_cons_iff]
theorem isName_of {s : Str} (h : NameS s) : isNameS s = true := by
  obtain ⟨h1, h2, h3⟩ := h
  have a1 : (1 : Int) ≤ (s.length : Int) := by show (1 : Int) ≤ ((s.cps.size : Nat) : Int); omega
  have a2 : (s.length : Int) ≤ 10 := by show ((s.cps.size : Nat) : Int) ≤ 10; omega
  unfold isNameS
  rw [decide_eq_true a1, decide_eq_true a2, Bool.true_and, Bool.true_and]
  refine List.all_eq_true.mpr fun i hi => ?_
  have hi' := List.mem_range.mp hi
  have hm : s.cps.getD i 0 ∈ s.cps.toList := by
    rw [Array.getD_eq_getD_getElem?, Array.getElem?_eq_getElem hi']
    exact Array.mem_toList_iff.mpr (Array.getElem_mem hi')
  have := h3 _ hm
  rw [decide_eq_false (fun z => by have := (one_lt' _ _).mp z; omega), decide_eq_false (fun z => by have := (one_lt' _ _).mp z; omega)]; rfl
theorem rise_at : ∀ {r : List Str} {p : Str} {i : Nat} {x y : Str}, risingS p r = true → (p :: r)[i]? = some x → (p :: r)[i + 1]? = some y → ltCps y.cps.toList x.cps.toList = false
  | [], p, 0, x, y, _, _, h => by simp at h
  | [], p, i + 1, x, y, _, _, h => by simp at h
  | z :: r, p, 0, x, y, hs, h1, h2 => by
    simp at h1 h2
    subst h1; subst h2
    have h : (!ltCps z.cps.toList p.cps.toList && risingS z r) = true := hs
    rw [Bool.and_eq_true] at h
    simpa using h.1
  | z :: r, p, i + 1, x, y, hs, h1, h2 => by
    have h : (!ltCps z.cps.toList p.cps.toList && risingS z r) = true := hs
    rw [Bool.and_eq_true] at h
    exact rise_at (r := r) (p := z) (i := i) h.2 (by simpa using h1) (by simpa using h2)
theorem head_cons {s : Str} (h : NameS s) : ∃ r, s.cps.toList = hdS s :: r := by
  obtain ⟨h1, _, _⟩ := h
  unfold hdS
  cases e : s.cps.toList with
  | nil =>
    have : s.cps.toList.length = s.cps.size := Array.length_toList
    rw [e] at this
    simp at this
    omega
  | cons x r =>
    refine ⟨r, ?_⟩
    have : s.cps.getD 0 0 = x := by
      rw [Array.getD_eq_getD_getElem?, ← Array.getElem?_toList, e]; rfl
    rw [this]
theorem asc_of {k : List Str} (hs : sortedS k = true) (hn : Names k) : ascD (k.map D.str) = true := by
  unfold ascD
  refine List.all_eq_true.mpr fun i hi => ?_
  rw [List.length_map] at hi
  have hi' := List.mem_range.mp hi
  have i1 : i < k.length := by omega
  have i2 : i + 1 < k.length := by omega
  rw [getD_map' D.str "" k i1, getD_map' D.str "" k i2]
  show decide ((k.getD i "").cps.toList < (k.getD (i + 1) "").cps.toList) = true
  have n1 : NameS (k.getD i "") := hn.1 _ (getD_in i1)
  have n2 : NameS (k.getD (i + 1) "") := hn.1 _ (getD_in i2)
  have g1 : k[i]? = some (k.getD i "") := getD_at i1
  have g2 : k[i + 1]? = some (k.getD (i + 1) "") := getD_at i2
  obtain ⟨r1, e1⟩ := head_cons n1
  obtain ⟨r2, e2⟩ := head_cons n2
  have hne : hdS (k.getD i "") ≠ hdS (k.getD (i + 1) "") := fun e => by
    have h1 : (k.map hdS)[i]? = some (hdS (k.getD i "")) := by rw [List.getElem?_map, g1]; rfl
    have h2 : (k.map hdS)[i + 1]? = some (hdS (k.getD i "")) := by rw [List.getElem?_map, g2, e]; rfl
    have := (List.getElem?_inj (List.getElem?_eq_some_iff.mp h1).1 hn.2).mp (h1.trans h2.symm)
    omega
  have hl : ltCps (k.getD (i + 1) "").cps.toList (k.getD i "").cps.toList = false := by
    cases k with
    | nil => simp at i1
    | cons p r => exact rise_at (r := r) (p := p) hs g1 g2
  rw [e1, e2] at hl ⊢
  refine decide_eq_true (List.cons_lt_cons_iff.mpr (.inl ?_))
  rcases Nat.lt_trichotomy (hdS (k.getD i "")) (hdS (k.getD (i + 1) "")) with z | z | z
  · exact z
  · exact absurd z hne
  · exfalso
    rw [ltCps_eq] at hl
    exact of_decide_eq_false hl (List.cons_lt_cons_iff.mpr (.inl z))
theorem ascI_of {v : List Int} (h : v.Pairwise (· < ·)) : ascD (v.map D.int) = true := by
  unfold ascD
  refine List.all_eq_true.mpr fun i hi => ?_
  rw [List.length_map] at hi
  have hi' := List.mem_range.mp hi
  have i1 : i < v.length := by omega
  have i2 : i + 1 < v.length := by omega
  rw [getD_map' D.int 0 v i1, getD_map' D.int 0 v i2]
  have g1 : v[i]? = some (v.getD i 0) := getD_at i1
  have g2 : v[i + 1]? = some (v.getD (i + 1) 0) := getD_at i2
  have := List.pairwise_iff_getElem.mp h i (i + 1) i1 i2 (by omega)
  rw [(List.getElem?_eq_some_iff.mp g1).2, (List.getElem?_eq_some_iff.mp g2).2] at this
  exact decide_eq_true this
theorem strOk_low {s : Str} (h : NameS s) : PyData.strOk s = true := strOk_of fun c hc => by have := h.2.2 c hc; omega
/-- a drawn placement of two sites or more is a placement -/
theorem pl_all {s c r : Int} {e : D} (h : PlD s c r e) (hs : 2 ≤ s ∧ s ≤ 7) (hc : c ≤ 7) (hr : r ≤ 13) : ∃ (ss : List (List Str)) (cs : List (List Int)), e = plD ss cs ∧ PlL ss cs ∧ PlOk ss cs ∧ (ss.length : Int) = s ∧ (cs.length : Int) = c ∧ ∀ k ∈ ss, sortedS k = true ∧ Names k := by
  obtain ⟨kept, vis, rfl, l1, l2, hk, hv⟩ := h
  refine ⟨kept, vis, rfl, ⟨by omega, by omega, fun k hk' => ⟨by have := (hk k hk').2.2; omega, fun z hz => ?_⟩, fun v hv' => ⟨(hv v hv').1, fun x hx => by have := (hv v hv').2.1 x hx; omega, by have := (hv v hv').2.2.2; omega⟩⟩, ⟨?_, ?_⟩, l1, l2, fun k hk' => ⟨(hk k hk').1, (hk k hk').2.1⟩⟩
  · have n := (hk k hk').2.1.1 z hz
    exact ⟨strOk_low n, Nat.le_trans n.2.1 (by decide)⟩
  · show (((List.range (kept.map tS).length).all fun i => namesAsc ((kept.map tS).getD i .non)) && areClients (kept.map tS).length (vis.map tI)) = true
    rw [Bool.and_eq_true]
    refine ⟨List.all_eq_true.mpr fun i hi => ?_, List.all_eq_true.mpr fun i hi => ?_⟩
    · have i1 : i < kept.length := by have := List.mem_range.mp hi; rwa [List.length_map] at this
      rw [getD_map' tS [] kept i1]
      obtain ⟨h1, h2, _⟩ := hk _ (getD_in (z := []) i1)
      show (((List.range ((kept.getD i []).map D.str).length).all fun j => isName (((kept.getD i []).map D.str).getD j .non)) && ascD ((kept.getD i []).map D.str)) = true
      rw [asc_of h1 h2, Bool.and_true]
      refine List.all_eq_true.mpr fun j hj => ?_
      have j1 : j < (kept.getD i []).length := by have := List.mem_range.mp hj; rwa [List.length_map] at this
      rw [getD_map' D.str "" (kept.getD i []) j1]
      exact isName_of (h2.1 _ (getD_in j1))
    · have i1 : i < vis.length := by have := List.mem_range.mp hi; rwa [List.length_map] at this
      rw [getD_map' tI [] vis i1]
      obtain ⟨h1, h2, h3, h4⟩ := hv _ (getD_in (z := []) i1)
      have hl : (2 : Int) ≤ (((vis.getD i []).map D.int).length : Int) := by rw [List.length_map]; omega
      show ((((List.range ((vis.getD i []).map D.int).length).all fun j => isBelow (kept.map tS).length (((vis.getD i []).map D.int).getD j .non)) && ascD ((vis.getD i []).map D.int)) && decide ((2 : Int) ≤ (((vis.getD i []).map D.int).length : Int))) = true
      rw [decide_eq_true hl, ascI_of h1, Bool.and_true, Bool.and_true]
      refine List.all_eq_true.mpr fun j hj => ?_
      have j1 : j < (vis.getD i []).length := by have := List.mem_range.mp hj; rwa [List.length_map] at this
      rw [getD_map' D.int 0 (vis.getD i []) j1, List.length_map]
      have hx := h2 _ (getD_in (z := 0) j1)
      show (decide (0 ≤ (vis.getD i []).getD j 0) && decide ((vis.getD i []).getD j 0 < (kept.length : Int))) = true
      rw [decide_eq_true hx.1, decide_eq_true (by omega)]; rfl
  · have h1 : ∀ k ∈ kept, Sm (tS k) := fun k hk' => ⟨by rw [List.length_map]; have := (hk k hk').2.2; omega, SmA.of fun d hd => by
      obtain ⟨z, hz, rfl⟩ := List.mem_map.mp hd
      have n := (hk k hk').2.1.1 z hz
      exact ⟨Nat.le_trans n.2.1 (by decide), strOk_low n⟩⟩
    have h2 : ∀ v ∈ vis, Sm (tI v) := fun v hv' => ⟨by rw [List.length_map]; have := (hv v hv').2.2.2; omega, SmA.of fun d hd => by
      obtain ⟨x, hx, rfl⟩ := List.mem_map.mp hd
      have := (hv v hv').2.1 x hx
      exact Nat.lt_of_lt_of_le (show x.natAbs < 10 by omega) (by decide)⟩
    refine ⟨by show 2 ≤ 1000000; decide, ⟨by rw [List.length_map]; omega, SmA.of fun d hd => ?_⟩, ⟨by rw [List.length_map]; omega, SmA.of fun d hd => ?_⟩, True.intro⟩
    · obtain ⟨k, hk', rfl⟩ := List.mem_map.mp hd
      exact h1 k hk'
    · obtain ⟨v, hv', rfl⟩ := List.mem_map.mp hd
      exact h2 v hv'
end Cal


namespace Cal
open PySem PySem.Spec PyProof.Rows L2
theorem heads_asc : ∀ {r : List Str} {p : Str}, risingS p r = true → Names (p :: r) → (p :: r).Pairwise fun x y => hdS x < hdS y
  | [], p, _, _ => List.pairwise_singleton _ _
  | z :: r, p, hs, hn => by
    have h : (!ltCps z.cps.toList p.cps.toList && risingS z r) = true := hs
    rw [Bool.and_eq_true] at h
    have hn' : Names (z :: r) := hn.sub (List.sublist_cons_self _ _)
    have ih := heads_asc h.2 hn'
    obtain ⟨r1, e1⟩ := head_cons (hn.1 p (List.mem_cons_self ..))
    obtain ⟨r2, e2⟩ := head_cons (hn'.1 z (List.mem_cons_self ..))
    have hne : hdS p ≠ hdS z := fun e => by
      have := hn.2
      rw [List.map_cons, List.nodup_cons] at this
      exact this.1 (by rw [e]; exact List.mem_map.mpr ⟨z, List.mem_cons_self .., rfl⟩)
    have hl : ltCps z.cps.toList p.cps.toList = false := by simpa using h.1
    have hlt : hdS p < hdS z := by
      rcases Nat.lt_trichotomy (hdS p) (hdS z) with y | y | y
      · exact y
      · exact absurd y hne
      · exfalso
        rw [e1, e2, ltCps_eq] at hl
        exact of_decide_eq_false hl (List.cons_lt_cons_iff.mpr (.inl y))
    refine List.pairwise_cons.mpr ⟨fun y hy => ?_, ih⟩
    rcases List.mem_cons.mp hy with e | e
    · rw [e]; exact hlt
    · exact Nat.lt_trans hlt ((List.pairwise_cons.mp ih).1 y e)
theorem heads_of {k : List Str} (hs : sortedS k = true) (hn : Names k) : k.Pairwise fun x y => hdS x < hdS y := by
  cases k with
  | nil => exact List.Pairwise.nil
  | cons p r => exact heads_asc hs hn
/-- what is shared is the same both ways -/
theorem both_sym {ss : List (List Str)} (h : ∀ k ∈ ss, sortedS k = true ∧ Names k) {a b : Nat} : bothS ss a b = bothS ss b a := by
  have pw : ∀ a, (ss.getD a []).Pairwise fun x y => hdS x < hdS y := fun a => by
    by_cases ha : a < ss.length
    · have := h _ (getD_in (z := []) ha)
      exact heads_of this.1 this.2
    · rw [List.getD_eq_getElem?_getD, List.getElem?_eq_none (by omega)]; exact List.Pairwise.nil
  unfold bothS
  have p1 : ((ss.getD a []).filter fun z => decide (z ∈ ss.getD b [])).Pairwise fun x y => hdS x < hdS y := (pw a).filter _
  have p2 : ((ss.getD b []).filter fun z => decide (z ∈ ss.getD a [])).Pairwise fun x y => hdS x < hdS y := (pw b).filter _
  have nd : ∀ {l : List Str}, l.Pairwise (fun x y => hdS x < hdS y) → l.Nodup := fun h => h.imp fun {x y} hlt e => by rw [e] at hlt; exact Nat.lt_irrefl _ hlt
  have hp : ((ss.getD a []).filter fun z => decide (z ∈ ss.getD b [])).Perm ((ss.getD b []).filter fun z => decide (z ∈ ss.getD a [])) := by
    refine (List.perm_ext_iff_of_nodup (nd p1) (nd p2)).mpr fun z => ?_
    rw [List.mem_filter, List.mem_filter, decide_eq_true_eq, decide_eq_true_eq]
    exact ⟨fun ⟨x, y⟩ => ⟨y, x⟩, fun ⟨x, y⟩ => ⟨y, x⟩⟩
  exact List.Perm.eq_of_pairwise (fun x y _ _ h1 h2 => absurd (Nat.lt_trans h1 h2) (Nat.lt_irrefl _)) p1 p2 hp
theorem shared_sym {ss : List (List Str)} (h : ∀ k ∈ ss, sortedS k = true ∧ Names k) (a b : Nat) : sharedS ss a b = sharedS ss b a := by
  rw [shared_both, shared_both]
  by_cases e : a = b
  · rw [if_pos e, if_pos e.symm]
  · rw [if_neg e, if_neg fun z => e z.symm, both_sym h]
end Cal


namespace Cal
open PySem PySem.Spec PyProof.Rows L2
abbrev s_is_site : Stmt := topS 26
abbrev n_is_site : List Str := ["placement", "thing"]
theorem sc_is_site : FnScope n_is_site ["placement", "thing"] (defScope s_is_site) := ⟨rfl, rfl, rfl, by decide +kernel, rfl, by decide +kernel, by decide +kernel⟩
abbrev s_is_edge : Stmt := topS 27
abbrev n_is_edge : List Str := ["placement", "thing", "one", "other"]
theorem sc_is_edge : FnScope n_is_edge ["placement", "thing"] (defScope s_is_edge) := ⟨rfl, rfl, rfl, by decide +kernel, rfl, by decide +kernel, by decide +kernel⟩
abbrev s_are_edges : Stmt := topS 28
abbrev n_are_edges : List Str := ["placement", "thing", "item"]
theorem sc_are_edges : FnScope n_are_edges ["placement", "thing"] (defScope s_are_edges) := ⟨rfl, rfl, rfl, by decide +kernel, rfl, by decide +kernel, by decide +kernel⟩
abbrev s_is_plan : Stmt := topS 32
abbrev n_is_plan : List Str := ["placement", "thing", "counted", "edge", "site"]
theorem sc_is_plan : FnScope n_is_plan ["placement", "thing"] (defScope s_is_plan) := ⟨rfl, rfl, rfl, by decide +kernel, rfl, by decide +kernel, by decide +kernel⟩
/-! ### edges and plans among any values -/
def isEdgeD (ss : List (List Str)) : D → Bool
  | .tup [.int a, .int b] => isBelow ss.length (.int a) && isBelow ss.length (.int b) && !(sharedS ss a b).isEmpty
  | _ => false
def areEdgesD (ss : List (List Str)) : D → Bool
  | .tup es => ((List.range es.length).all fun i => isEdgeD ss (es.getD i .non)) && ascD es
  | _ => false
def asP : D → Int × Int
  | .tup [.int a, .int b] => (a, b)
  | _ => (0, 0)
def itemsP : D → List (Int × Int)
  | .tup es => es.map asP
  | _ => []
def ownIn (ss : List (List Str)) (xs : List D) : Bool := (epairs ss).all fun q => decide (q ∈ itemsP (xs.getD q.1.toNat .non)) && decide (q ∈ itemsP (xs.getD q.2.toNat .non))
def isPlanD (ss : List (List Str)) (cs : List (List Int)) : D → Bool
  | .tup xs => decide ((xs.length : Int) = ss.length + cs.length) && (((List.range xs.length).all fun p => areEdgesD ss (xs.getD p .non)) && ownIn ss xs)
  | _ => false
theorem isEdge_eq {ss : List (List Str)} {d : D} (h : isEdgeD ss d = true) : ∃ q : Int × Int, d = pairD q ∧ (0 ≤ q.1 ∧ q.1 < ss.length) ∧ (0 ≤ q.2 ∧ q.2 < ss.length) ∧ sharedS ss q.1 q.2 ≠ [] := by
  unfold isEdgeD at h
  split at h
  · rename_i a b
    rw [Bool.and_eq_true, Bool.and_eq_true] at h
    obtain ⟨⟨h1, h2⟩, h3⟩ := h
    have e1 : (decide (0 ≤ a) && decide (a < (ss.length : Int))) = true := h1
    have e2 : (decide (0 ≤ b) && decide (b < (ss.length : Int))) = true := h2
    rw [Bool.and_eq_true] at e1 e2
    exact ⟨(a, b), rfl, ⟨of_decide_eq_true e1.1, of_decide_eq_true e1.2⟩, ⟨of_decide_eq_true e2.1, of_decide_eq_true e2.2⟩, fun z => by
      have z' : sharedS ss a b = [] := z
      rw [z'] at h3; cases h3⟩
  · cases h
theorem areEdges_eq {ss : List (List Str)} {d : D} (h : areEdgesD ss d = true) : d = .tup ((itemsP d).map pairD) ∧ ∀ q ∈ itemsP d, isEdgeD ss (pairD q) = true := by
  cases d <;> first | cases h | skip
  rename_i es
  have h' : (((List.range es.length).all fun i => isEdgeD ss (es.getD i .non)) && ascD es) = true := h
  rw [Bool.and_eq_true] at h'
  have all := getD_all h'.1
  have back : ∀ e ∈ es, pairD (asP e) = e := fun e he => by
    obtain ⟨q, rfl, _⟩ := isEdge_eq (all e he)
    rfl
  refine ⟨?_, fun q hq => ?_⟩
  · show D.tup es = .tup ((es.map asP).map pairD)
    rw [List.map_map]
    have : es.map (pairD ∘ asP) = es.map id := List.map_congr_left fun e he => back e he
    rw [this, List.map_id]
  · obtain ⟨e, he, rfl⟩ := List.mem_map.mp hq
    rw [back e he]; exact all e he
section
variable {P : Program} {w : World} {K : PySem.W.Frag} {mg : Str → Option Value} {base : Heap} {f : Addr} {fd : FuncData}
abbrev BNplan : List Str := ["all", "isinstance", "len", "tuple"]
variable (bi : ∀ x, x ∈ BNplan → mg x = none)
abbrev sp_is_site (K : PySem.W.Frag) : Sp := psp K (fun ds => ∃ ss cs d, ds = [plD ss cs, d] ∧ PlOk ss cs ∧ Sm d) (fun ds e => ∃ ss cs d, ds = [plD ss cs, d] ∧ e = .bl (isBelow ss.length d))
abbrev sp_is_edge (K : PySem.W.Frag) : Sp := psp K (fun ds => ∃ ss cs d, ds = [plD ss cs, d] ∧ PlOk ss cs ∧ PlL ss cs ∧ Sm d) (fun ds e => ∃ ss cs d, ds = [plD ss cs, d] ∧ e = .bl (isEdgeD ss d))
abbrev sp_are_edges (K : PySem.W.Frag) : Sp := psp K (fun ds => ∃ ss cs d, ds = [plD ss cs, d] ∧ PlOk ss cs ∧ PlL ss cs ∧ Sm d) (fun ds e => ∃ ss cs d, ds = [plD ss cs, d] ∧ e = .bl (areEdgesD ss d))
abbrev sp_is_plan (K : PySem.W.Frag) : Sp := psp K (fun ds => ∃ ss cs d, ds = [plD ss cs, d] ∧ PlOk ss cs ∧ PlL ss cs ∧ Sm d) (fun ds e => ∃ ss cs d, ds = [plD ss cs, d] ∧ e = .bl (isPlanD ss cs d))
theorem plD_any {ss ss' : List (List Str)} {cs cs' : List (List Int)} {d d' : D} (h : [plD ss cs, d] = [plD ss' cs', d']) : ss = ss' ∧ cs = cs' ∧ d = d' := by
  injection h with h1 h2
  injection h2 with h2 _
  exact ⟨(plD_inj h1).1, (plD_inj h1).2, h2⟩
include bi in
theorem ok_is_site (F : Fun K "is_site" "is_site" s_is_site f fd) (c_is_below : C8.Cal P w K mg base 2 "is_below" (sp_is_below K) []) : FnOk P w K mg base CX0 3 f fd ["placement", "thing"] (sp_is_site K) := by
  refine F.ok sc_is_site (fun vs H Q E h => ?_) (fun cdv A outer s H vs Q E hr h => ?_)
  · obtain ⟨G, ds, h1, ⟨ss, cs, d, rfl, _⟩, _⟩ := h
    exact h1.length
  · have hu := hu_of hr
    obtain ⟨G, ds, ⟨ss, cs, d, rfl, ho, hd⟩, hlen, a, hq⟩ := fsp_start locT n_is_site h
    refine ⟨_, (pss_one (ps_ret (C8.pe_c c_is_below hr (by first | decide | omega) (by rfl) (pa_cons (pv 1) (pa_cons (pe_callB (id := "len") (r := rLenU K) u_len (by rfl) (bi "len" (by decide +kernel)) (by decide +kernel) (pa_cons (pe_ix (r := rIx K) ix_seq (pv 0) pe_int (fun _ _ => rfl)) pa_nil)) pa_nil))))), ?_⟩
    refine x_ret a (ed_p (d := .bl (isBelow ss.length d)) (ead_cons (ed_var rfl) (ead_cons (Ed.is (d := .int ((ss.map tS).length : Nat)) (ed_lenT (ed_op (ed_var rfl) ed_int (rd_ixT (d := .tup (ss.map tS)) rfl))) (by rw [List.length_map])) ea_nil)) ⟨_, _, rfl, hd⟩ (by
      rintro e ⟨d', n', e1, rfl⟩
      cases e1; rfl)) fun v H' d' hd' a' => hq ⟨_, _, _, rfl, hd'⟩ a'
include bi in
theorem ok_is_edge (F : Fun K "is_edge" "is_edge" s_is_edge f fd) (c_is_tuple_of : C8.Cal P w K mg base 1 "is_tuple_of" (sp_is_tuple_of K) []) (c_is_site : C8.Cal P w K mg base 3 "is_site" (sp_is_site K) []) (c_shared_by : C8.Cal P w K mg base 2 "shared_by" (sp_shared_by K) []) : FnOk P w K mg base CX0 4 f fd ["placement", "thing"] (sp_is_edge K) := by
  refine F.ok sc_is_edge (fun vs H Q E h => ?_) (fun cdv A outer s H vs Q E hr h => ?_)
  · obtain ⟨G, ds, h1, ⟨ss, cs, d, rfl, _⟩, _⟩ := h
    exact h1.length
  · have hu := hu_of hr
    obtain ⟨G, ds, ⟨ss, cs, d, rfl, ho, hL, hd⟩, hlen, a, hq⟩ := fsp_start locT n_is_edge h
    refine ⟨_, (pss_cons (ps_if (pt_not (pt_val (C8.pe_c c_is_tuple_of hr (by first | decide | omega) (by rfl) (pa_cons (pv 1) (pa_cons pe_int pa_nil))))) (pss_one (ps_ret pe_bl)) pss_nil)
      (pss_cons (ps_asg (pv 1) (pg_tup rfl (pgs_cons (pg_name (i := 2) sc_is_edge.nd rfl (by first | exact (.inl rfl) | exact (.inr rfl))) (pgs_cons (pg_name (i := 3) sc_is_edge.nd rfl (by first | exact (.inl rfl) | exact (.inr rfl))) pgs_nil))))
      (pss_one (ps_ret (pe_and (C8.pe_c c_is_site hr (by first | decide | omega) (by rfl) (pa_cons (pv 0) (pa_cons (pv 2) pa_nil))) (pe_and (C8.pe_c c_is_site hr (by first | decide | omega) (by rfl) (pa_cons (pv 0) (pa_cons (pv 3) pa_nil))) (pe_one (pe_cmpR (r := rNeD K) (u_ne hr.units) (C8.pe_c c_shared_by hr (by first | decide | omega) (by rfl) (pa_cons (pv 0) (pa_cons (pv 2) (pa_cons (pv 3) pa_nil)))) (pe_tup pa_nil) (nomark _))))))))), ?_⟩
    refine y_ifb a (eb_not (eb_B (ed_p (d := .bl (isTup 2 d)) (ead_cons (ed_var rfl) (ead_cons ed_int ea_nil)) ⟨_, _, rfl, hd⟩ (by rintro e ⟨d', n', e1, rfl⟩; cases e1; rfl)))) (fun hb H1 a1 => ?_) fun hb H1 a1 => ?_
    · refine x_ret a1 (Ed.is (d := .bl false) ed_bl ?_) fun v H' d' hd' a' => hq ⟨_, _, _, rfl, hd'⟩ a'
      unfold isEdgeD
      split
      · cases hb
      · rfl
    · obtain ⟨x, y, rfl⟩ : ∃ x y, d = .tup [x, y] := by
        cases d <;> first | cases hb | skip
        rename_i es
        match es, hb with
        | [x, y], _ => exact ⟨x, y, rfl⟩
        | [], hb => exact absurd hb (by decide)
        | [x], hb =>
          have hb' : (!decide ((([x] : List D).length : Int) = 2)) = false := hb
          rw [decide_eq_false (by simp only [List.length_cons, List.length_nil]; omega)] at hb'
          cases hb'
        | x :: y :: z :: r, hb =>
          have hb' : (!decide (((x :: y :: z :: r).length : Int) = 2)) = false := hb
          rw [decide_eq_false (by simp only [List.length_cons]; omega)] at hb'
          cases hb'
      have hx : Sm x := hd.2.1
      have hy : Sm y := hd.2.2.1
      refine y_asgG a1 (ed_var rfl) gd_tup2 fun σ2 H2 a2 => ?_
      have hs : ∀ {d : D} {j : Nat} {ρ : Ro} {μ : Mu}, Sm d → ρ[0]? = some (some (plD ss cs)) → ρ[j]? = some (some d) → Ed ⟨K, fun _ => True, [], locT, G, H⟩ (tCall (sp_is_site K) [] C8.E0 (tCons (tVar 0) (tCons (tVar j) tNil))) ρ μ (.bl (isBelow ss.length d)) := fun hd h0 h1 => ed_p (ead_cons (ed_var h0) (ead_cons (ed_var h1) ea_nil)) ⟨_, _, _, rfl, ho, hd⟩ (by
        rintro e ⟨ss', cs', d', e1, rfl⟩
        obtain ⟨rfl, rfl, rfl⟩ := plD_any e1; rfl)
      by_cases b1 : isBelow ss.length x = true
      · by_cases b2 : isBelow ss.length y = true
        · obtain ⟨i, rfl⟩ := isBelow_eq b1
          obtain ⟨j, rfl⟩ := isBelow_eq b2
          have e1 : (decide (0 ≤ i) && decide (i < (ss.length : Int))) = true := b1
          have e2 : (decide (0 ≤ j) && decide (j < (ss.length : Int))) = true := b2
          rw [Bool.and_eq_true] at e1 e2
          have i0 := of_decide_eq_true e1.1
          have i1 := of_decide_eq_true e1.2
          have j0 := of_decide_eq_true e2.1
          have hb : ∀ s ∈ sharedS ss i j, PyData.strOk s = true := fun s hs => by
            unfold sharedS at hs
            split at hs
            · cases hs
            · have hl2 : i.toNat < ss.length := by omega
              exact ((hL.names _ (getD_in (z := []) hl2)).2 s (List.mem_filter.mp hs).1).1
          refine x_ret a2 (P := fun d => d = .bl (isEdgeD ss (.tup [.int i, .int j]))) (Ed.is (ed_andV (a := isBelow ss.length (.int i)) (b := isBelow ss.length (.int j) && !(sharedS ss i j).isEmpty) (hs hx rfl rfl) fun _ => ed_andV (a := isBelow ss.length (.int j)) (b := !(sharedS ss i j).isEmpty) (hs hy rfl rfl) fun _ => Ed.is (ed_op (ed_p (d := tS (sharedS ss i j)) (ead_cons (ed_var rfl) (ead_cons (ed_var rfl) (ead_cons (ed_var rfl) ea_nil))) ⟨_, _, _, _, rfl, ho, i0, j0⟩ (by
            rintro e ⟨ss', cs', a', b', e1, rfl⟩
            obtain ⟨rfl, rfl, rfl, rfl⟩ := plD_two e1; rfl)) (ed_tup ea_nil (by decide)) (rd_neD (plA_strs hb) rfl (by show depA _ + 1 ≤ 64; rw [depA_strs]; decide) (by decide))) (by rw [eqT_nil])) (by
              show _ = D.bl (isBelow ss.length (.int i) && isBelow ss.length (.int j) && !(sharedS ss i j).isEmpty)
              rw [Bool.and_assoc])) fun v H' d' hd' a' => hq ⟨_, _, _, rfl, hd'⟩ a'
        · rw [Bool.not_eq_true] at b2
          refine x_ret a2 (P := fun d => d = .bl false) (Ed.is (ed_andV (a := isBelow ss.length x) (b := false) (hs hx rfl rfl) fun _ => Ed.is (ed_andV (a := isBelow ss.length y) (b := false) (hs hy rfl rfl) fun z => by rw [b2] at z; cases z) (by rw [b2]; rfl)) (by rw [Bool.and_false])) fun v H' d' hd' a' => hq ⟨_, _, _, rfl, ?_⟩ a'
          rw [hd']
          unfold isEdgeD
          split
          · rename_i e; cases e; rw [b2, Bool.and_false]; rfl
          · rfl
      · rw [Bool.not_eq_true] at b1
        refine x_ret a2 (P := fun d => d = .bl false) (Ed.is (ed_andV (a := isBelow ss.length x) (b := false) (hs hx rfl rfl) fun z => by rw [b1] at z; cases z) (by rw [b1]; rfl)) fun v H' d' hd' a' => hq ⟨_, _, _, rfl, ?_⟩ a'
        rw [hd']
        unfold isEdgeD
        split
        · rename_i e; cases e; rw [b1]; rfl
        · rfl
include bi in
theorem ok_are_edges (F : Fun K "are_edges" "are_edges" s_are_edges f fd) (c_is_edge : C8.Cal P w K mg base 4 "is_edge" (sp_is_edge K) []) (c_is_ascending : C8.Cal P w K mg base 1 "is_ascending" (sp_is_ascending K) []) : FnOk P w K mg base CX0 5 f fd ["placement", "thing"] (sp_are_edges K) := by
  refine F.ok sc_are_edges (fun vs H Q E h => ?_) (fun cdv A outer s H vs Q E hr h => ?_)
  · obtain ⟨G, ds, h1, ⟨ss, cs, d, rfl, _⟩, _⟩ := h
    exact h1.length
  · have hu := hu_of hr
    obtain ⟨G, ds, ⟨ss, cs, d, rfl, ho, hL, hd⟩, hlen, a, hq⟩ := fsp_start locT n_are_edges h
    refine ⟨_, (pss_one (ps_ret (pe_and (pe_callB (id := "isinstance") (r := rIsi K) call_isi (by rfl) (bi "isinstance" (by decide +kernel)) (by decide +kernel) (pa_cons (pv 1) (pa_cons (pe_bltn (v := .ty "tuple") (u := .type "tuple") (by rfl) (bi "tuple" (by decide +kernel)) (by decide +kernel) rfl) pa_nil))) (pe_and (pe_callB (id := "all") (r := rAll K) (cr_all rfl) (by rfl) (bi "all" (by decide +kernel)) (by decide +kernel) (pa_cons (pe_lc (own := [("item", 2)]) (g := gName 2) (tt := tYes) rfl sc_are_edges.nd (pi_tup (pv 1)) (blkOk_by (N := n_are_edges) (sc := defScope s_are_edges) (by decide +kernel)) (fun _ _ _ _ _ => (pg_name (i := 2) sc_are_edges.nd rfl (by first | exact (.inl rfl) | exact (.inr rfl)))) (fun _ _ _ _ _ => pts_nil) (fun _ _ _ _ _ => (C8.pe_c c_is_edge hr (by first | decide | omega) (by rfl) (pa_cons (pv 0) (pa_cons (pv 2) pa_nil))))) pa_nil)) (pe_one (C8.pe_c c_is_ascending hr (by first | decide | omega) (by rfl) (pa_cons (pv 1) pa_nil))))))), ?_⟩
    by_cases ht : isT d = true
    · obtain ⟨es, rfl⟩ := isT_eq ht
      refine x_ret a (ed_andV (b := areEdgesD ss (.tup es)) (ed_isiT (ed_var rfl) hd.ty) fun _ => ed_andV (ed_allF (f := fun i => isEdgeD ss (es.getD i .non)) (ed_lc0 (ei_tup (ed_var rfl)) (by decide) (Nat.le_trans hd.1 (by decide)) fun i hi cl => ed_p (ead_cons (ed_var rfl) (ead_cons (ed_var rfl) ea_nil)) ⟨_, _, _, rfl, ho, hL, hd.2.all _ (List.mem_of_getElem? (getD_of hi))⟩ (by
        rintro e ⟨ss', cs', d', e1, rfl⟩
        obtain ⟨rfl, rfl, rfl⟩ := plD_any e1; rfl))) fun hn => ?_) fun v H' d' hd' a' => hq ⟨_, _, _, rfl, hd'⟩ a'
      exact ed_p (ead_cons (ed_var rfl) ea_nil) ⟨es, rfl, hd.1, .inr (.inr fun e he => let ⟨q, h1, _⟩ := isEdge_eq (getD_all hn e he); ⟨q, h1⟩)⟩ (by rintro e ⟨d', e1, rfl⟩; cases e1; rfl)
    · refine x_ret a (Ed.is (ed_andV (b := true) (ed_isiT (ed_var rfl) hd.ty) fun hb => absurd hb ht) ?_) fun v H' d' hd' a' => hq ⟨_, _, _, rfl, hd'⟩ a'
      cases d <;> first | rfl | exact absurd rfl ht
include bi in
theorem ok_is_plan (F : Fun K "is_plan" "is_plan" s_is_plan f fd) (c_check_placement : C8.Cal P w K mg base 7 "check_placement" (sp_check_placement K) []) (c_is_tuple_of : C8.Cal P w K mg base 1 "is_tuple_of" (sp_is_tuple_of K) []) (c_count_places : C8.Cal P w K mg base 1 "count_places" (sp_count_places K) []) (c_are_edges : C8.Cal P w K mg base 5 "are_edges" (sp_are_edges K) []) (c_all_edges : C8.Cal P w K mg base 3 "all_edges" (sp_all_edges K) []) : FnOk P w K mg base CX0 8 f fd ["placement", "thing"] (sp_is_plan K) := by
  refine F.ok sc_is_plan (fun vs H Q E h => ?_) (fun cdv A outer s H vs Q E hr h => ?_)
  · obtain ⟨G, ds, h1, ⟨ss, cs, d, rfl, _⟩, _⟩ := h
    exact h1.length
  · have hu := hu_of hr
    obtain ⟨G, ds, ⟨ss, cs, d, rfl, ho, hL, hd⟩, hlen, a, hq⟩ := fsp_start locT n_is_plan h
    refine ⟨_, (pss_cons (ps_expr (C8.pe_c c_check_placement hr (by first | decide | omega) (by rfl) (pa_cons (pv 0) pa_nil)))
      (pss_cons (ps_if (pt_not (pt_val (C8.pe_c c_is_tuple_of hr (by first | decide | omega) (by rfl) (pa_cons (pv 1) (pa_cons (C8.pe_c c_count_places hr (by first | decide | omega) (by rfl) (pa_cons (pv 0) pa_nil)) pa_nil))))) (pss_one (ps_ret pe_bl)) pss_nil)
      (pss_cons (ps_if (pt_not (pt_val (pe_callB (id := "all") (r := rAll K) (cr_all rfl) (by rfl) (bi "all" (by decide +kernel)) (by decide +kernel) (pa_cons (pe_lc (own := [("counted", 2)]) (g := gName 2) (tt := tYes) rfl sc_is_plan.nd (pi_tup (pv 1)) (blkOk_by (N := n_is_plan) (sc := defScope s_is_plan) (by decide +kernel)) (fun _ _ _ _ _ => (pg_name (i := 2) sc_is_plan.nd rfl (by first | exact (.inl rfl) | exact (.inr rfl)))) (fun _ _ _ _ _ => pts_nil) (fun _ _ _ _ _ => (C8.pe_c c_are_edges hr (by first | decide | omega) (by rfl) (pa_cons (pv 0) (pa_cons (pv 2) pa_nil))))) pa_nil)))) (pss_one (ps_ret pe_bl)) pss_nil)
      (pss_one (ps_ret (pe_callB (id := "all") (r := rAll K) (cr_all rfl) (by rfl) (bi "all" (by decide +kernel)) (by decide +kernel) (pa_cons (pe_lc2 (own := [("edge", 3), ("site", 4)]) (vs1 := [4]) (g := gName 3) (g1 := gName 4) (tt := tYes) (tt1 := tYes) rfl sc_is_plan.nd (pi_tup (C8.pe_c c_all_edges hr (by first | decide | omega) (by rfl) (pa_cons (pv 0) pa_nil))) (blkOk_by (N := n_is_plan) (sc := defScope s_is_plan) (by decide +kernel)) (by decide) (fun _ _ _ _ _ => (pg_name (i := 3) sc_is_plan.nd rfl (by first | exact (.inl rfl) | exact (.inr rfl)))) (fun _ _ _ _ _ => pts_nil) (fun _ _ _ _ _ => (pi_tupK (K := K) (by rfl) (pv 3))) (fun _ _ _ _ _ => (pg_name (i := 4) sc_is_plan.nd rfl (by first | exact (.inl rfl) | exact (.inr rfl)))) (fun _ _ _ _ _ => pts_nil) (fun _ _ _ _ _ => (pe_cmpR (r := rInT K false) (op_inT hr.units) (pv 3) (pe_ix (r := rIx K) ix_seq (pv 1) (pv 4) (fun _ _ => rfl)) (by rfl)))) pa_nil))))))), ?_⟩
    refine y_drop a (ed_p (d := .non) (ead_cons (ed_var rfl) ea_nil) ⟨_, _, rfl, ho⟩ fun e he => he) fun d0 μ' H1 hd0 a1 => ?_
    obtain ⟨_, rfl⟩ := hd0
    refine y_ifb a1 (eb_not (eb_B (ed_p (d := .bl (isTup (ss.length + cs.length) d)) (ead_cons (ed_var rfl) (ead_cons (ed_p (d := .int (ss.length + cs.length)) (ead_cons (ed_var rfl) ea_nil) ⟨_, _, rfl, ho⟩ (by rintro e ⟨ss', cs', e1, rfl⟩; obtain ⟨rfl, rfl⟩ := plD_zero e1; rfl)) ea_nil)) ⟨_, _, rfl, hd⟩ (by rintro e ⟨d', n', e1, rfl⟩; cases e1; rfl)))) (fun hb H2 a2 => ?_) fun hb H2 a2 => ?_
    · refine x_ret a2 (Ed.is (d := .bl false) ed_bl ?_) fun v H' d' hd' a' => hq ⟨_, _, _, rfl, hd'⟩ a'
      cases d <;> first | rfl | skip
      rename_i xs
      have hb' : (!decide ((xs.length : Int) = ss.length + cs.length)) = true := hb
      rw [Bool.not_eq_true'] at hb'
      show D.bl false = .bl (decide _ && _)
      rw [hb']; rfl
    · obtain ⟨xs, rfl⟩ : ∃ xs, d = .tup xs := by cases d <;> first | cases hb | exact ⟨_, rfl⟩
      have hxl : (xs.length : Int) = ss.length + cs.length := by
        have hb' : (!decide ((xs.length : Int) = ss.length + cs.length)) = false := hb
        rw [Bool.not_eq_false'] at hb'
        exact of_decide_eq_true hb'
      have hall := ed_allF (B := ⟨K, fun _ => True, [], locT, G, H⟩) (μ := []) (ρ := [some (plD ss cs), some (.tup xs), none, none, none]) (f := fun i => areEdgesD ss (xs.getD i .non)) (ed_lc0 (k := 2) (vs := [2]) (ei_tup (ed_var (i := 1) rfl)) (by decide) (Nat.le_trans hd.1 (by decide)) fun i hi cl => ed_p (t := tCons (tVar 0) (tCons (tVar 2) tNil)) (pre := fun ds => ∃ ss cs d, ds = [plD ss cs, d] ∧ PlOk ss cs ∧ PlL ss cs ∧ Sm d) (post := fun ds e => ∃ ss cs d, ds = [plD ss cs, d] ∧ e = .bl (areEdgesD ss d)) (E := C8.E0) (ead_cons (ed_var rfl) (ead_cons (ed_var rfl) ea_nil)) ⟨_, _, _, rfl, ho, hL, hd.2.all _ (List.mem_of_getElem? (getD_of hi))⟩ (by
        rintro e ⟨ss', cs', d', e1, rfl⟩
        obtain ⟨rfl, rfl, rfl⟩ := plD_any e1; rfl))
      refine y_ifb a2 (eb_not (eb_B hall)) (fun hb2 H3 a3 => ?_) fun hb2 H3 a3 => ?_
      · refine x_ret a3 (Ed.is (d := .bl false) ed_bl ?_) fun v H' d' hd' a' => hq ⟨_, _, _, rfl, hd'⟩ a'
        rw [Bool.not_eq_true'] at hb2
        show D.bl false = .bl (decide _ && (_ && _))
        rw [hb2, Bool.false_and, Bool.and_false]
      · rw [Bool.not_eq_false'] at hb2
        have ep : ∀ q ∈ epairs ss, (0 ≤ q.1 ∧ q.1 < ss.length) ∧ 0 ≤ q.2 ∧ q.2 < ss.length := fun q hq => by
          obtain ⟨a, ha, h3⟩ := List.mem_flatMap.mp hq
          obtain ⟨b, hb, rfl⟩ := List.mem_map.mp h3
          have h1 := List.mem_range.mp ha
          have h2 := List.mem_range.mp (List.mem_filter.mp hb).1
          exact ⟨⟨by show (0 : Int) ≤ (a : Int); omega, by show ((a : Int)) < _; omega⟩, by show (0 : Int) ≤ (b : Int); omega, by show ((b : Int)) < _; omega⟩
        have hel : (epairs ss).length ≤ 3600 := by
          have h1 := stE_len ss ss.length
          have h3 : ss.length * ss.length ≤ 60 * 60 := Nat.mul_le_mul hL.ns hL.ns
          have h2 := congrArg List.length (stE_pairs ss ss.length)
          rw [List.length_map, List.length_map, List.length_map] at h2
          show ((List.range ss.length).flatMap _).length ≤ _
          omega
        let qf : Nat → Int × Int := fun i => (epairs ss).getD i (0, 0)
        have qm : ∀ i, i < (epairs ss).length → qf i ∈ epairs ss := fun i hi => getD_in hi
        have hix : ∀ {i j : Nat}, i < (epairs ss).length → j < 2 → ∃ s : Int, ([D.int (qf i).1, D.int (qf i).2] : List D).getD j .non = .int s ∧ 0 ≤ s ∧ s < ss.length ∧ s = [(qf i).1, (qf i).2].getD j 0 := fun {i j} hi hj => by
          have := ep _ (qm i hi)
          match j, hj with
          | 0, _ => exact ⟨_, rfl, this.1.1, this.1.2, rfl⟩
          | 1, _ => exact ⟨_, rfl, this.2.1, this.2.2, rfl⟩
        have last := ed_lc2x (B := ⟨K, fun _ => True, [], locT, G, H⟩) (μ := []) (ρ := [some (plD ss cs), some (.tup xs), none, none, none]) (n := (epairs ss).length) (m := fun _ => 2) (f := fun i => pairD (qf i)) (f1 := fun i j => ([D.int (qf i).1, D.int (qf i).2] : List D).getD j .non) (h := fun i j => D.bl (decide (qf i ∈ itemsP (xs.getD ([(qf i).1, (qf i).2].getD j 0).toNat .non)))) (js := [3]) (js1 := [4]) (vs := [3, 4]) (vs1 := [4]) (g := gName 3) (g1 := gName 4) (tt1 := tYes) (te := tOp (rInT K false) (tVar 3) (tOp (rIx K) (tVar 1) (tVar 4)))
          (ei_tupG pairD (0, 0) (l := epairs ss) (ed_p (t := tCons (tVar 0) tNil) (pre := fun ds => ∃ ss cs, ds = [plD ss cs] ∧ PlOk ss cs ∧ ss.length ≤ 900) (post := fun ds e => ∃ ss cs, ds = [plD ss cs] ∧ e = .tup (edgesD ss)) (E := C8.E0) (ead_cons (ed_var rfl) ea_nil) ⟨_, _, rfl, ho, by have := hL.ns; omega⟩ (by
            rintro e ⟨ss', cs', e1, rfl⟩
            obtain ⟨rfl, rfl⟩ := plD_zero e1
            rw [edges_eq]; rfl)))
          (fun i => (wipeR [some (plD ss cs), some (.tup xs), none, none, none] [3, 4]).set 3 (some (pairD (qf i)))) (fun i j => (wipeR ((wipeR [some (plD ss cs), some (.tup xs), none, none, none] [3, 4]).set 3 (some (pairD (qf i)))) [4]).set 4 (some (([D.int (qf i).1, D.int (qf i).2] : List D).getD j .non))) (by decide) (by decide) (fun _ _ => true)
          (fun i _ cl => gd_name 3) (fun i _ cl => ei_tup (ds := [D.int (qf i).1, D.int (qf i).2]) (ed_var (i := 3) (show _ = some (some (pairD (qf i))) from rfl))) (fun i _ j _ cl => gd_name 4) (fun i hi j hj cl => eb_yes) (fun i hi j hj _ cl => ?_) fun i hi => ?_
        · refine x_ret a3 (Ed.is (ed_all (bs := (List.range (epairs ss).length).flatMap fun i => (List.range 2).map fun j => decide (qf i ∈ itemsP (xs.getD ([(qf i).1, (qf i).2].getD j 0).toNat .non))) (Ed.is last ?_)) ?_) fun v H' d' hd' a' => hq ⟨_, _, _, rfl, hd'⟩ a'
          · refine congrArg D.lst ?_
            rw [List.map_flatMap]
            refine congrArg (List.flatMap · (List.range (epairs ss).length)) (funext fun i => ?_)
            rw [List.map_map]; rfl
          · show D.bl _ = .bl (decide ((xs.length : Int) = ss.length + cs.length) && (((List.range xs.length).all fun p => areEdgesD ss (xs.getD p .non)) && ownIn ss xs))
            rw [decide_eq_true hxl, hb2, Bool.true_and, Bool.true_and]
            refine congrArg D.bl ?_
            unfold ownIn
            rw [List.all_flatMap]
            have e1 : (List.range (epairs ss).length).map (fun i => (epairs ss).getD i (0, 0)) = epairs ss := by
              have := range_getG ((0 : Int), (0 : Int)) (epairs ss) (fun x => x)
              rwa [List.map_id'] at this
            conv => rhs; rw [← e1]
            rw [List.all_map]
            refine congrArg (List.all (List.range (epairs ss).length)) (funext fun i => ?_)
            show (decide _ && (decide _ && true)) = _
            rw [Bool.and_true]; rfl
        · obtain ⟨s, e1, s0, s1, e2⟩ := hix hi hj
          have hsl : s.toNat < xs.length := by have := hxl; omega
          have hpe := all_range hb2 s.toNat hsl
          obtain ⟨f1, f2⟩ := areEdges_eq hpe
          rw [← e2]
          refine ed_op (r := rInT K false) (d1 := pairD (qf i)) (d2 := .tup ((itemsP (xs.getD s.toNat .non)).map pairD)) (ed_var rfl) (Ed.is (ed_op (ed_var (i := 1) rfl) (Ed.is (ed_var (i := 4) rfl) e1) (rd_ixT (d := xs.getD s.toNat .non) (atI_of s0 (getD_of hsl)))) f1) rd_inP
        · rw [List.length_flatMap]
          have : ((List.range i).map fun i => (((List.range 2).filter fun _ => true).map fun j => D.bl (decide (qf i ∈ itemsP (xs.getD ([(qf i).1, (qf i).2].getD j 0).toNat .non)))).length).sum ≤ (List.range i).length * 2 := by
            generalize List.range i = l
            induction l with
            | nil => exact Nat.zero_le _
            | cons x r ih =>
              rw [List.map_cons, List.sum_cons, List.length_cons, Nat.succ_mul, List.length_map]
              have := List.length_filter_le (fun _ : Nat => true) (List.range 2)
              rw [List.length_range] at this
              omega
          rw [List.length_range] at this
          exact Nat.le_trans this (by omega)
end
end Cal


namespace Cal
open PySem PySem.Spec PyProof.Rows L2
abbrev s__law_is_int : Stmt := topS 42
abbrev n__law_is_int : List Str := ["thing", "low", "high"]
theorem sc__law_is_int : FnScope n__law_is_int ["thing", "low", "high"] (defScope s__law_is_int) := ⟨rfl, rfl, rfl, by decide +kernel, rfl, by decide +kernel, by decide +kernel⟩
abbrev s__law_is_tuple : Stmt := topS 43
abbrev n__law_is_tuple : List Str := ["thing", "many"]
theorem sc__law_is_tuple : FnScope n__law_is_tuple ["thing", "many"] (defScope s__law_is_tuple) := ⟨rfl, rfl, rfl, by decide +kernel, rfl, by decide +kernel, by decide +kernel⟩
def isIn (lo hi : Int) : D → Bool | .int i => decide (lo ≤ i) && decide (i ≤ hi) | _ => false
theorem ge_lt (i j : Int) : decide (j ≤ i) = !decide (i < j) := by
  by_cases h : i < j
  · rw [decide_eq_true h, decide_eq_false (by omega)]; rfl
  · rw [decide_eq_false h, decide_eq_true (by omega)]; rfl

section
variable {P : Program} {w : World} {K : PySem.W.Frag} {mg : Str → Option Value} {base : Heap} {f : Addr} {fd : FuncData}
abbrev BNj : List Str := ["bool", "int", "isinstance", "len", "tuple"]
abbrev sp__law_is_int (K : PySem.W.Frag) : Sp := psp K (fun ds => ∃ d lo hi, ds = [d, .int lo, .int hi] ∧ Sm d) (fun ds e => ∃ d lo hi, ds = [d, .int lo, .int hi] ∧ e = .bl (isIn lo hi d))
variable (bi : ∀ x, x ∈ BNj → mg x = none)
include bi in
theorem ok__law_is_int (F : Fun K "_law_is_int" "_law_is_int" s__law_is_int f fd) : FnOk P w K mg base CX0 1 f fd ["thing", "low", "high"] (sp__law_is_int K) := by
  refine F.ok sc__law_is_int (fun vs H Q E h => ?_) (fun cdv A outer s H vs Q E hr h => ?_)
  · obtain ⟨G, ds, h1, ⟨d, lo, hi, rfl, _⟩, _⟩ := h
    exact h1.length
  · have hu := hu_of hr
    obtain ⟨G, ds, ⟨d, lo, hi, rfl, hd⟩, hlen, a, hq⟩ := fsp_start locT n__law_is_int h
    refine ⟨_, (pss_one (ps_ret (pe_and (pe_callB (id := "isinstance") (r := rIsi K) call_isi (by rfl) (bi "isinstance" (by decide +kernel)) (by decide +kernel) (pa_cons (pv 0) (pa_cons (pe_bltn (v := .ty "int") (u := .type "int") (by rfl) (bi "int" (by decide +kernel)) (by decide +kernel) rfl) pa_nil))) (pe_and (pe_not (pe_callB (id := "isinstance") (r := rIsi K) call_isi (by rfl) (bi "isinstance" (by decide +kernel)) (by decide +kernel) (pa_cons (pv 0) (pa_cons (pe_bltn (v := .ty "bool") (u := .type "bool") (by rfl) (bi "bool" (by decide +kernel)) (by decide +kernel) rfl) pa_nil)))) (pe_one (pe_chain u_le u_le (pv 1) (pv 0) (pv 2))))))), ?_⟩
    refine x_ret a (Ed.is (d := .bl (isI d && (!isBl d && isIn lo hi d))) (ed_andV (ed_isiI (ed_var rfl) hd.ty) fun hb => ed_andV (ed_notV (ed_isiB (ed_var rfl) hd.ty)) fun hb2 => ?_) ?_) fun v H' d' hd' a' => hq ⟨d, lo, hi, rfl, hd'⟩ a'
    · obtain ⟨i, rfl⟩ : ∃ i, d = .int i := isInt_eq (by rw [← isInt_of, hb, hb2]; rfl)
      exact ed_leleI (ed_var rfl) (ed_var rfl) (ed_var rfl)
    · cases d <;> rfl
include bi in
theorem ok__law_is_tuple (F : Fun K "_law_is_tuple" "_law_is_tuple" s__law_is_tuple f fd) : FnOk P w K mg base CX0 1 f fd ["thing", "many"] (sp_is_tuple_of K) := by
  refine F.ok sc__law_is_tuple (fun vs H Q E h => ?_) (fun cdv A outer s H vs Q E hr h => ?_)
  · obtain ⟨G, ds, h1, ⟨d, n, rfl, _⟩, _⟩ := h
    exact h1.length
  · have hu := hu_of hr
    obtain ⟨G, ds, ⟨d, n, rfl, hd⟩, hlen, a, hq⟩ := fsp_start locT n__law_is_tuple h
    refine ⟨_, (pss_one (ps_ret (pe_and (pe_callB (id := "isinstance") (r := rIsi K) call_isi (by rfl) (bi "isinstance" (by decide +kernel)) (by decide +kernel) (pa_cons (pv 0) (pa_cons (pe_bltn (v := .ty "tuple") (u := .type "tuple") (by rfl) (bi "tuple" (by decide +kernel)) (by decide +kernel) rfl) pa_nil))) (pe_one (pe_cmpR (r := rEqD K) (u_eq hr.units) (pe_callB (id := "len") (r := rLenU K) u_len (by rfl) (bi "len" (by decide +kernel)) (by decide +kernel) (pa_cons (pv 0) pa_nil)) (pv 1) (nomark _)))))), ?_⟩
    refine x_ret a (Ed.is (d := .bl (isT d && isTup n d)) (ed_andV (ed_isiT (ed_var rfl) hd.ty) fun hb => ?_) ?_) fun v H' d' hd' a' => hq ⟨d, n, rfl, hd'⟩ a'
    · obtain ⟨es, rfl⟩ := isT_eq hb
      exact Ed.is (ed_op (ed_lenT (ed_var rfl)) (ed_var rfl) (rd_eqI)) rfl
    · cases d <;> rfl
abbrev sp__law_is_plan (K : PySem.W.Frag) : Sp := psp K (fun ds => ∃ ss cs d, ds = [worldD ss cs, d] ∧ PlL ss cs ∧ Sm d) (fun ds e => ∃ ss cs d, ds = [worldD ss cs, d] ∧ e = .bl (isPlanD ss cs d))
theorem world_inj {ss : List (List Str)} {cs : List (List Int)} {ss' : List (List Str)} {cs' : List (List Int)} (h : worldD ss cs = worldD ss' cs') : ss = ss' ∧ cs = cs' := by
  have e3 : getD' [((.inr "sites" : Key), D.tup (ss.map tS)), (.inr "clients", .tup (cs.map tI)), (.inr "n", .int ss.length), (.inr "many", .int (ss.length + cs.length)), (.inr "steps", .dt (stepsD ss cs)), (.inr "near", nearD ss cs)] (.inr "sites") = getD' [((.inr "sites" : Key), D.tup (ss'.map tS)), (.inr "clients", .tup (cs'.map tI)), (.inr "n", .int ss'.length), (.inr "many", .int (ss'.length + cs'.length)), (.inr "steps", .dt (stepsD ss' cs')), (.inr "near", nearD ss' cs')] (.inr "sites") := by rw [D.dk.inj h]
  have e4 : getD' [((.inr "sites" : Key), D.tup (ss.map tS)), (.inr "clients", .tup (cs.map tI)), (.inr "n", .int ss.length), (.inr "many", .int (ss.length + cs.length)), (.inr "steps", .dt (stepsD ss cs)), (.inr "near", nearD ss cs)] (.inr "clients") = getD' [((.inr "sites" : Key), D.tup (ss'.map tS)), (.inr "clients", .tup (cs'.map tI)), (.inr "n", .int ss'.length), (.inr "many", .int (ss'.length + cs'.length)), (.inr "steps", .dt (stepsD ss' cs')), (.inr "near", nearD ss' cs')] (.inr "clients") := by rw [D.dk.inj h]
  have e5 : D.tup (ss.map tS) = .tup (ss'.map tS) := Option.some.inj e3
  have e6 : D.tup (cs.map tI) = .tup (cs'.map tI) := Option.some.inj e4
  refine plD_inj ?_
  unfold plD
  rw [e5, e6]
theorem mem_epairs {ss : List (List Str)} (q : Int × Int) : q ∈ epairs ss ↔ (0 ≤ q.1 ∧ q.1 < ss.length) ∧ (0 ≤ q.2 ∧ q.2 < ss.length) ∧ sharedS ss q.1 q.2 ≠ [] := by
  constructor
  · intro hq
    obtain ⟨a, ha, h3⟩ := List.mem_flatMap.mp hq
    obtain ⟨b, hb, rfl⟩ := List.mem_map.mp h3
    have h1 := List.mem_range.mp ha
    obtain ⟨hb1, hb2⟩ := List.mem_filter.mp hb
    have h2 := List.mem_range.mp hb1
    rw [Bool.and_eq_true] at hb2
    refine ⟨⟨by show (0 : Int) ≤ (a : Int); omega, by show ((a : Int)) < _; omega⟩, ⟨by show (0 : Int) ≤ (b : Int); omega, by show ((b : Int)) < _; omega⟩, ?_⟩
    show sharedS ss (a : Int) (b : Int) ≠ []
    have hab : ¬ a = b := fun z => by rw [decide_eq_true z] at hb2; cases hb2.1
    rw [shared_both, if_neg hab]
    exact fun z => by rw [z] at hb2; cases hb2.2
  · rintro ⟨⟨a0, a1⟩, ⟨b0, b1⟩, h⟩
    obtain ⟨a, b⟩ := q
    have ea : a = ((a.toNat : Nat) : Int) := by have : 0 ≤ a := a0; omega
    have eb : b = ((b.toNat : Nat) : Int) := by have : 0 ≤ b := b0; omega
    have h' : sharedS ss (a.toNat : Nat) (b.toNat : Nat) ≠ [] := by rw [← ea, ← eb]; exact h
    have hab : ¬ a.toNat = b.toNat := fun z => by rw [shared_both, if_pos z] at h'; exact h' rfl
    rw [shared_both, if_neg hab] at h'
    have a1' : a < ss.length := a1
    have b1' : b < ss.length := b1
    refine List.mem_flatMap.mpr ⟨a.toNat, List.mem_range.mpr (by omega), List.mem_map.mpr ⟨b.toNat, List.mem_filter.mpr ⟨List.mem_range.mpr (by omega), ?_⟩, by rw [← ea, ← eb]⟩⟩
    rw [decide_eq_false hab]
    cases e : bothS ss a.toNat b.toNat with
    | nil => exact absurd e h'
    | cons x r => rfl
theorem isEdge_pair {ss : List (List Str)} (q : Int × Int) : isEdgeD ss (pairD q) = decide (q ∈ epairs ss) := by
  show (isBelow ss.length (.int q.1) && isBelow ss.length (.int q.2) && !(sharedS ss q.1 q.2).isEmpty) = _
  have e1 : isBelow ss.length (.int q.1) = decide (0 ≤ q.1 ∧ q.1 < ss.length) := by
    show (decide _ && decide _) = _
    rw [Bool.decide_and]
  have e2 : isBelow ss.length (.int q.2) = decide (0 ≤ q.2 ∧ q.2 < ss.length) := by
    show (decide _ && decide _) = _
    rw [Bool.decide_and]
  have e3 : (!(sharedS ss q.1 q.2).isEmpty) = decide (sharedS ss q.1 q.2 ≠ []) := by
    cases sharedS ss q.1 q.2 <;> rfl
  rw [e1, e2, e3, ← Bool.decide_and, ← Bool.decide_and]
  exact decide_eq_decide.mpr ((and_assoc).trans (mem_epairs q).symm)
theorem bad_are {ss : List (List Str)} {cs : List (List Int)} {xs : List D} {p : Nat} (hp : p < xs.length) (h : areEdgesD ss (xs.getD p .non) = false) : isPlanD ss cs (.tup xs) = false := by
  have : ((List.range xs.length).all fun p => areEdgesD ss (xs.getD p .non)) = false := by
    cases e : (List.range xs.length).all fun p => areEdgesD ss (xs.getD p .non) with
    | false => rfl
    | true => rw [all_range e p hp] at h; cases h
  show (decide _ && (_ && _)) = false
  rw [this, Bool.false_and, Bool.and_false]
theorem bad_own {ss : List (List Str)} {cs : List (List Int)} {xs : List D} {p : Nat} {q : Int × Int} (hq : q ∈ epairs ss) (hp : (p : Int) = q.1 ∨ (p : Int) = q.2) (h : q ∉ itemsP (xs.getD p .non)) : isPlanD ss cs (.tup xs) = false := by
  have : ownIn ss xs = false := by
    cases e : ownIn ss xs with
    | false => rfl
    | true =>
      have := List.all_eq_true.mp e q hq
      rw [Bool.and_eq_true] at this
      exfalso
      rcases hp with z | z
      · have h1 := of_decide_eq_true this.1
        rw [← z] at h1
        exact h h1
      · have h1 := of_decide_eq_true this.2
        rw [← z] at h1
        exact h h1
  show (decide _ && (_ && _)) = false
  rw [this, Bool.and_false, Bool.and_false]
theorem two_at {x y : D} : atI [x, y] 0 = some x ∧ atI [x, y] 1 = some y := ⟨rfl, rfl⟩
end
end Cal


namespace Cal
open PySem PySem.Spec PyProof.Rows L2
section
variable {B : Bs} {ρ ρ' : Ro} {μ μ' : Mu} {τ : List (V × D)} {σ σ2 : L2.St} {H : Hp} {ta tb tc te ti : TE} {P : D → Prop} {d d1 d2 d3 : D} {R : D → Mu → Prop} {D0 : Ends} {tz : TS} {k : Nat} {v : V} {pk : Addr} {ls : List Addr} {rows : List (List Str)} {μ0 : Mu} {ja : Nat} {x : Int} {s : Str} {Pg : Program} {w : World}
/-! ### sorted(set(names)) -/
theorem ev_sortSet {ks : List Str} (h : Ed B te ρ μ (.lst (ks.map D.str))) (nd : ks.Nodup) (few : ks.length < 64) :
    Ev B (tCB (rSortedTx Pg w) (tCons (tCB (rSetS B.K Pg w) (tCons te tNil)) tNil)) ρ μ (fun e => ∃ ys : List Str, e = .lst (ys.map D.str) ∧ sortedS ys = true ∧ (∀ k, k ∈ ys ↔ k ∈ ks) ∧ ys.length = ks.length) := Ev.mk fun τ σ H a Q q => h.go a fun v H1 d hd a1 => by
  subst hd
  obtain ⟨G, g, p, vs, rfl, e, k⟩ := id a1.top
  have hs : SqL B.K H1 p (ks.map V.str) := by rw [← k.strs]; exact .inl (.inl (g.sub _ _ e))
  refine ⟨p, ks, rfl, hs, nd, few, fun a' ha' => ?_⟩
  refine ⟨a', ks.reverse, rfl, upd_same, by rw [List.length_reverse]; exact few, fun ys p2 h1 h2 h3 hp2 => ?_⟩
  obtain ⟨g2, _⟩ := g.new (o := SetT Pg w a' ks.reverse) ha'
  exact q _ _ _ ⟨ys, rfl, h1, fun k => by rw [h2 k, List.mem_reverse], by rw [h3, List.length_reverse]⟩ (g2.newLst hp2 (DtA.of_strs ys))
/-! ### kept[site].append(name) -/
theorem x_rowApp (a : At B ρ ((pk, .lst (ls.map rr)) :: (rowsMu ls (rows.map rowD) ++ μ0)) τ σ H) (hl : ls.length = rows.length) (hk : ρ[ja]? = some (some (rr pk)))
    (hx : Ed B ti ρ ((pk, .lst (ls.map rr)) :: (rowsMu ls (rows.map rowD) ++ μ0)) (.int x)) (b1 : 0 ≤ x) (b2 : x < rows.length) (he : Ed B te ρ ((pk, .lst (ls.map rr)) :: (rowsMu ls (rows.map rowD) ++ μ0)) (.str s)) (hz : (rows.getD x.toNat []).length < 100000)
    (q : ∀ H', At B ρ ((pk, .lst (ls.map rr)) :: (rowsMu ls ((rows.set x.toNat (rows.getD x.toNat [] ++ [s])).map rowD) ++ μ0)) τ σ H' → D0.nx σ H') :
    tDrop (tBM B.K "list" rAppend (tOp (rIx B.K) (tVar ja) ti) (tCons te tNil)) D0 σ H := by
  have hxr : x.toNat < rows.length := by omega
  have hxl : x.toNat < ls.length := by omega
  have el : ls[x.toNat]? = some ls[x.toNat] := List.getElem?_eq_getElem hxl
  have er : rows[x.toNat]? = some (rows.getD x.toNat []) := by rw [List.getD_eq_getElem?_getD, List.getElem?_eq_getElem hxr]; rfl
  have hg := rowsMu_get el (show (rows.map rowD)[x.toNat]? = some (rowD (rows.getD x.toNat [])) by rw [List.getElem?_map, er]; rfl)
  have hgl := (List.getElem?_eq_some_iff.mp hg).1
  refine x_append (k := x.toNat + 1) (ds := rowD (rows.getD x.toNat [])) (R := fun d μ' => d = .str s ∧ μ' = (pk, .lst (ls.map rr)) :: (rowsMu ls (rows.map rowD) ++ μ0)) a (ho_of (ed_op (ed_var hk) hx (rd_ixC (k := 0) rfl (atI_of b1 (by rw [List.getElem?_map, el]; rfl))))) (by rw [List.getElem?_cons_succ, List.getElem?_append_left hgl]; exact hg) he (fun d μ' ⟨_, e⟩ => by rw [e, List.getElem?_cons_succ, List.getElem?_append_left hgl]; exact hg) (by rw [List.length_map]; exact hz) fun d μ' H4 ⟨e1, e2⟩ a4 => ?_
  subst e1; subst e2
  have e3 : (((pk, Cl.lst (ls.map rr)) :: (rowsMu ls (rows.map rowD) ++ μ0)).set (x.toNat + 1) (ls[x.toNat], .lst (rowD (rows.getD x.toNat []) ++ [.str s]))) = (pk, .lst (ls.map rr)) :: (rowsMu ls ((rows.set x.toNat (rows.getD x.toNat [] ++ [s])).map rowD) ++ μ0) := by
    rw [List.set_cons_succ, List.set_append_left _ _ hgl, rowsMu_set el, List.map_set]
    rw [show rowD (rows.getD x.toNat [] ++ [s]) = rowD (rows.getD x.toNat []) ++ [D.str s] by rw [rowD, rowD, List.map_append]; rfl]
  rw [e3] at a4
  exact q H4 a4
theorem y_rowApp (a : At B ρ ((pk, .lst (ls.map rr)) :: (rowsMu ls (rows.map rowD) ++ μ0)) τ σ H) (hl : ls.length = rows.length) (hk : ρ[ja]? = some (some (rr pk)))
    (hx : Ed B ti ρ ((pk, .lst (ls.map rr)) :: (rowsMu ls (rows.map rowD) ++ μ0)) (.int x)) (b1 : 0 ≤ x) (b2 : x < rows.length) (he : Ed B te ρ ((pk, .lst (ls.map rr)) :: (rowsMu ls (rows.map rowD) ++ μ0)) (.str s)) (hz : (rows.getD x.toNat []).length < 100000)
    (q : ∀ H', At B ρ ((pk, .lst (ls.map rr)) :: (rowsMu ls ((rows.set x.toNat (rows.getD x.toNat [] ++ [s])).map rowD) ++ μ0)) τ σ H' → tz D0 σ H') :
    tSeq (tDrop (tBM B.K "list" rAppend (tOp (rIx B.K) (tVar ja) ti) (tCons te tNil))) tz D0 σ H := x_rowApp (D0 := { D0 with nx := tz D0 }) a hl hk hx b1 b2 he hz q
/-- each row as before, or with the name behind it -/
def Up (s : Str) (rows rows' : List (List Str)) : Prop := rows'.length = rows.length ∧ ∀ (k : Nat) (r' : List Str), rows'[k]? = some r' → ∃ r, rows[k]? = some r ∧ (r' = r ∨ r' = r ++ [s])
/-- for site in some sites: kept[site].append(name) -/
theorem x_rowsSome {jn ks n : Nat} (hja : ja ≠ ks) (hjn : jn ≠ ks) (hks : ks < ρ.length) (a : At B ρ ((pk, .lst (ls.map rr)) :: (rowsMu ls (rows.map rowD) ++ μ0)) τ σ H) (hl : ls.length = rows.length) (hk : ρ[ja]? = some (some (rr pk))) (hn : ρ[jn]? = some (some (.str s)))
    (he : Ev B te ρ ((pk, .lst (ls.map rr)) :: (rowsMu ls (rows.map rowD) ++ μ0)) (fun d => ∃ is : List Int, d = .tup (is.map .int) ∧ is.Pairwise (· < ·) ∧ ∀ x ∈ is, 0 ≤ x ∧ x < rows.length)) (hz : ∀ r ∈ rows, r.length ≤ n) (hn2 : n ≤ 90000)
    (q : ∀ rows' y σ' H', Up s rows rows' → At B (ρ.set ks y) ((pk, .lst (ls.map rr)) :: (rowsMu ls (rows'.map rowD) ++ μ0)) τ σ' H' → D0.nx σ' H') :
    tFor (iTup B.K te) (gName ks) (tDrop (tBM B.K "list" rAppend (tOp (rIx B.K) (tVar ja) (tVar ks)) (tCons (tVar jn) tNil))) D0 σ H := by
  refine x_forTP (Pd := fun ds => ∃ is : List Int, ds = is.map .int ∧ is.Pairwise (· < ·) ∧ ∀ x ∈ is, 0 ≤ x ∧ x < rows.length) a (Ev.imp he fun d ⟨is, h1, h2⟩ => ⟨_, h1, is, rfl, h2⟩)
    (fun ds j ρ' μ' => ∃ (rows' : List (List Str)) (y : Option D), ρ' = ρ.set ks y ∧ μ' = (pk, .lst (ls.map rr)) :: (rowsMu ls (rows'.map rowD) ++ μ0) ∧ rows'.length = rows.length ∧ ∀ (k : Nat) (r' : List Str), rows'[k]? = some r' → ∃ r, rows[k]? = some r ∧ (r' = r ∨ (r' = r ++ [s] ∧ (.int (k : Int) : D) ∈ ds.take j)))
    (fun ds hds => ⟨rows, ρ[ks], by rw [List.set_getElem_self], rfl, rfl, fun k r hk => ⟨r, hk, .inl rfl⟩⟩) (fun ds j ρ' μ' τ2 σ3 H3 Dn hds hj hI _ a3 hnx hct hbk hrt => ?_) fun ds ρ' μ' σ3 H3 hds hI a3 => ?_
  · obtain ⟨is, rfl, hpw, hbd⟩ := hds
    obtain ⟨rows', y, rfl, rfl, hrl, hup⟩ := hI
    have hj' : j < is.length := by simpa using hj
    have hx : is[j]? = some is[j] := List.getElem?_eq_getElem hj'
    have ex : (is.map D.int).getD j .non = .int is[j] := by rw [List.getD_eq_getElem?_getD, List.getElem?_map, hx]; rfl
    rw [ex, List.set_set] at a3
    obtain ⟨b1, b2⟩ := hbd _ (List.getElem_mem hj')
    have hxr : is[j].toNat < rows'.length := by omega
    have er : rows'[is[j].toNat]? = some (rows'.getD is[j].toNat []) := by rw [List.getD_eq_getElem?_getD, List.getElem?_eq_getElem hxr]; rfl
    obtain ⟨r0, h0, hr0⟩ := hup _ _ er
    have not : (.int ((is[j].toNat : Nat) : Int) : D) ∉ (is.map D.int).take j := fun hm => by
      rw [show ((is[j].toNat : Nat) : Int) = is[j] by omega, ← List.map_take] at hm
      obtain ⟨y, hy, e⟩ := List.mem_map.mp hm
      have e' : y = is[j] := D.int.inj e
      obtain ⟨q, hq1, hq2⟩ := List.mem_take_iff_getElem.mp hy
      have hq3 : q < j := by omega
      have := List.pairwise_iff_getElem.mp hpw q j (by omega) hj' hq3
      omega
    have er0 : rows'.getD is[j].toNat [] = r0 := hr0.elim id fun z => absurd z.2 not
    refine x_rowApp (x := is[j]) a3 (by rw [hrl]; exact hl) (by rw [List.getElem?_set_ne (fun z => hja z.symm)]; exact hk) (ed_var (by rw [List.getElem?_set_self hks])) b1 (by omega) (ed_var (by rw [List.getElem?_set_ne (fun z => hjn z.symm)]; exact hn)) (by rw [er0]; have := hz r0 (List.mem_of_getElem? h0); omega) fun H4 a4 => ?_
    refine hnx _ _ _ _ ⟨_, some (.int is[j]), rfl, rfl, by rw [List.length_set]; exact hrl, fun k r' hk' => ?_⟩ a4
    have etk : (is.map D.int).take (j + 1) = (is.map D.int).take j ++ [.int is[j]] := take_succ (by rw [List.getElem?_map, hx]; rfl)
    by_cases hkx : is[j].toNat = k
    · subst hkx
      rw [List.getElem?_set_self hxr] at hk'
      refine ⟨r0, h0, .inr ⟨by rw [← Option.some.inj hk', er0], ?_⟩⟩
      rw [etk]
      refine List.mem_append_right _ ?_
      rw [show ((is[j].toNat : Nat) : Int) = is[j] by omega]
      exact List.mem_singleton.mpr rfl
    · rw [List.getElem?_set_ne hkx] at hk'
      obtain ⟨r, h1, h2⟩ := hup _ _ hk'
      exact ⟨r, h1, h2.imp id fun ⟨z1, z2⟩ => ⟨z1, by rw [etk]; exact List.mem_append_left _ z2⟩⟩
  · obtain ⟨rows', y, rfl, rfl, hrl, hup⟩ := hI
    exact q rows' y σ3 H3 ⟨hrl, fun k r' hk' => let ⟨r, h1, h2⟩ := hup k r' hk'; ⟨r, h1, h2.imp id (·.1)⟩⟩ a3
/-! ### a, b, c = .., .., .. -/
theorem y_par3 {k l m : Nat} {R1 : D → Mu → Prop} {R2 R3 : D → Mu → D → Mu → Prop} (a : At B ρ μ τ σ H) (h1 : Xv B ta ρ μ R1) (h2 : ∀ d1 μ1, R1 d1 μ1 → Xv B tb ρ μ1 (R2 d1 μ1)) (h3 : ∀ d1 μ1 d2 μ2, R1 d1 μ1 → R2 d1 μ1 d2 μ2 → Xv B tc ρ μ2 (R3 d2 μ2))
    (q : ∀ d1 μ1 d2 μ2 d3 μ3 σ' H', R1 d1 μ1 → R2 d1 μ1 d2 μ2 → R3 d2 μ2 d3 μ3 → At B (((ρ.set k (some d1)).set l (some d2)).set m (some d3)) μ3 τ σ' H' → tz D0 σ' H') :
    tSeq (tPar3 k l m (tCons ta (tCons tb (tCons tc tNil)))) tz D0 σ H :=
  h1 τ σ H a _ fun v1 H1 d1 μ1 r1 a1 => h2 d1 μ1 r1 _ σ H1 a1 _ fun v2 H2 d2 μ2 r2 a2 => h3 d1 μ1 d2 μ2 r1 r2 _ σ H2 a2 _ fun v3 H3 d3 μ3 r3 a3 =>
    ⟨v1, v2, v3, rfl, q d1 μ1 d2 μ2 d3 μ3 _ H3 r1 r2 r3 (At.set m (At.set (τ := (v3, d3) :: τ) l (At.set (τ := (v2, d2) :: (v3, d3) :: τ) k (a3.sub fun p hp => by
      simp only [List.mem_cons] at hp ⊢
      rcases hp with e | e | e | e
      · exact .inr (.inr (.inl e))
      · exact .inr (.inl e)
      · exact .inl e
      · exact .inr (.inr (.inr e))))))⟩
end
/-! ### rows made of names -/
theorem Up.sub {s : Str} {rows rows' : List (List Str)} {ss : List Str} {i : Nat} (h : Up s rows rows') (hi : ss[i]? = some s) (k : ∀ r ∈ rows, r.Sublist (ss.take i)) : ∀ r ∈ rows', r.Sublist (ss.take (i + 1)) := fun r' hr => by
  obtain ⟨q, hq⟩ := List.mem_iff_getElem?.mp hr
  obtain ⟨r, h1, h2⟩ := h.2 q r' hq
  have hs := k r (List.mem_of_getElem? h1)
  rw [take_succ hi]
  rcases h2 with e | e
  · rw [e]; exact hs.trans (List.sublist_append_left _ _)
  · rw [e]; exact List.Sublist.append_right hs _
theorem set_sub {rows : List (List Str)} {ss : List Str} {n m : Nat} {r : List Str} (hs : ∀ r ∈ rows, r.Sublist (ss.take n)) (hr : r.Sublist (ss.take n)) : ∀ t ∈ rows.set m r, t.Sublist (ss.take n) := fun t ht => by
  rcases mem_set ht with e | ⟨i, _, e⟩
  · rw [e]; exact hr
  · exact hs t (List.mem_of_getElem? e)
theorem perm_of_sub : ∀ {l a : List Str}, l.Nodup → (∀ k ∈ l, k ∈ a) → a.length ≤ l.length → a.Perm l
  | [], a, _, _, h => by
    have : a = [] := List.eq_nil_of_length_eq_zero (by simpa using h)
    rw [this]
  | x :: t, a, nd, sub, h => by
    rw [List.nodup_cons] at nd
    have hx := sub x (List.mem_cons_self ..)
    have p1 := List.perm_cons_erase hx
    have l1 := List.length_erase_of_mem hx
    rw [List.length_cons] at h
    refine p1.trans ((perm_of_sub nd.2 (fun k hk => ?_) (by omega)).cons x)
    exact (List.mem_erase_of_ne (fun z => nd.1 (by rw [← z]; exact hk))).mpr (sub k (List.mem_cons_of_mem _ hk))
theorem names_nd {ss : List Str} (h : Names ss) : ss.Nodup := (List.pairwise_map.mp h.2).imp fun h e => h (by rw [e])
end Cal


namespace Cal
open PySem PySem.Spec PyProof.Rows L2
abbrev s__law_ring : Stmt := topS 47
abbrev n__law_ring : List Str := ["deck", "many", "sites", "kept", "visits", "some", "site", "clients", "other", "name", "names"]
theorem sc__law_ring : FnScope n__law_ring ["deck", "many", "sites"] (defScope s__law_ring) := ⟨rfl, rfl, rfl, by decide +kernel, rfl, by decide +kernel, by decide +kernel⟩
/-! ### a ring -/
theorem pair_sorted {a b : Int} (h : a ≠ b) {js : List Int} (hp : js.Perm [a, b]) (hs : js.Pairwise (· ≤ ·)) : js.Pairwise (· < ·) ∧ js.length = 2 ∧ ∀ x ∈ js, x = a ∨ x = b := by
  have nd : js.Nodup := hp.nodup_iff.mpr (by simp [h])
  refine ⟨?_, by rw [hp.length_eq]; rfl, fun x hx => by simpa using hp.mem_iff.mp hx⟩
  exact lt_of_le_nodup js hs nd
theorem Up.ne {s : Str} {rows rows' : List (List Str)} (h : Up s rows rows') (k : ∃ r ∈ rows, r ≠ []) : ∃ r ∈ rows', r ≠ [] := by
  obtain ⟨r, hr, hne⟩ := k
  obtain ⟨i, hi⟩ := List.mem_iff_getElem?.mp hr
  have hl : i < rows'.length := by rw [h.1]; exact (List.getElem?_eq_some_iff.mp hi).1
  obtain ⟨r0, e0, e1⟩ := h.2 i rows'[i] (List.getElem?_eq_getElem hl)
  have : r0 = r := Option.some.inj (e0.symm.trans hi)
  subst this
  refine ⟨rows'[i], List.getElem_mem hl, ?_⟩
  rcases e1 with e | e
  · rw [e]; exact hne
  · rw [e]; simp
section
variable {P : Program} {w : World} {K : PySem.W.Frag} {mg : Str → Option Value} {base : Heap} {f : Addr} {fd : FuncData}
abbrev BNring : List Str := ["int", "range", "set", "sorted", "tuple"]
variable (bi : ∀ x, x ∈ BNring → mg x = none)
abbrev sp__law_ring (K : PySem.W.Frag) : Sp := dsp K (fun es => ∃ m s : Int, es = [.int m, .int s] ∧ (3 ≤ s ∧ s ≤ 20) ∧ 0 ≤ m - s ∧ m - s ≤ s - 1) (fun es e => ∃ m s : Int, es = [.int m, .int s] ∧ PlD s (m - s) (s + 2) e ∧ PlN e)
include bi in
theorem ok__law_ring (F : Fun K "_law_ring" "_law_ring" s__law_ring f fd) (c__law_names : C8.Cal P w K mg base 3 "_law_names" (sp__law_names K) []) (c__law_some : C8.Cal P w K mg base 3 "_law_some" (sp__law_some K) []) : FnOk P w K mg base CX0 4 f fd ["deck", "many", "sites"] (sp__law_ring K) := by
  refine F.ok sc__law_ring (fun vs H Q E h => ?_) (fun cdv A outer s H vs Q E hr h => ?_)
  · obtain ⟨dk, l, G, ds, h1, ⟨es, rfl, n, m, rfl, _⟩, _⟩ := h
    exact h1.length
  · have hu := hu_of hr
    obtain ⟨dk, l, G, es, ⟨nm, ns, rfl, ⟨hs1, hs2⟩, hc1, hc2⟩, hlen, a, hq⟩ := dsp_start n__law_ring h
    refine ⟨_, (pss_cons (ps_par3 (i := 3) (j := 4) (l := 5) (by rfl) sc__law_ring.nd rfl rfl rfl (by decide) (by decide) (by decide) rfl rfl rfl (pa_cons (pe_lc (own := [("site", 6)]) (g := gName 6) (tt := tYes) rfl sc__law_ring.nd (pi_range1 (by rfl) (bi "range" (by decide +kernel)) (pa_cons (pv 2) pa_nil)) (blkOk_by (N := n__law_ring) (sc := defScope s__law_ring) (by decide +kernel)) (fun _ _ _ _ _ => (pg_name (i := 6) sc__law_ring.nd rfl (by first | exact (.inl rfl) | exact (.inr rfl)))) (fun _ _ _ _ _ => pts_nil) (fun _ _ _ _ _ => (pe_lst pa_nil))) (pa_cons (pe_lst pa_nil) (pa_cons (C8.pe_c c__law_names hr (by first | decide | omega) (by rfl) (pa_cons (pv 0) (pa_cons (pe_op (r := rAddU K) u_add (pv 2) pe_int) pa_nil))) pa_nil))) (by rfl))
      (pss_cons (ps_asg (pe_op op_sub (pv 1) (pv 2)) (pg_name (i := 7) sc__law_ring.nd rfl (by first | exact (.inl rfl) | exact (.inr rfl))))
      (pss_cons (ps_for PassesOwn.never rfl (pi_range1 (by rfl) (bi "range" (by decide +kernel)) (pa_cons (pv 2) pa_nil)) (pg_name (i := 6) sc__law_ring.nd rfl (by first | exact (.inl rfl) | exact (.inr rfl)))
        (pss_cons (ps_asg (pe_op op_mod (pe_callTy (T := "int") call_int1 (by rfl) (bi "int" (by decide +kernel)) (by decide +kernel) (pa_cons (pe_op (r := rAddU K) u_add (pv 6) pe_int) pa_nil)) (pv 2)) (pg_name (i := 8) sc__law_ring.nd rfl (by first | exact (.inl rfl) | exact (.inr rfl))))
      (pss_one (ps_if (PW.pt (pw_and (pt_cmpR op_gt (pv 7) pe_int (nomark _)) (pw_and1 (pt_cmpR op_gt (pv 2) pe_int (nomark _))))) (pss_cons (ps_expr (pe_bm PySem.F.plainAttrs_list PySem.F.slot_list_append PySem.F.type_list_append mt_append (pv 4) (pa_cons (pe_callTy (T := "tuple") (r := rTupOf K) u_tuple (by rfl) (bi "tuple" (by decide +kernel)) (by decide +kernel) (pa_cons (pe_callB (id := "sorted") (r := rSortU2 K) u_sorted (by rfl) (bi "sorted" (by decide +kernel)) (by decide +kernel) (pa_cons (pe_lst (pa_cons (pv 6) (pa_cons (pv 8) pa_nil))) pa_nil)) pa_nil)) pa_nil)))
      (pss_one (ps_asg (pe_op op_sub (pv 7) pe_int) (pg_name (i := 7) sc__law_ring.nd rfl (by first | exact (.inl rfl) | exact (.inr rfl)))))) (pss_cons (ps_expr (pe_bm PySem.F.plainAttrs_list PySem.F.slot_list_append PySem.F.type_list_append mt_append (pe_ix (r := rIx K) ix_seq (pv 3) (pv 6) (fun _ _ => rfl)) (pa_cons (pe_ix (r := rIx K) ix_seq (pv 5) (pv 6) (fun _ _ => rfl)) pa_nil)))
      (pss_one (ps_expr (pe_bm PySem.F.plainAttrs_list PySem.F.slot_list_append PySem.F.type_list_append mt_append (pe_ix (r := rIx K) ix_seq (pv 3) (pv 8) (fun _ _ => rfl)) (pa_cons (pe_ix (r := rIx K) ix_seq (pv 5) (pv 6) (fun _ _ => rfl)) pa_nil)))))))))
      (pss_cons (ps_for PassesOwn.never rfl (pi_list (pe_slice (r := rSlU K) u_sl (pv 5) (po_some (pv 2)) po_none)) (pg_name (i := 9) sc__law_ring.nd rfl (by first | exact (.inl rfl) | exact (.inr rfl)))
        (pss_one (ps_for PassesOwn.never rfl (pi_tup (C8.pe_c c__law_some hr (by first | decide | omega) (by rfl) (pa_cons (pv 0) (pa_cons (pv 2) (pa_cons pe_int pa_nil))))) (pg_name (i := 6) sc__law_ring.nd rfl (by first | exact (.inl rfl) | exact (.inr rfl)))
        (pss_one (ps_expr (pe_bm PySem.F.plainAttrs_list PySem.F.slot_list_append PySem.F.type_list_append mt_append (pe_ix (r := rIx K) ix_seq (pv 3) (pv 6) (fun _ _ => rfl)) (pa_cons (pv 9) pa_nil)))))))
      (pss_one (ps_ret (pe_tup (pa_cons (pe_callTy (T := "tuple") (r := rTupOf K) u_tuple (by rfl) (bi "tuple" (by decide +kernel)) (by decide +kernel) (pa_cons (pe_lc (own := [("names", 10)]) (g := gName 10) (tt := tYes) rfl sc__law_ring.nd (pi_list (pv 3)) (blkOk_by (N := n__law_ring) (sc := defScope s__law_ring) (by decide +kernel)) (fun _ _ _ _ _ => (pg_name (i := 10) sc__law_ring.nd rfl (by first | exact (.inl rfl) | exact (.inr rfl)))) (fun _ _ _ _ _ => pts_nil) (fun _ _ _ _ _ => (pe_callTy (T := "tuple") (r := rTupOf K) u_tuple (by rfl) (bi "tuple" (by decide +kernel)) (by decide +kernel) (pa_cons (pe_callB (id := "sorted") (r := rSortedTx P w) (cr_sortedTx rfl) (by rfl) (bi "sorted" (by decide +kernel)) (by decide +kernel) (pa_cons (pe_callTy (T := "set") (r := rSetS K P w) (cr_setS rfl) (by rfl) (bi "set" (by decide +kernel)) (by decide +kernel) (pa_cons (pv 10) pa_nil)) pa_nil)) pa_nil)))) pa_nil)) (pa_cons (pe_callTy (T := "tuple") (r := rTupOf K) u_tuple (by rfl) (bi "tuple" (by decide +kernel)) (by decide +kernel) (pa_cons (pv 4) pa_nil)) pa_nil))))))))), ?_⟩
    -- kept, visits, some
    refine y_par3 (R1 := fun d μ' => ∃ (p : Addr) (ls : List Addr), ls.length = ns.toNat ∧ d = rr p ∧ μ' = (p, .lst (ls.map rr)) :: (rowsMu ls (ls.map fun _ => []) ++ [])) (R2 := fun _ μ1 d μ' => ∃ p, d = .raw (.ref p) ∧ μ' = (p, .lst []) :: μ1) (R3 := fun _ μ2 d μ' => (∃ ss : List Str, d = .lst (rowD ss) ∧ (ss.length : Int) = ns + 2 ∧ Names ss) ∧ μ' = μ2)
      a (xl_rows (ead_cons (ed_var rfl) ea_nil) ⟨by omega, by omega⟩ (by decide)) (fun d1 μ1 _ => xl_nil) (fun d1 μ1 d2 μ2 _ _ => ed_d rfl (ead_cons (ed_op (ed_var rfl) ed_int rd_addI) ea_nil) ⟨_, rfl, by omega, by omega⟩ (by rintro e ⟨n, ss, e1, e2, e3, e4⟩; cases e1; exact ⟨ss, e2, e3, e4⟩)) fun d1 μ1 d2 μ2 d3 μ3 σ1 H1 hh1 hh2 hh3 a1 => ?_
    obtain ⟨pk, ls, hls, rfl, rfl⟩ := hh1
    obtain ⟨pv, rfl, rfl⟩ := hh2
    obtain ⟨⟨ss, rfl, hss, hnm⟩, rfl⟩ := hh3
    -- clients
    refine y_set (d := .int (nm - ns)) a1 (ed_op (ed_var rfl) (ed_var rfl) rd_sub) fun σ2 H2 a2 => ?_
    have szr : ∀ {n : Nat} {rows : List (List Str)} {k : Nat}, (∀ r ∈ rows, r.Sublist (ss.take n)) → (rows.getD k []).length ≤ 30 := fun {n rows k} h => by
      by_cases hk : k < rows.length
      · have := (h _ (show rows.getD k [] ∈ rows by rw [List.getD_eq_getElem?_getD, List.getElem?_eq_getElem hk]; exact List.getElem_mem hk)).length_le
        have := List.length_take_le' n ss
        omega
      · rw [List.getD_eq_getElem?_getD, List.getElem?_eq_none (by omega)]; exact Nat.zero_le _
    -- for site in range(sites)
    refine y_forN a2 (ei_rng1 (ead_cons (ed_var rfl) ea_nil) ⟨by omega, by omega⟩) (fun i ρ μ => ∃ (rows : List (List Str)) (vis : List (List Int)) (x6 x8 : Option D), ρ = [some (.raw (.ref dk)), some (.int nm), some (.int ns), some (rr pk), some (rr pv), some (.lst (rowD ss)), x6, some (.int (nm - ns - vis.length)), x8, none, none] ∧
      μ = (pv, .lst (vis.map fun v => .tup (v.map .int))) :: (pk, .lst (ls.map rr)) :: (rowsMu ls (rows.map rowD) ++ []) ∧ rows.length = ns.toNat ∧ (vis.length < i → ∃ r ∈ rows, r ≠ []) ∧ (∀ r ∈ rows, r.Sublist (ss.take i)) ∧ ((vis.length : Int) = min (i : Int) (nm - ns)) ∧ ∀ v ∈ vis, v.Pairwise (· < ·) ∧ (∀ x ∈ v, 0 ≤ x ∧ x < ns) ∧ v.length = 2)
      ⟨ls.map fun _ => [], [], none, none, by simp [rr], by rw [List.map_map]; rfl, by rw [List.length_map, hls], (fun z => absurd z (Nat.not_lt_zero _)), (fun r hr => by
        obtain ⟨_, _, e⟩ := List.mem_map.mp hr
        rw [← e]; exact List.nil_sublist _), by show ((0 : Nat) : Int) = min ((0 : Nat) : Int) (nm - ns); omega, fun v hv => by cases hv⟩ (fun i ρ' μ' τ1 σ3 H3 Dn hi hI a3 hnx hct hbk hrt => ?_) fun ρ' μ' σ3 H3 hI a3 => ?_
    · obtain ⟨rows, vis, x6, x8, rfl, rfl, hrl, hne, hsub, hvl, hvs⟩ := hI
      have hi' : i < ns.toNat := hi
      refine y_set (d := .int (((i : Int) + 1) % ns)) a3 (ed_op (ed_cb (ead_cons (ed_op (ed_var rfl) ed_int rd_addI) ea_nil) rc_intI) (ed_var rfl) (rd_mod (by omega))) fun σ4 H4 a4 => ?_
      have o1 := Int.emod_nonneg ((i : Int) + 1) (show ns ≠ 0 by omega)
      have o2 := Int.emod_lt_of_pos ((i : Int) + 1) (show 0 < ns by omega)
      have one : ((i : Int) + 1) % ns ≠ i := fun e => by
        by_cases h : (i : Int) + 1 = ns
        · rw [h, Int.emod_self] at e; omega
        · rw [Int.emod_eq_of_lt (by omega) (by omega)] at e; omega
      refine x_ifb a4 (eb_and (eb_test (ed_op (ed_var rfl) ed_int rd_gt)) fun _ => eb_test (ed_op (ed_var rfl) ed_int rd_gt)) (fun hb H5 a5 => ?_) fun hb H5 a5 => ?_
      · rw [Bool.and_eq_true] at hb
        have hb1 := of_decide_eq_true hb.1
        refine y_append (k := 0) (ds := vis.map fun v => .tup (v.map .int)) (R := fun d μ' => (∃ v : List Int, d = .tup (v.map .int) ∧ v.Pairwise (· < ·) ∧ v.length = 2 ∧ ∀ x ∈ v, x = (i : Int) ∨ x = ((i : Int) + 1) % ns) ∧ μ' = (pv, .lst (vis.map fun v => .tup (v.map .int))) :: (pk, .lst (ls.map rr)) :: (rowsMu ls (rows.map rowD) ++ [])) a5 (ho_of (ed_var rfl)) rfl
          (ev_cb (ea1P (ev_cb (P := fun d => ∃ v : List Int, d = .lst (v.map .int) ∧ v.Pairwise (· < ·) ∧ v.length = 2 ∧ ∀ x ∈ v, x = (i : Int) ∨ x = ((i : Int) + 1) % ns) (ead_cons (d := .lst ([(i : Int), ((i : Int) + 1) % ns].map .int)) (ed_lst (ead_cons (ed_var rfl) (ead_cons (ed_var rfl) ea_nil)) (by show 2 ≤ _; decide)) ea_nil) fun ds e => by
            subst e
            exact rc_sortI (by show 2 < 64; decide) fun js h1 h2 => ⟨js, rfl, pair_sorted (fun z => one z.symm) h1 h2⟩)) fun ds hds => by
              obtain ⟨d, rfl, v, rfl, hv⟩ := hds
              exact rc_tupL.imp fun d hd => ⟨v, hd, hv⟩) (fun d μ' ⟨_, e⟩ => by rw [e]; rfl) (by rw [List.length_map]; omega) fun d μ' H6 ⟨⟨v, e1, v1, v2, v3⟩, e2⟩ a6 => ?_
        subst e1; subst e2
        refine x_set (d := .int (nm - ns - vis.length - 1)) a6 (ed_op (ed_var rfl) ed_int rd_sub) fun σ7 H7 a7 => ?_
        refine hnx _ _ _ _ ⟨rows, vis ++ [v], some (.int i), some (.int (((i : Int) + 1) % ns)), ?_, ?_, hrl, (fun z => hne (by rw [List.length_append, List.length_singleton] at z; omega)), fun r hr => (hsub r hr).trans (List.take_sublist_take_left (by omega)), ?_, fun u hu => ?_⟩ a7
        · simp only [List.set_cons_zero, List.set_cons_succ, List.length_append, List.length_singleton]
          rw [show nm - ns - ((vis.length + 1 : Nat) : Int) = nm - ns - vis.length - 1 by omega]
        · rw [List.map_append]; rfl
        · rw [List.length_append, List.length_singleton]; omega
        · rcases List.mem_append.mp hu with z | z
          · exact hvs u z
          · rw [List.mem_singleton.mp z]
            refine ⟨v1, fun x hx => ?_, v2⟩
            rcases v3 x hx with e | e <;> rw [e] <;> constructor <;> omega
      · have hb1 : ¬ (nm - ns - vis.length > 0) := fun z => by
          rw [decide_eq_true z, decide_eq_true (show ns > 1 by omega)] at hb; cases hb
        have li : i < ss.length := by omega
        have ei : ss[i]? = some (ss.getD i "") := by rw [List.getD_eq_getElem?_getD, List.getElem?_eq_getElem li]; rfl
        have a6 := At.perm (μ' := (pk, .lst (ls.map rr)) :: (rowsMu ls (rows.map rowD) ++ [(pv, .lst (vis.map fun v => .tup (v.map .int)))])) a5 (by
          rw [List.append_nil]
          exact (List.Perm.cons _ (List.perm_append_singleton _ _)).trans (List.Perm.swap _ _ _))
        have ex : ∀ {μ : Mu}, Ed (Bd K dk l 64 G H) (tOp (rIx K) (tVar 5) (tVar 6)) (([some (.raw (.ref dk)), some (.int nm), some (.int ns), some (rr pk), some (rr pv), some (.lst (rowD ss)), x6, some (.int (nm - ns - vis.length)), x8, none, none].set 6 (some (.int i))).set 8 (some (.int (((i : Int) + 1) % ns)))) μ (.str (ss.getD i "")) := ed_op (ed_var rfl) (ed_var rfl) (rd_ixL (atI_of (by omega) (by rw [List.getElem?_map, show ((i : Int)).toNat = i by omega, ei]; rfl)))
        refine y_rowApp (x := i) a6 (by rw [hls, hrl]) rfl (ed_var rfl) (by omega) (by omega) ex (Nat.lt_of_le_of_lt (szr hsub) (by decide)) fun H7 a7 => ?_
        have e0 : ((i : Int)).toNat = i := by omega
        have eother : (rows.set ((i : Int)).toNat (rows.getD ((i : Int)).toNat [] ++ [ss.getD i ""])).getD (((i : Int) + 1) % ns).toNat [] = rows.getD (((i : Int) + 1) % ns).toNat [] := by
          rw [List.getD_eq_getElem?_getD, List.getElem?_set_ne (by omega), ← List.getD_eq_getElem?_getD]
        refine x_rowApp (x := ((i : Int) + 1) % ns) a7 (by rw [List.length_set, hls, hrl]) rfl (ed_var rfl) o1 (by rw [List.length_set]; omega) ex (by rw [eother]; exact Nat.lt_of_le_of_lt (szr hsub) (by decide)) fun H8 a8 => ?_
        have a9 := At.perm (μ' := (pv, .lst (vis.map fun v => .tup (v.map .int))) :: (pk, .lst (ls.map rr)) :: (rowsMu ls (((rows.set ((i : Int)).toNat (rows.getD ((i : Int)).toNat [] ++ [ss.getD i ""])).set (((i : Int) + 1) % ns).toNat ((rows.set ((i : Int)).toNat (rows.getD ((i : Int)).toNat [] ++ [ss.getD i ""])).getD (((i : Int) + 1) % ns).toNat [] ++ [ss.getD i ""])).map rowD) ++ [])) a8 (by
          rw [List.append_nil]
          exact (List.Perm.swap _ _ _).trans (List.Perm.cons _ (List.perm_append_singleton _ _).symm))
        refine hnx _ _ _ _ ⟨_, vis, some (.int i), some (.int (((i : Int) + 1) % ns)), rfl, rfl, by rw [List.length_set, List.length_set]; exact hrl, (fun _ => ⟨_, List.mem_iff_getElem?.mpr ⟨(((i : Int) + 1) % ns).toNat, List.getElem?_set_self (by rw [List.length_set]; omega)⟩, by simp⟩), ?_, by omega, hvs⟩ a9
        have row : ∀ k, ((rows.getD k [] ++ [ss.getD i ""]) : List Str).Sublist (ss.take (i + 1)) := fun k => by
          rw [take_succ ei]
          refine List.Sublist.append_right ?_ _
          by_cases hk : k < rows.length
          · exact hsub _ (show rows.getD k [] ∈ rows by rw [List.getD_eq_getElem?_getD, List.getElem?_eq_getElem hk]; exact List.getElem_mem hk)
          · rw [List.getD_eq_getElem?_getD, List.getElem?_eq_none (by omega)]; exact List.nil_sublist _
        refine set_sub (set_sub (fun r hr => (hsub r hr).trans (List.take_sublist_take_left (by omega))) (row _)) ?_
        rw [eother]; exact row _
    · obtain ⟨rows, vis, x6, x8, rfl, rfl, hrl, hne, hsub, hvl, hvs⟩ := hI
      have hvl2 : (vis.length : Int) = nm - ns := by omega
      -- for name in some[sites:]
      have a4 := At.perm (μ' := (pk, .lst (ls.map rr)) :: (rowsMu ls (rows.map rowD) ++ [(pv, .lst (vis.map fun v => .tup (v.map .int)))])) a3 (by
        rw [List.append_nil]
        exact (List.Perm.cons _ (List.perm_append_singleton _ _)).trans (List.Perm.swap _ _ _))
      refine y_forN (n := ((rowD ss).drop ns.toNat).length) (f := fun i => ((rowD ss).drop ns.toNat).getD i .non) a4 (ei_lst (Ed.is (ed_slL (ed_var rfl) (eo_some (ed_var rfl)) eo_none) (by rw [cutD_drop _ (by omega)]))) (fun i ρ μ => ∃ (rows : List (List Str)) (x6 x9 : Option D), ρ = [some (.raw (.ref dk)), some (.int nm), some (.int ns), some (rr pk), some (rr pv), some (.lst (rowD ss)), x6, some (.int (nm - ns - vis.length)), x8, x9, none] ∧
        μ = (pk, .lst (ls.map rr)) :: (rowsMu ls (rows.map rowD) ++ [(pv, .lst (vis.map fun v => .tup (v.map .int)))]) ∧ rows.length = ns.toNat ∧ (∃ r ∈ rows, r ≠ []) ∧ ∀ r ∈ rows, r.Sublist (ss.take (ns.toNat + i))) ⟨rows, _, none, rfl, rfl, hrl, hne (by omega), hsub⟩ (fun i ρ' μ' τ1 σ5 H5 Dn hi hI a5 hnx hct hbk hrt => ?_) fun ρ' μ' σ5 H5 hI a5 => ?_
      · obtain ⟨rows, x6, x9, rfl, rfl, hrl, hne, hsub⟩ := hI
        rw [List.length_drop, List.length_map] at hi
        have li : ns.toNat + i < ss.length := by omega
        have ei : ss[ns.toNat + i]? = some (ss.getD (ns.toNat + i) "") := by rw [List.getD_eq_getElem?_getD, List.getElem?_eq_getElem li]; rfl
        have en : ((rowD ss).drop ns.toNat).getD i .non = .str (ss.getD (ns.toNat + i) "") := by
          rw [List.getD_eq_getElem?_getD, List.getElem?_drop, List.getElem?_map, ei]; rfl
        rw [en] at a5
        refine x_rowsSome (ja := 3) (jn := 9) (ks := 6) (n := 30) (by decide) (by decide) (by show 6 < 11; decide) a5 (by rw [hls, hrl]) rfl rfl (ed_d rfl (ead_cons (ed_var rfl) (ead_cons ed_int ea_nil)) ⟨_, _, rfl, by omega, by omega⟩ (by
          rintro e ⟨m, n, is, e1, e2, e3, e4, e5⟩
          cases e1
          exact ⟨is, e2, e3, fun x hx => ⟨(e4 x hx).1, by have := (e4 x hx).2; omega⟩⟩)) (fun r hr => by
            have := (hsub r hr).length_le
            have := List.length_take_le' (ns.toNat + i) ss
            omega) (by decide) fun rows' y σ6 H6 hup a6 => hnx _ _ _ _ ⟨rows', _, _, rfl, rfl, by rw [hup.1]; exact hrl, hup.ne hne, by rw [← Nat.add_assoc]; exact hup.sub ei hsub⟩ a6
      · obtain ⟨rows, x6, x9, rfl, rfl, hrl, hne, hsub⟩ := hI
        have a6 := At.reslot (k := 3) (freezeAll (by rw [List.length_map, hls, hrl]) a5) rfl
        have a7 := At.reslot (k := 4) (At.freeze a6) rfl
        refine x_ret a7 (ev_tup (P := fun d => PlD ns (nm - ns) (ns + 2) d ∧ PlN d) (Ps := fun ds => ∃ kept : List (List Str), ds = [.tup (kept.map fun k => .tup (k.map .str)), .tup (vis.map fun v => .tup (v.map .int))] ∧ (kept.length : Int) = ns ∧ Kp kept (ns + 2) True) (ea_cons (P := fun d => ∃ kept : List (List Str), d = .tup (kept.map fun k => .tup (k.map .str)) ∧ (kept.length : Int) = ns ∧ Kp kept (ns + 2) True) ?_ fun d ⟨kept, e1, e2, e3⟩ => (ead_cons (ed_tupL (ed_var rfl)) ea_nil).imp fun ds e => ⟨kept, by rw [e, e1], e2, e3⟩) fun ds ⟨kept, e1, e2, e3⟩ => ⟨by rw [e1]; show 2 ≤ sizeLine; decide, ⟨kept, vis, by rw [e1], e2, hvl2, e3.1, fun v hv => ⟨(hvs v hv).1, (hvs v hv).2.1, by have := (hvs v hv).2.2; omega, by have := (hvs v hv).2.2; omega⟩⟩, kept, .tup (vis.map fun v => .tup (v.map .int)), by rw [e1], e3.2 True.intro⟩) fun v H5 d hd a5 => hq ⟨nm, ns, rfl, hd⟩ a5
        refine ev_cb (ea1P (ev_lc0 (P := fun d => ∃ kept : List (List Str), d = .lst (kept.map fun k => .tup (k.map .str)) ∧ (kept.length : Int) = ns ∧ Kp kept (ns + 2) True) (ei_lst (ds := rows.map fun r => .lst (rowD r)) (Ed.is (ed_var rfl) (by rw [List.map_map]; rfl))) (by decide) (by rw [List.length_map]; omega) (fun i d => ∃ k : List Str, d = .tup (k.map .str) ∧ (sortedS k = true ∧ Names k ∧ (k.length : Int) ≤ ns + 2) ∧ (rows.getD i [] ≠ [] → k ≠ [])) (fun i hi cl => ?_) fun ds hl hd => ?_)) fun ds hds => ?_
        · have hi' : i < rows.length := by simpa using hi
          have er : rows[i]? = some rows[i] := List.getElem?_eq_getElem hi'
          have hsb := hsub _ (List.mem_of_getElem? er)
          have hN : Names rows[i] := (hnm.sub (List.take_sublist _ _)).sub hsb
          have hle : (rows[i].length : Int) ≤ ns + 2 := by
            have := hsb.length_le
            have := List.length_take_le' (ns.toNat + ((rowD ss).drop ns.toNat).length) ss
            omega
          refine ev_cb (ea1P (Ev.imp (ev_sortSet (ks := rows[i]) (Ed.is (ed_var rfl) ?_) (names_nd hN) (by omega)) fun d hd => hd)) fun ds hds => ?_
          · rw [List.getD_eq_getElem?_getD, List.getElem?_map, er]; rfl
          · obtain ⟨d, rfl, js, rfl, h1, h2, h3⟩ := hds
            have pm : js.Perm rows[i] := perm_of_sub (names_nd hN) (fun k hk => (h2 k).mpr hk) (by omega)
            exact rc_tupL.imp fun d hd => ⟨js, hd, ⟨h1, hN.perm pm, by rw [h3]; exact hle⟩, fun z => by
              rw [List.getD_eq_getElem?_getD, er] at z
              exact fun y => z (by rw [y] at pm; exact List.nil_perm.mp pm)⟩
        · obtain ⟨as, e1, e2, e3⟩ := ge_allI (f := fun v : List Str => D.tup (v.map .str)) hl hd
          rw [List.length_map] at e2
          exact ⟨as, by rw [e1], by omega, kp_of (rows := rows) e2 e3 fun _ => hne⟩
        · obtain ⟨d, rfl, kept, rfl, h1, h2⟩ := hds
          exact rc_tupL.imp fun d hd => ⟨kept, hd, h1, h2⟩
end
end Cal


namespace Cal
open PySem PySem.Spec PyProof.Rows L2
abbrev s__law_tree : Stmt := topS 48
abbrev n__law_tree : List Str := ["deck", "sites", "kept", "some", "site", "other", "names"]
theorem sc__law_tree : FnScope n__law_tree ["deck", "sites"] (defScope s__law_tree) := ⟨rfl, rfl, rfl, by decide +kernel, rfl, by decide +kernel, by decide +kernel⟩
/-! ### a tree -/
theorem take_drop1 {ss : List Str} {i : Nat} {s : Str} (h : ss[i + 1]? = some s) : (ss.take (i + 1 + 1)).drop 1 = (ss.take (i + 1)).drop 1 ++ [s] := by
  rw [take_succ h, List.drop_append_of_le_length]
  rw [List.length_take]
  have := (List.getElem?_eq_some_iff.mp h).1
  omega
section
variable {P : Program} {w : World} {K : PySem.W.Frag} {mg : Str → Option Value} {base : Heap} {f : Addr} {fd : FuncData}
abbrev BNtree : List Str := ["range", "sorted", "tuple"]
variable (bi : ∀ x, x ∈ BNtree → mg x = none)
abbrev sp__law_tree (K : PySem.W.Frag) : Sp := dsp K (fun es => ∃ s : Int, es = [.int s] ∧ 2 ≤ s ∧ s ≤ 20) (fun es e => ∃ s : Int, es = [.int s] ∧ ∃ kept : List (List Str), e = .tup (kept.map fun k => .tup (k.map .str)) ∧ (kept.length : Int) = s ∧ Kp kept s True)
include bi in
theorem ok__law_tree (F : Fun K "_law_tree" "_law_tree" s__law_tree f fd) (c__law_draw : C8.Cal P w K mg base 1 "_law_draw" (sp__law_draw K) []) (c__law_pick : C8.Cal P w K mg base 2 "_law_pick" (sp__law_pick K) []) (c__law_names : C8.Cal P w K mg base 3 "_law_names" (sp__law_names K) []) : FnOk P w K mg base CX0 4 f fd ["deck", "sites"] (sp__law_tree K) := by
  refine F.ok sc__law_tree (fun vs H Q E h => ?_) (fun cdv A outer s H vs Q E hr h => ?_)
  · obtain ⟨dk, l, G, ds, h1, ⟨es, rfl, n, rfl, _⟩, _⟩ := h
    exact h1.length
  · have hu := hu_of hr
    obtain ⟨dk, l, G, es, ⟨ns, rfl, hs1, hs2⟩, hlen, a, hq⟩ := dsp_start n__law_tree h
    refine ⟨_, (pss_cons (ps_par (i := 2) (j := 3) (by rfl) sc__law_tree.nd rfl rfl (by decide) rfl rfl (pa_cons (pe_lc (own := [("site", 4)]) (g := gName 4) (tt := tYes) rfl sc__law_tree.nd (pi_range1 (by rfl) (bi "range" (by decide +kernel)) (pa_cons (pv 1) pa_nil)) (blkOk_by (N := n__law_tree) (sc := defScope s__law_tree) (by decide +kernel)) (fun _ _ _ _ _ => (pg_name (i := 4) sc__law_tree.nd rfl (by first | exact (.inl rfl) | exact (.inr rfl)))) (fun _ _ _ _ _ => pts_nil) (fun _ _ _ _ _ => (pe_lst pa_nil))) (pa_cons (C8.pe_c c__law_names hr (by first | decide | omega) (by rfl) (pa_cons (pv 0) (pa_cons (pv 1) pa_nil))) pa_nil)) (by rfl))
      (pss_cons (ps_for PassesOwn.never rfl (pi_range2 (by rfl) (bi "range" (by decide +kernel)) (pa_cons pe_int (pa_cons (pv 1) pa_nil))) (pg_name (i := 4) sc__law_tree.nd rfl (by first | exact (.inl rfl) | exact (.inr rfl)))
        (pss_one (ps_if (pt_cmpR op_gt (C8.pe_c c__law_draw hr (by first | decide | omega) (by rfl) (pa_cons (pv 0) (pa_cons pe_int pa_nil))) pe_int (nomark _)) (pss_cons (ps_asg (C8.pe_c c__law_pick hr (by first | decide | omega) (by rfl) (pa_cons (pv 0) (pa_cons (pe_lst (pa_cons (pe_op op_sub (pv 4) pe_int) (pa_cons (C8.pe_c c__law_draw hr (by first | decide | omega) (by rfl) (pa_cons (pv 0) (pa_cons (pv 4) pa_nil))) (pa_cons pe_int pa_nil)))) pa_nil))) (pg_name (i := 5) sc__law_tree.nd rfl (by first | exact (.inl rfl) | exact (.inr rfl))))
      (pss_cons (ps_expr (pe_bm PySem.F.plainAttrs_list PySem.F.slot_list_append PySem.F.type_list_append mt_append (pe_ix (r := rIx K) ix_seq (pv 2) (pv 4) (fun _ _ => rfl)) (pa_cons (pe_ix (r := rIx K) ix_seq (pv 3) (pv 4) (fun _ _ => rfl)) pa_nil)))
      (pss_one (ps_expr (pe_bm PySem.F.plainAttrs_list PySem.F.slot_list_append PySem.F.type_list_append mt_append (pe_ix (r := rIx K) ix_seq (pv 2) (pv 5) (fun _ _ => rfl)) (pa_cons (pe_ix (r := rIx K) ix_seq (pv 3) (pv 4) (fun _ _ => rfl)) pa_nil)))))) pss_nil)))
      (pss_cons (ps_expr (pe_bm PySem.F.plainAttrs_list PySem.F.slot_list_append PySem.F.type_list_append mt_append (pe_ix (r := rIx K) ix_seq (pv 2) pe_int (fun _ _ => rfl)) (pa_cons (pe_ix (r := rIx K) ix_seq (pv 3) pe_int (fun _ _ => rfl)) pa_nil)))
      (pss_one (ps_ret (pe_callTy (T := "tuple") (r := rTupOf K) u_tuple (by rfl) (bi "tuple" (by decide +kernel)) (by decide +kernel) (pa_cons (pe_lc (own := [("names", 6)]) (g := gName 6) (tt := tYes) rfl sc__law_tree.nd (pi_list (pv 2)) (blkOk_by (N := n__law_tree) (sc := defScope s__law_tree) (by decide +kernel)) (fun _ _ _ _ _ => (pg_name (i := 6) sc__law_tree.nd rfl (by first | exact (.inl rfl) | exact (.inr rfl)))) (fun _ _ _ _ _ => pts_nil) (fun _ _ _ _ _ => (pe_callTy (T := "tuple") (r := rTupOf K) u_tuple (by rfl) (bi "tuple" (by decide +kernel)) (by decide +kernel) (pa_cons (pe_callB (id := "sorted") (r := rSortU2 K) u_sorted (by rfl) (bi "sorted" (by decide +kernel)) (by decide +kernel) (pa_cons (pv 6) pa_nil)) pa_nil)))) pa_nil))))))), ?_⟩
    refine y_par2 (R := fun d μ' => ∃ (p : Addr) (ls : List Addr), ls.length = ns.toNat ∧ d = rr p ∧ μ' = (p, .lst (ls.map rr)) :: (rowsMu ls (ls.map fun _ => []) ++ [])) (R2' := fun _ μ1 d μ' => (∃ ss : List Str, d = .lst (rowD ss) ∧ (ss.length : Int) = ns ∧ Names ss) ∧ μ' = μ1) a (xl_rows (ead_cons (ed_var rfl) ea_nil) ⟨by omega, by omega⟩ (by decide)) (fun d1 μ1 _ => ed_d rfl (ead_cons (ed_var rfl) ea_nil) ⟨_, rfl, by omega, by omega⟩ (by rintro e ⟨n, ss, e1, e2, e3, e4⟩; cases e1; exact ⟨ss, e2, e3, e4⟩)) fun d1 μ1 d2 μ2 σ1 H1 hh1 hh2 a1 => ?_
    obtain ⟨pk, ls, hls, rfl, rfl⟩ := hh1
    obtain ⟨⟨ss, rfl, hss, hnm⟩, rfl⟩ := hh2
    have szr : ∀ {n : Nat} {rows : List (List Str)} {k : Nat}, (∀ r ∈ rows, r.Sublist ((ss.take n).drop 1)) → (rows.getD k []).length ≤ 30 := fun {n rows k} h => by
      by_cases hk : k < rows.length
      · have := (h _ (show rows.getD k [] ∈ rows by rw [List.getD_eq_getElem?_getD, List.getElem?_eq_getElem hk]; exact List.getElem_mem hk)).length_le
        rw [List.length_drop] at this
        have := List.length_take_le' n ss
        omega
      · rw [List.getD_eq_getElem?_getD, List.getElem?_eq_none (by omega)]; exact Nat.zero_le _
    -- for site in range(1, sites)
    refine y_forN a1 (ei_rng2 (ead_cons ed_int (ead_cons (ed_var rfl) ea_nil)) ⟨by decide, by decide, by omega, by omega⟩) (fun i ρ μ => ∃ (rows : List (List Str)) (x4 x5 : Option D), ρ = [some (.raw (.ref dk)), some (.int ns), some (rr pk), some (.lst (rowD ss)), x4, x5, none] ∧
      μ = (pk, .lst (ls.map rr)) :: (rowsMu ls (rows.map rowD) ++ []) ∧ rows.length = ns.toNat ∧ ∀ r ∈ rows, r.Sublist ((ss.take (i + 1)).drop 1))
      ⟨ls.map fun _ => [], none, none, rfl, by rw [List.map_map]; rfl, by rw [List.length_map, hls], fun r hr => by
        obtain ⟨_, _, e⟩ := List.mem_map.mp hr
        rw [← e]; exact List.nil_sublist _⟩ (fun i ρ' μ' τ1 σ3 H3 Dn hi hI a3 hnx hct hbk hrt => ?_) fun ρ' μ' σ3 H3 hI a3 => ?_
    · obtain ⟨rows, x4, x5, rfl, rfl, hrl, hsub⟩ := hI
      have li : i + 1 < ss.length := by omega
      have ei : ss[i + 1]? = some (ss.getD (i + 1) "") := by rw [List.getD_eq_getElem?_getD, List.getElem?_eq_getElem li]; rfl
      have e1 : (1 : Int) + (i : Int) = ((i + 1 : Nat) : Int) := by omega
      rw [e1] at a3
      have up : ∀ {t : List Str}, t.Sublist ((ss.take (i + 1)).drop 1) → t.Sublist ((ss.take (i + 1 + 1)).drop 1) := fun h => by
        rw [take_drop1 ei]; exact h.trans (List.sublist_append_left _ _)
      refine x_if (Pb := fun _ => True) a3 (et_test (P := fun d => ∃ b, d = .bl b) (ev_op (P1 := fun d => ∃ r : Int, d = .int r) (P2 := fun d => d = .int 0) (ed_d rfl (ead_cons ed_int ea_nil) ⟨_, rfl, by decide, by decide⟩ (by rintro e ⟨n, r, _, rfl, _⟩; exact ⟨r, rfl⟩)) ed_int fun d1 d2 ⟨r, h1⟩ h2 => by
        subst h1; subst h2
        exact rd_gt.imp fun d hd => ⟨_, hd⟩) fun d ⟨b, e⟩ => ⟨b, e, True.intro⟩) (fun _ H4 a4 => ?_) fun _ H4 a4 => x_next ?_
      · refine y_setV (P := fun d => ∃ o : Int, d = .int o ∧ 0 ≤ o ∧ o ≤ i) a4 (ev_d (Ps := fun es => ∃ r : Int, es = [.lst [.int i, .int r, .int 0]] ∧ 0 ≤ r ∧ r ≤ i) (ea_deck rfl ((ea1P (ev_lst (P := fun d => ∃ r : Int, d = .lst [.int i, .int r, .int 0] ∧ 0 ≤ r ∧ r ≤ i) (Ps := fun ds => ∃ r : Int, ds = [.int i, .int r, .int 0] ∧ 0 ≤ r ∧ r ≤ i)
          (ea_cons (P := fun d => d = .int i) (Ed.is (ed_op (ed_var rfl) ed_int rd_sub) (by rw [show ((i + 1 : Nat) : Int) - 1 = i by omega])) fun d1 h1 => (ea_cons (P := fun d => ∃ r : Int, d = .int r ∧ 0 ≤ r ∧ r ≤ i) (Ps := fun ds => ∃ r : Int, ds = [.int r, .int 0] ∧ 0 ≤ r ∧ r ≤ i) (ed_d rfl (ead_cons (ed_var rfl) ea_nil) ⟨_, rfl, by omega, by omega⟩ (by
            rintro e ⟨n, r, e1, rfl, g1, g2⟩
            cases e1
            exact ⟨r, rfl, g1, by omega⟩)) fun d2 ⟨r, h2, g1, g2⟩ => (ead_cons ed_int ea_nil).imp fun ds e => ⟨r, by rw [e, h2], g1, g2⟩).imp fun ds ⟨r, e, g⟩ => ⟨r, by rw [e, h1], g⟩) fun ds ⟨r, e, g⟩ => ⟨by rw [e]; show 3 ≤ sizeLine; decide, r, by rw [e], g⟩)).imp fun ds ⟨d, e1, r, e2, g⟩ => ⟨r, by rw [e1, e2], g⟩))
          (fun es ⟨r, e, _⟩ => ⟨_, e, by simp, by show 3 ≤ 1000000; decide⟩) fun es e ⟨r, e1, g1, g2⟩ ⟨ds, e2, hm⟩ => by
            rw [e1] at e2
            cases e2
            simp only [List.mem_cons, List.mem_nil_iff, or_false] at hm
            rcases hm with rfl | rfl | rfl
            · exact ⟨_, rfl, by omega, by omega⟩
            · exact ⟨_, rfl, g1, g2⟩
            · exact ⟨_, rfl, by omega, by omega⟩) fun d σ5 H5 hd a5 => ?_
        obtain ⟨o, rfl, o1, o2⟩ := hd
        have ex : ∀ {μ : Mu}, Ed (Bd K dk l 64 G H) (tOp (rIx K) (tVar 3) (tVar 4)) (([some (.raw (.ref dk)), some (.int ns), some (rr pk), some (.lst (rowD ss)), x4, x5, none].set 4 (some (.int ((i + 1 : Nat) : Int)))).set 5 (some (.int o))) μ (.str (ss.getD (i + 1) "")) := ed_op (ed_var rfl) (ed_var rfl) (rd_ixL (atI_of (by omega) (by rw [List.getElem?_map, show (((i + 1 : Nat) : Int)).toNat = i + 1 by omega, ei]; rfl)))
        refine y_rowApp (x := ((i + 1 : Nat) : Int)) a5 (by rw [hls, hrl]) rfl (ed_var rfl) (by omega) (by omega) ex (Nat.lt_of_le_of_lt (szr hsub) (by decide)) fun H7 a7 => ?_
        have eo : (rows.set (((i + 1 : Nat) : Int)).toNat (rows.getD (((i + 1 : Nat) : Int)).toNat [] ++ [ss.getD (i + 1) ""])).getD o.toNat [] = rows.getD o.toNat [] := by
          rw [List.getD_eq_getElem?_getD, List.getElem?_set_ne (by omega), ← List.getD_eq_getElem?_getD]
        refine x_rowApp (x := o) a7 (by rw [List.length_set, hls, hrl]) rfl (ed_var rfl) o1 (by rw [List.length_set]; omega) ex (by rw [eo]; exact Nat.lt_of_le_of_lt (szr hsub) (by decide)) fun H8 a8 => ?_
        refine hnx _ _ _ _ ⟨_, _, _, rfl, rfl, by rw [List.length_set, List.length_set]; exact hrl, ?_⟩ a8
        have row : ∀ k, ((rows.getD k [] ++ [ss.getD (i + 1) ""]) : List Str).Sublist ((ss.take (i + 1 + 1)).drop 1) := fun k => by
          rw [take_drop1 ei]
          refine List.Sublist.append_right ?_ _
          by_cases hk : k < rows.length
          · exact hsub _ (show rows.getD k [] ∈ rows by rw [List.getD_eq_getElem?_getD, List.getElem?_eq_getElem hk]; exact List.getElem_mem hk)
          · rw [List.getD_eq_getElem?_getD, List.getElem?_eq_none (by omega)]; exact List.nil_sublist _
        intro t ht
        rcases mem_set ht with e | ⟨q, _, e⟩
        · rw [e, eo]; exact row _
        · rcases mem_set (List.mem_of_getElem? e) with e | ⟨q, _, e⟩
          · rw [e]; exact row _
          · exact up (hsub t (List.mem_of_getElem? e))
      · exact hnx _ _ _ _ ⟨rows, _, _, rfl, rfl, hrl, fun r hr => up (hsub r hr)⟩ a4
    · obtain ⟨rows, x4, x5, rfl, rfl, hrl, hsub⟩ := hI
      -- kept[0].append(some[0])
      have l0 : 0 < ss.length := by omega
      have e0 : ss[0]? = some (ss.getD 0 "") := by rw [List.getD_eq_getElem?_getD, List.getElem?_eq_getElem l0]; rfl
      refine y_rowApp (x := 0) (s := ss.getD 0 "") a3 (by rw [hls, hrl]) rfl ed_int (by decide) (by omega) (ed_op (ed_var rfl) ed_int (rd_ixL (atI_of (by decide) (by rw [List.getElem?_map]; show Option.map _ ss[0]? = _; rw [e0]; rfl)))) (Nat.lt_of_le_of_lt (szr hsub) (by decide)) fun H4 a4 => ?_
      have hsub1 : ∀ r ∈ rows, r.Sublist (ss.drop 1) := fun r hr => (hsub r hr).trans ((List.take_sublist _ _).drop 1)
      have ess : ss = ss.getD 0 "" :: ss.drop 1 := by
        cases ss with
        | nil => simp at l0
        | cons x r => rfl
      have good : ∀ r ∈ rows.set (0 : Int).toNat (rows.getD (0 : Int).toNat [] ++ [ss.getD 0 ""]), Names r ∧ (r.length : Int) ≤ ns := fun r hr => by
        rcases mem_set hr with e | ⟨q, _, e⟩
        · have h1 : (ss.getD 0 "" :: rows.getD 0 []).Sublist ss := by
            conv => rhs; rw [ess]
            exact List.Sublist.cons_cons _ (hsub1 _ (show rows.getD 0 [] ∈ rows by rw [List.getD_eq_getElem?_getD, List.getElem?_eq_getElem (by omega)]; exact List.getElem_mem _))
          rw [e]
          refine ⟨(hnm.sub h1).perm (List.perm_append_singleton _ _), ?_⟩
          have := h1.length_le
          rw [List.length_append, List.length_singleton]
          rw [List.length_cons] at this
          show ((rows.getD 0 []).length + 1 : Nat) ≤ ns
          omega
        · have h1 := (hsub1 r (List.mem_of_getElem? e)).trans (List.drop_sublist 1 ss)
          exact ⟨hnm.sub h1, by have := h1.length_le; omega⟩
      have a5 := At.reslot (k := 2) (freezeAll (by rw [List.length_map, List.length_set, hls, hrl]) a4) rfl
      have hrl' : (rows.set (0 : Int).toNat (rows.getD (0 : Int).toNat [] ++ [ss.getD 0 ""])).length = ns.toNat := by rw [List.length_set, hrl]
      have hne : ∃ q ∈ rows.set (0 : Int).toNat (rows.getD (0 : Int).toNat [] ++ [ss.getD 0 ""]), q ≠ [] := ⟨rows.getD (0 : Int).toNat [] ++ [ss.getD 0 ""], List.mem_iff_getElem?.mpr ⟨(0 : Int).toNat, List.getElem?_set_self (by show 0 < rows.length; omega)⟩, by simp⟩
      generalize rows.set (0 : Int).toNat (rows.getD (0 : Int).toNat [] ++ [ss.getD 0 ""]) = rows' at good a5 hrl' hne
      refine x_ret a5 (P := fun d => ∃ kept : List (List Str), d = .tup (kept.map fun k => .tup (k.map .str)) ∧ (kept.length : Int) = ns ∧ Kp kept ns True) (ev_cb (ea1P (ev_lc0 (P := fun d => ∃ kept : List (List Str), d = .lst (kept.map fun k => .tup (k.map .str)) ∧ (kept.length : Int) = ns ∧ Kp kept ns True) (ei_lst (ds := rows'.map fun r => .lst (rowD r)) (Ed.is (ed_var rfl) (by rw [List.map_map]; rfl))) (by decide) (by rw [List.length_map]; omega) (fun i d => ∃ k : List Str, d = .tup (k.map .str) ∧ (sortedS k = true ∧ Names k ∧ (k.length : Int) ≤ ns) ∧ (rows'.getD i [] ≠ [] → k ≠ [])) (fun i hi cl => ?_) fun ds hl hd => ?_)) fun ds hds => ?_) fun v H5 d hd a6 => hq ⟨ns, rfl, hd⟩ a6
      · have hi' : i < rows'.length := by simpa using hi
        have er : rows'[i]? = some rows'[i] := List.getElem?_eq_getElem hi'
        obtain ⟨hN, hle⟩ := good _ (List.mem_of_getElem? er)
        refine ev_cb (ea1P (ev_cb (P := fun d => ∃ js : List Str, d = .lst (js.map .str) ∧ js.Perm rows'[i] ∧ sortedS js = true) (ead_cons (d := .lst (rowD rows'[i])) (Ed.is (ed_var rfl) ?_) ea_nil) fun ds e => ?_)) fun ds hds => ?_
        · rw [List.getD_eq_getElem?_getD, List.getElem?_map, er]; rfl
        · subst e
          exact rc_sortS (by omega) fun js h1 h2 => ⟨js, rfl, h1, h2⟩
        · obtain ⟨d, rfl, js, rfl, h1, h2⟩ := hds
          exact rc_tupL.imp fun d hd => ⟨js, hd, ⟨h2, hN.perm h1, by rw [h1.length_eq]; exact hle⟩, fun z => by
            rw [List.getD_eq_getElem?_getD, er] at z
            exact fun y => z (by rw [y] at h1; exact List.nil_perm.mp h1)⟩
      · obtain ⟨as, e1, e2, e3⟩ := ge_allI (f := fun v : List Str => D.tup (v.map .str)) hl hd
        rw [List.length_map] at e2
        exact ⟨as, by rw [e1], by omega, kp_of (rows := rows') e2 e3 fun _ => hne⟩
      · obtain ⟨d, rfl, kept, rfl, h1, h2⟩ := hds
        exact rc_tupL.imp fun d hd => ⟨kept, hd, h1, h2⟩
end
end Cal


namespace Cal
open PySem PySem.Spec PyProof.Rows L2
abbrev s__law_drawn : Stmt := topS 49
abbrev n__law_drawn : List Str := ["deck", "sites", "way", "clients"]
theorem sc__law_drawn : FnScope n__law_drawn ["deck"] (defScope s__law_drawn) := ⟨rfl, rfl, rfl, by decide +kernel, rfl, by decide +kernel, by decide +kernel⟩
/-! ### a drawn placement of any kind -/
def Drawn (e : D) : Prop := (∃ s c r : Int, PlD s c r e ∧ (2 ≤ s ∧ s ≤ 5) ∧ (0 ≤ c ∧ c ≤ 2) ∧ s + c ≤ 6 ∧ r ≤ 8) ∧ PlN e
theorem PlD.le {s c r r' : Int} {e : D} (h : PlD s c r e) (k : r ≤ r') : PlD s c r' e := by
  obtain ⟨kept, vis, h0, h1, h2, h3, h4⟩ := h
  exact ⟨kept, vis, h0, h1, h2, fun k hk => ⟨(h3 k hk).1, (h3 k hk).2.1, by have := (h3 k hk).2.2; omega⟩, h4⟩
section
variable {B : Bs} {ρ : Ro} {μ : Mu} {dk l : Addr} {G0 H0 : Hp} {K : PySem.W.Frag} {j : Nat} {E : XK}
theorem ev_pickI {is : List Int} {n : Nat} {Pz : Int → Prop} (h : ρ[j]? = some (some (.raw (.ref dk)))) {te : TE} (ht : Ed (Bd K dk l 64 G0 H0) te ρ μ (.lst (is.map .int))) (hne : is ≠ []) (hl : is.length ≤ 1000) (hz : ∀ z ∈ is, Pz z) :
    Ev (Bd K dk l 64 G0 H0) (tCall (sp__law_pick K) [] E (tCons (tVar j) (tCons te tNil))) ρ μ (fun d => ∃ z : Int, d = .int z ∧ Pz z) := ed_d h (ead_cons ht ea_nil) ⟨_, rfl, by simp [hne], by rw [List.length_map]; omega⟩ (by
      rintro e ⟨ds, e1, hm⟩
      cases e1
      obtain ⟨z, hz', rfl⟩ := List.mem_map.mp hm
      exact ⟨z, rfl, hz z hz'⟩)
theorem ed_ints {t : TA} {is : List Int} (h : Ea B t ρ μ (fun es => es = is.map .int)) (hl : is.length ≤ 1000) : Ed B (tLst t) ρ μ (.lst (is.map .int)) := ed_lst h (by rw [List.length_map]; exact Nat.le_trans hl (by decide))
end
section
variable {P : Program} {w : World} {K : PySem.W.Frag} {mg : Str → Option Value} {base : Heap} {f : Addr} {fd : FuncData}
abbrev BNdrawn : List Str := ["min"]
variable (bi : ∀ x, x ∈ BNdrawn → mg x = none)
abbrev sp__law_drawn (K : PySem.W.Frag) : Sp := dsp K (fun es => es = []) (fun es e => Drawn e)
include bi in
theorem ok__law_drawn (F : Fun K "_law_drawn" "_law_drawn" s__law_drawn f fd) (c__law_draw : C8.Cal P w K mg base 1 "_law_draw" (sp__law_draw K) []) (c__law_pick : C8.Cal P w K mg base 2 "_law_pick" (sp__law_pick K) []) (c__law_ring : C8.Cal P w K mg base 4 "_law_ring" (sp__law_ring K) []) (c__law_tree : C8.Cal P w K mg base 4 "_law_tree" (sp__law_tree K) []) (c__law_placement : C8.Cal P w K mg base 4 "_law_placement" (sp__law_placement K) []) : FnOk P w K mg base CX0 5 f fd ["deck"] (sp__law_drawn K) := by
  refine F.ok sc__law_drawn (fun vs H Q E h => ?_) (fun cdv A outer s H vs Q E hr h => ?_)
  · obtain ⟨dk, l, G, ds, h1, ⟨es, rfl, rfl⟩, _⟩ := h
    exact h1.length
  · have hu := hu_of hr
    obtain ⟨dk, l, G, es, rfl, hlen, a, hq⟩ := dsp_start n__law_drawn h
    refine ⟨_, (pss_cons (ps_par (i := 1) (j := 2) (by rfl) sc__law_drawn.nd rfl rfl (by decide) rfl rfl (pa_cons (C8.pe_c c__law_pick hr (by first | decide | omega) (by rfl) (pa_cons (pv 0) (pa_cons (pe_lst (pa_cons pe_int (pa_cons pe_int (pa_cons pe_int (pa_cons pe_int (pa_cons pe_int (pa_cons pe_int pa_nil))))))) pa_nil))) (pa_cons (C8.pe_c c__law_draw hr (by first | decide | omega) (by rfl) (pa_cons (pv 0) (pa_cons pe_int pa_nil))) pa_nil)) (by rfl))
      (pss_cons (ps_asg (pe_ifExp (pt_cmpR u_lt (pv 1) pe_int (nomark _)) (C8.pe_c c__law_pick hr (by first | decide | omega) (by rfl) (pa_cons (pv 0) (pa_cons (pe_lst (pa_cons pe_int (pa_cons pe_int (pa_cons pe_int (pa_cons pe_int (pa_cons pe_int pa_nil)))))) pa_nil))) (C8.pe_c c__law_pick hr (by first | decide | omega) (by rfl) (pa_cons (pv 0) (pa_cons (pe_lst (pa_cons pe_int (pa_cons pe_int (pa_cons pe_int pa_nil)))) pa_nil)))) (pg_name (i := 3) sc__law_drawn.nd rfl (by first | exact (.inl rfl) | exact (.inr rfl))))
      (pss_cons (ps_if (PW.pt (pw_and (pt_cmpR u_lt (pv 2) pe_int (nomark _)) (pw_and1 (pt_cmpR op_gt (pv 1) pe_int (nomark _))))) (pss_one (ps_ret (C8.pe_c c__law_ring hr (by first | decide | omega) (by rfl) (pa_cons (pv 0) (pa_cons (pe_op (r := rAddU K) u_add (pv 1) (pe_callB (id := "min") (call_min2 rfl) (by rfl) (bi "min" (by decide +kernel)) (by decide +kernel) (pa_cons (pv 3) (pa_cons (pe_op op_sub (pv 1) pe_int) pa_nil)))) (pa_cons (pv 1) pa_nil)))))) pss_nil)
      (pss_cons (ps_if (pt_cmpR (r := rEqD K) (u_eq hr.units) (pv 2) pe_int (nomark _)) (pss_one (ps_ret (pe_tup (pa_cons (C8.pe_c c__law_tree hr (by first | decide | omega) (by rfl) (pa_cons (pv 0) (pa_cons (pv 1) pa_nil))) (pa_cons (pe_slice (r := rSlU K) u_sl (pe_tup (pa_cons (pe_tup (pa_cons pe_int (pa_cons (pe_op op_sub (pv 1) pe_int) pa_nil))) pa_nil)) po_none (po_some (pv 3))) pa_nil))))) pss_nil)
      (pss_one (ps_ret (C8.pe_c c__law_placement hr (by first | decide | omega) (by rfl) (pa_cons (pv 0) (pa_cons (pv 1) (pa_cons (pv 3) (pa_cons (pe_ifExp (pt_cmpR u_lt (pv 1) pe_int (nomark _)) (C8.pe_c c__law_pick hr (by first | decide | omega) (by rfl) (pa_cons (pv 0) (pa_cons (pe_lst (pa_cons pe_int (pa_cons pe_int (pa_cons pe_int (pa_cons pe_int (pa_cons pe_int (pa_cons pe_int pa_nil))))))) pa_nil))) (C8.pe_c c__law_pick hr (by first | decide | omega) (by rfl) (pa_cons (pv 0) (pa_cons (pe_lst (pa_cons pe_int (pa_cons pe_int (pa_cons pe_int pa_nil)))) pa_nil)))) pa_nil))))))))))), ?_⟩
    -- sites, way
    refine y_par (Ps := fun d1 d2 => (∃ m : Int, d1 = .int m ∧ 2 ≤ m ∧ m ≤ 5) ∧ ∃ y : Int, d2 = .int y ∧ 0 ≤ y) a (ea_cons (P := fun d => ∃ m : Int, d = .int m ∧ 2 ≤ m ∧ m ≤ 5) (ev_pickI (is := [3, 4, 3, 4, 2, 5]) (n := 0) rfl (ed_ints (ead_cons ed_int (ead_cons ed_int (ead_cons ed_int (ead_cons ed_int (ead_cons ed_int (ead_cons ed_int ea_nil)))))) (by decide)) (by decide) (by decide) (by decide)) fun d1 h1 => (ea1P (P := fun d => ∃ y : Int, d = .int y ∧ 0 ≤ y) (ed_d rfl (ead_cons ed_int ea_nil) ⟨_, rfl, by decide, by decide⟩ (by
      rintro e ⟨n, r, _, rfl, g1, _⟩; exact ⟨r, rfl, g1⟩))).imp fun ds ⟨d2, e2, h2⟩ => ⟨d1, d2, by rw [e2], h1, h2⟩) fun d1 d2 σ1 H1 ⟨⟨m, e1, m1, m2⟩, y, e2, y0⟩ a1 => ?_
    subst e1; subst e2
    -- clients
    refine y_setV (P := fun d => ∃ c : Int, d = .int c ∧ 0 ≤ c ∧ c ≤ 2 ∧ m + c ≤ 6) a1 (ev_if (Pb := fun b => b = decide (m < 5)) (eb_test (ed_op (ed_var rfl) ed_int rd_ltI)) (fun e => ?_) fun e => ?_) fun d σ2 H2 hd a2 => ?_
    · have h5 := of_decide_eq_true e.symm
      exact Ev.imp (ev_pickI (is := [0, 1, 0, 1, 2]) (n := 0) (Pz := fun c => 0 ≤ c ∧ c ≤ 2) rfl (ed_ints (ead_cons ed_int (ead_cons ed_int (ead_cons ed_int (ead_cons ed_int (ead_cons ed_int ea_nil))))) (by decide)) (by decide) (by decide) (by decide)) fun d ⟨c, h1, h2, h3⟩ => ⟨c, h1, h2, h3, by omega⟩
    · exact Ev.imp (ev_pickI (is := [0, 0, 1]) (n := 0) (Pz := fun c => 0 ≤ c ∧ c ≤ 1) rfl (ed_ints (ead_cons ed_int (ead_cons ed_int (ead_cons ed_int ea_nil))) (by decide)) (by decide) (by decide) (by decide)) fun d ⟨c, h1, h2, h3⟩ => ⟨c, h1, h2, by omega, by omega⟩
    · obtain ⟨c, rfl, c0, c2, c6⟩ := hd
      refine y_ifb a2 (eb_and (eb_test (ed_op (ed_var rfl) ed_int rd_ltI)) fun _ => eb_test (ed_op (ed_var rfl) ed_int rd_gt)) (fun hb H3 a3 => ?_) fun hb H3 a3 => ?_
      · rw [Bool.and_eq_true] at hb
        have h3 := of_decide_eq_true hb.2
        refine x_ret a3 (P := Drawn) (ed_d rfl (ead_cons (ed_op (ed_var rfl) (ed_cb (ead_cons (ed_var rfl) (ead_cons (ed_op (ed_var rfl) ed_int rd_sub) ea_nil)) rc_min) rd_addI) (ead_cons (ed_var rfl) ea_nil)) ⟨_, _, rfl, ⟨by omega, by omega⟩, by omega, by omega⟩ (by
          rintro e ⟨n, s, e1, hp, hn⟩
          cases e1
          exact ⟨⟨_, _, _, hp, ⟨by omega, by omega⟩, ⟨by omega, by omega⟩, by omega, by omega⟩, hn⟩)) fun v H4 d hd a4 => hq hd a4
      · refine y_ifb a3 (eb_test (ed_op (ed_var rfl) ed_int rd_eqI)) (fun hb2 H4 a4 => ?_) fun hb2 H4 a4 => ?_
        · refine x_ret a4 (ev_tup (P := Drawn) (Ps := fun ds => ∃ kept : List (List Str), ds = [.tup (kept.map fun k => .tup (k.map .str)), .tup ([.tup [.int 0, .int (m - 1)]].take c.toNat)] ∧ (kept.length : Int) = m ∧ Kp kept m True) (ea_cons (P := fun d => ∃ kept : List (List Str), d = .tup (kept.map fun k => .tup (k.map .str)) ∧ (kept.length : Int) = m ∧ Kp kept m True)
            (ed_d rfl (ead_cons (ed_var rfl) ea_nil) ⟨_, rfl, by omega, by omega⟩ (by rintro e ⟨s, e1, hk⟩; cases e1; exact hk)) fun d ⟨kept, e1, e2, e3⟩ => (ead_cons (d := .tup ([.tup [.int 0, .int (m - 1)]].take c.toNat)) (Ed.is (ed_slT (ed_tup (ead_cons (ed_tup (ead_cons ed_int (ead_cons (ed_op (ed_var rfl) ed_int rd_sub) ea_nil)) (by show 2 ≤ _; decide)) ea_nil) (by show 1 ≤ _; decide)) eo_none (eo_some (ed_var rfl))) (by rw [cutD_take _ c0])) ea_nil).imp fun ds e => ⟨kept, by rw [e, e1], e2, e3⟩) fun ds ⟨kept, e1, e2, e3⟩ => ⟨by rw [e1]; show 2 ≤ sizeLine; decide, ?_⟩) fun v H5 d hd a5 => hq hd a5
          subst e1
          have e4 : ([.tup [.int 0, .int (m - 1)]].take c.toNat : List D) = (([[0, m - 1]] : List (List Int)).take c.toNat).map fun v => .tup (v.map .int) := by
            rw [List.map_take]; rfl
          rw [e4]
          refine ⟨⟨m, min c 1, m, ⟨kept, ([[0, m - 1]] : List (List Int)).take c.toNat, rfl, e2, ?_, e3.1, fun v hv => ?_⟩, ⟨by omega, by omega⟩, ⟨by omega, by omega⟩, by omega, by omega⟩, kept, _, rfl, e3.2 True.intro⟩
          · rw [List.length_take]
            show ((min c.toNat 1 : Nat) : Int) = min c 1
            omega
          · have hv' := List.mem_singleton.mp ((List.take_sublist _ _).subset hv)
            subst hv'
            refine ⟨by simp; omega, fun x hx => ?_, by show min m 2 ≤ 2; omega, by show (2 : Int) ≤ m; omega⟩
            simp only [List.mem_cons, List.mem_nil_iff, or_false] at hx
            rcases hx with rfl | rfl <;> constructor <;> omega
        · refine x_ret a4 (P := Drawn) (ev_d (Ps := fun es => ∃ r : Int, es = [.int m, .int c, .int r] ∧ 2 ≤ r ∧ r ≤ 8) (ea_deck rfl (ea_cons (P := fun d => d = .int m) (ed_var rfl) fun d1 h1 => (ea_cons (P := fun d => d = .int c) (Ps := fun ds => ∃ r : Int, ds = [.int c, .int r] ∧ 2 ≤ r ∧ r ≤ 8) (ed_var rfl) fun d2 h2 => (ea1P (P := fun d => ∃ r : Int, d = .int r ∧ 2 ≤ r ∧ r ≤ 8) (ev_if (Pb := fun b => b = decide (m < 5)) (eb_test (ed_op (ed_var rfl) ed_int rd_ltI)) (fun _ => ?_) fun _ => ?_)).imp fun ds ⟨d3, e3, r, e4, hr⟩ => ⟨r, by rw [e3, h2, e4], hr⟩).imp fun ds ⟨r, e, hr⟩ => ⟨r, by rw [e, h1], hr⟩)) (fun es ⟨r, e, hr1, hr2⟩ => ⟨m, c, r, e, ⟨by omega, by omega⟩, ⟨by omega, by omega⟩, by omega, by omega⟩) fun es e ⟨r, e1, hr1, hr2⟩ ⟨s', c', r', e2, hp, hn⟩ => by
              rw [e1] at e2
              cases e2
              exact ⟨⟨_, _, _, hp, ⟨m1, m2⟩, ⟨c0, c2⟩, c6, hr2⟩, hn ⟨by omega, by omega⟩⟩) fun v H5 d hd a5 => hq hd a5
          · exact ev_pickI (is := [3, 4, 5, 2, 6, 8]) (n := 0) (Pz := fun r => 2 ≤ r ∧ r ≤ 8) rfl (ed_ints (ead_cons ed_int (ead_cons ed_int (ead_cons ed_int (ead_cons ed_int (ead_cons ed_int (ead_cons ed_int ea_nil)))))) (by decide)) (by decide) (by decide) (by decide)
          · exact ev_pickI (is := [4, 5, 6]) (n := 0) (Pz := fun r => 2 ≤ r ∧ r ≤ 8) rfl (ed_ints (ead_cons ed_int (ead_cons ed_int (ead_cons ed_int ea_nil))) (by decide)) (by decide) (by decide) (by decide)
end
end Cal


namespace Cal
open PySem PySem.Spec PyProof.Rows L2
/-! ### keywords in the order that turns the parameters round -/
theorem KB2 {K : PySem.W.Frag} {fd : FuncData} {p q : Str}
    (h0 : ∀ (s : Shared) a b, BindsTo s fd ⟨[a, b], []⟩ [(p, a), (q, b)]) (h1 : ∀ (s : Shared) a b, BindsTo s fd ⟨[a], [(q, b)]⟩ [(p, a), (q, b)]) (h2 : ∀ (s : Shared) a b, BindsTo s fd ⟨[], [(q, b), (p, a)]⟩ [(p, a), (q, b)]) :
    KBinds K fd [p, q] [q, p] (fun us ws => us ++ ws.reverse) (fun vs zs => vs ++ zs.reverse) :=
  ⟨fun s us ws _ hl => match us, ws, hl with
    | [a, b], [], _ => h0 s a b
    | [a], [b], _ => h1 s a b
    | [], [b, a], _ => h2 s a b
    | [], [], hl => by simp at hl
    | [], [_], hl => by simp at hl
    | [], _ :: _ :: _ :: _, hl => by simp at hl
    | [_], [], hl => by simp at hl
    | [_], _ :: _ :: _, hl => by simp at hl
    | [_, _], _ :: _, hl => by simp at hl
    | _ :: _ :: _ :: _, _, hl => by simp at hl, fun r z => Vals.append r (Vals.reverse z)⟩
theorem KB3 {K : PySem.W.Frag} {fd : FuncData} {p q r : Str}
    (h0 : ∀ (s : Shared) a b c, BindsTo s fd ⟨[a, b, c], []⟩ [(p, a), (q, b), (r, c)]) (h1 : ∀ (s : Shared) a b c, BindsTo s fd ⟨[a, b], [(r, c)]⟩ [(p, a), (q, b), (r, c)])
    (h2 : ∀ (s : Shared) a b c, BindsTo s fd ⟨[a], [(r, c), (q, b)]⟩ [(p, a), (q, b), (r, c)]) (h3 : ∀ (s : Shared) a b c, BindsTo s fd ⟨[], [(r, c), (q, b), (p, a)]⟩ [(p, a), (q, b), (r, c)]) :
    KBinds K fd [p, q, r] [r, q, p] (fun us ws => us ++ ws.reverse) (fun vs zs => vs ++ zs.reverse) :=
  ⟨fun s us ws _ hl => match us, ws, hl with
    | [a, b, c], [], _ => h0 s a b c
    | [a, b], [c], _ => h1 s a b c
    | [a], [c, b], _ => h2 s a b c
    | [], [c, b, a], _ => h3 s a b c
    | [], [], hl => by simp at hl
    | [], [_], hl => by simp at hl
    | [], [_, _], hl => by simp at hl
    | [], _ :: _ :: _ :: _ :: _, hl => by simp at hl
    | [_], [], hl => by simp at hl
    | [_], [_], hl => by simp at hl
    | [_], _ :: _ :: _ :: _, hl => by simp at hl
    | [_, _], [], hl => by simp at hl
    | [_, _], _ :: _ :: _, hl => by simp at hl
    | [_, _, _], _ :: _, hl => by simp at hl
    | _ :: _ :: _ :: _ :: _, _, hl => by simp at hl, fun r z => Vals.append r (Vals.reverse z)⟩
theorem KB4 {K : PySem.W.Frag} {fd : FuncData} {p q r t : Str}
    (h0 : ∀ (s : Shared) a b c d, BindsTo s fd ⟨[a, b, c, d], []⟩ [(p, a), (q, b), (r, c), (t, d)]) (h1 : ∀ (s : Shared) a b c d, BindsTo s fd ⟨[a, b, c], [(t, d)]⟩ [(p, a), (q, b), (r, c), (t, d)])
    (h2 : ∀ (s : Shared) a b c d, BindsTo s fd ⟨[a, b], [(t, d), (r, c)]⟩ [(p, a), (q, b), (r, c), (t, d)]) (h3 : ∀ (s : Shared) a b c d, BindsTo s fd ⟨[a], [(t, d), (r, c), (q, b)]⟩ [(p, a), (q, b), (r, c), (t, d)])
    (h4 : ∀ (s : Shared) a b c d, BindsTo s fd ⟨[], [(t, d), (r, c), (q, b), (p, a)]⟩ [(p, a), (q, b), (r, c), (t, d)]) :
    KBinds K fd [p, q, r, t] [t, r, q, p] (fun us ws => us ++ ws.reverse) (fun vs zs => vs ++ zs.reverse) :=
  ⟨fun s us ws _ hl => match us, ws, hl with
    | [a, b, c, d], [], _ => h0 s a b c d
    | [a, b, c], [d], _ => h1 s a b c d
    | [a, b], [d, c], _ => h2 s a b c d
    | [a], [d, c, b], _ => h3 s a b c d
    | [], [d, c, b, a], _ => h4 s a b c d
    | [], [], hl => by simp at hl
    | [], [_], hl => by simp at hl
    | [], [_, _], hl => by simp at hl
    | [], [_, _, _], hl => by simp at hl
    | [], _ :: _ :: _ :: _ :: _ :: _, hl => by simp at hl
    | [_], [], hl => by simp at hl
    | [_], [_], hl => by simp at hl
    | [_], [_, _], hl => by simp at hl
    | [_], _ :: _ :: _ :: _ :: _, hl => by simp at hl
    | [_, _], [], hl => by simp at hl
    | [_, _], [_], hl => by simp at hl
    | [_, _], _ :: _ :: _ :: _, hl => by simp at hl
    | [_, _, _], [], hl => by simp at hl
    | [_, _, _], _ :: _ :: _, hl => by simp at hl
    | [_, _, _, _], _ :: _, hl => by simp at hl
    | _ :: _ :: _ :: _ :: _ :: _, _, hl => by simp at hl, fun r z => Vals.append r (Vals.reverse z)⟩
end Cal


namespace Cal
open PySem PySem.Spec PyProof.Rows L2
/-! ### l.append(x), any length -/
theorem x_appendC {B : Bs} {ρ : Ro} {μ : Mu} {τ : List (V × D)} {σ : L2.St} {H : Hp} {te : TE} {p : Addr} {D0 : Ends} {j k : Nat} {ds : List D} {d : D} (a : At B ρ μ τ σ H) (hs : ρ[j]? = some (some (.raw (.ref p)))) (hm : μ[k]? = some (p, .lst ds)) (he : Ed B te ρ μ d) (hz : ds.length < sizeLine) (q : ∀ H', At B ρ (μ.set k (p, .lst (ds ++ [d]))) τ σ H' → D0.nx σ H') :
    tDrop (tBM B.K "list" rAppend (tVar j) (tCons te tNil)) D0 σ H := by
  obtain ⟨v0, h1, h2⟩ := a.var hs
  obtain ⟨G, g, hv⟩ := h2.top
  have hv' : v0 = V.ref p := hv
  subst hv'
  obtain ⟨vs, e1, k1⟩ := (g.cells _ (List.mem_of_getElem? hm)).2.2.2
  refine ⟨_, h1, .inl ⟨rfl, _, .inl (.inl e1)⟩, he.go a fun u H1 d1 hd a1 => ?_⟩
  subst hd
  obtain ⟨G1, g1, hu⟩ := id a1.top
  obtain ⟨vs1, e2, k2⟩ := (g1.cells _ (List.mem_of_getElem? hm)).2.2.2
  exact ⟨p, vs1, u, rfl, rfl, e2, by rw [k2.length]; exact hz, q _ ⟨G1, AtG.write (c' := .lst (ds ++ [d1])) g1 hm ⟨_, upd_same, k2.append ⟨u, [], rfl, hu, rfl⟩⟩⟩⟩
/-! ### while -/
theorem x_while {B : Bs} {ρ : Ro} {μ : Mu} {τ : List (V × D)} {σ : L2.St} {H : Hp} {tc : TT} {tb : TS} {D0 : Ends} (Inv : Nat → Ro → Mu → Prop) (a : At B ρ μ τ σ H) (h0 : ∃ m, Inv m ρ μ)
    (hs : ∀ m ρ' μ', Inv m ρ' μ' → ∃ b, Eb B tc ρ' μ' b ∧ (b = true → ∀ σ' H' (Dn : Ends), At B ρ' μ' τ σ' H' → (∀ m' ρ2 μ2 σ2 H2, m' < m → Inv m' ρ2 μ2 → At B ρ2 μ2 τ σ2 H2 → Dn.nx σ2 H2) → (∀ m' ρ2 μ2 σ2 H2, m' < m → Inv m' ρ2 μ2 → At B ρ2 μ2 τ σ2 H2 → Dn.ct σ2 H2) → Dn.bk = D0.nx → Dn.rt = D0.rt → tb Dn σ' H') ∧
      (b = false → ∀ σ' H', At B ρ' μ' τ σ' H' → D0.nx σ' H')) : tWhile tc tb D0 σ H := by
  obtain ⟨m0, i0⟩ := h0
  refine ⟨fun m σ H => ∃ ρ' μ', Inv m ρ' μ' ∧ At B ρ' μ' τ σ H, ⟨m0, ρ, μ, i0, a⟩, fun m σ1 H1 ⟨ρ', μ', i1, a1⟩ => ?_⟩
  obtain ⟨b, e, s1, s2⟩ := hs m ρ' μ' i1
  refine e τ σ1 H1 a1 _ fun b' H2 hb a2 => ?_
  subst hb
  cases b' with
  | true =>
    rw [if_pos rfl]
    exact ⟨fun σ3 H3 => ∃ m', m' < m ∧ ∃ ρ2 μ2, Inv m' ρ2 μ2 ∧ At B ρ2 μ2 τ σ3 H3, fun σ3 H3 h => h, s1 rfl σ1 H2 _ a2 (fun m' ρ2 μ2 σ2 H2 lt i2 a3 => ⟨m', lt, ρ2, μ2, i2, a3⟩) (fun m' ρ2 μ2 σ2 H2 lt i2 a3 => ⟨m', lt, ρ2, μ2, i2, a3⟩) rfl rfl⟩
  | false =>
    rw [if_neg Bool.false_ne_true]
    exact s2 rfl σ1 H2 a2
theorem y_while {B : Bs} {ρ : Ro} {μ : Mu} {τ : List (V × D)} {σ : L2.St} {H : Hp} {tc : TT} {tb tz : TS} {D0 : Ends} (Inv : Nat → Ro → Mu → Prop) (a : At B ρ μ τ σ H) (h0 : ∃ m, Inv m ρ μ)
    (hs : ∀ m ρ' μ', Inv m ρ' μ' → ∃ b, Eb B tc ρ' μ' b ∧ (b = true → ∀ σ' H' (Dn : Ends), At B ρ' μ' τ σ' H' → (∀ m' ρ2 μ2 σ2 H2, m' < m → Inv m' ρ2 μ2 → At B ρ2 μ2 τ σ2 H2 → Dn.nx σ2 H2) → (∀ m' ρ2 μ2 σ2 H2, m' < m → Inv m' ρ2 μ2 → At B ρ2 μ2 τ σ2 H2 → Dn.ct σ2 H2) → Dn.bk = tz D0 → Dn.rt = D0.rt → tb Dn σ' H') ∧
      (b = false → ∀ σ' H', At B ρ' μ' τ σ' H' → tz D0 σ' H')) : tSeq (tWhile tc tb) tz D0 σ H := x_while (D0 := { D0 with nx := tz D0 }) Inv a h0 hs
/-! ### the walk by a stack of ways -/
section
variable (near : Int → List Int) (i j k : Int)
def extW (w : List Int) : List (List Int) := ((near (w.getLastD i)).filter fun p => !decide (p ∈ i :: j :: w)).map fun p => w ++ [p]
inductive Walk : List (List Int) → List (List Int) → List (List Int) → Prop
  | done (f : List (List Int)) : Walk [] f f
  | hit {t f r : List (List Int)} {w : List Int} : w ≠ [] → w.getLastD i = k → Walk t (f ++ [w]) r → Walk (t ++ [w]) f r
  | go {t f r : List (List Int)} {w : List Int} : ¬ (w ≠ [] ∧ w.getLastD i = k) → Walk (t ++ extW near i j w) f r → Walk (t ++ [w]) f r
end
section
variable {near : Int → List Int} {i j k : Int}
theorem Walk.det {t f r r' : List (List Int)} (h : Walk near i j k t f r) : Walk near i j k t f r' → r = r' := by
  induction h generalizing r' with
  | done f =>
    intro h2
    generalize e : ([] : List (List Int)) = t at h2
    cases h2 with
    | done => rfl
    | hit => simp at e
    | go => simp at e
  | @hit t f r w h1 h2 _ ih =>
    intro h3
    generalize e : t ++ [w] = t' at h3
    cases h3 with
    | done => simp at e
    | hit g1 g2 g3 =>
      obtain ⟨e1, e2⟩ := List.append_inj' e rfl
      cases e2; subst e1
      exact ih g3
    | go g1 g2 =>
      obtain ⟨e1, e2⟩ := List.append_inj' e rfl
      cases e2
      exact absurd ⟨h1, h2⟩ g1
  | @go t f r w h1 _ ih =>
    intro h3
    generalize e : t ++ [w] = t' at h3
    cases h3 with
    | done => simp at e
    | hit g1 g2 g3 =>
      obtain ⟨e1, e2⟩ := List.append_inj' e rfl
      cases e2
      exact absurd ⟨g1, g2⟩ h1
    | go g1 g2 =>
      obtain ⟨e1, e2⟩ := List.append_inj' e rfl
      cases e2; subst e1
      exact ih g2
def rem (m : Nat) (w : List Int) : Nat := ((List.range m).filter fun (q : Nat) => !decide ((q : Int) ∈ w)).length
def wt (m : Nat) (w : List Int) : Nat := (m + 1) ^ rem m w
def wts (m : Nat) (t : List (List Int)) : Nat := (t.map (wt m)).sum
theorem wt_pos (m : Nat) (w : List Int) : 1 ≤ wt m w := Nat.pos_of_ne_zero (by unfold wt; exact Nat.ne_of_gt (Nat.pow_pos (Nat.succ_pos m)))
theorem wts_app (m : Nat) (s t : List (List Int)) : wts m (s ++ t) = wts m s + wts m t := by
  unfold wts; rw [List.map_append, List.sum_append]
theorem wts_one (m : Nat) (w : List Int) : wts m [w] = wt m w := by simp [wts]
theorem wts_len (m : Nat) : ∀ t : List (List Int), t.length ≤ wts m t
  | [] => Nat.zero_le _
  | w :: t => by
    have := wts_len m t
    have h := wt_pos m w
    show t.length + 1 ≤ wt m w + wts m t
    omega
theorem rem_child {m : Nat} {w : List Int} {p : Int} (h0 : 0 ≤ p) (h1 : p < m) (h2 : p ∉ w) : rem m (w ++ [p]) + 1 ≤ rem m w := by
  unfold rem
  have e : (List.range m).filter (fun (q : Nat) => !decide ((q : Int) ∈ w ++ [p])) = ((List.range m).filter fun (q : Nat) => !decide ((q : Int) ∈ w)).filter fun (q : Nat) => !decide ((q : Int) = p) := by
    rw [List.filter_filter]
    refine List.filter_congr fun q _ => ?_
    by_cases a : (q : Int) ∈ w <;> by_cases b : (q : Int) = p <;> simp [a, b]
  rw [e]
  refine List.length_filter_lt_length_iff_exists.mpr ⟨p.toNat, List.mem_filter.mpr ⟨List.mem_range.mpr (by omega), ?_⟩, ?_⟩
  · rw [show ((p.toNat : Nat) : Int) = p by omega, decide_eq_false h2]; rfl
  · rw [show ((p.toNat : Nat) : Int) = p by omega]; simp
theorem wts_ext {m : Nat} (hn : ∀ x, (near x).length ≤ m ∧ ∀ p ∈ near x, 0 ≤ p ∧ p < m) (w : List Int) : wts m (extW near i j w) + 1 ≤ wt m w := by
  have hb : ∀ c ∈ extW near i j w, wt m c ≤ (m + 1) ^ (rem m w - 1) ∧ 1 ≤ rem m w := fun c hc => by
    obtain ⟨p, hp, rfl⟩ := List.mem_map.mp hc
    obtain ⟨h1, h2⟩ := List.mem_filter.mp hp
    have h3 : p ∉ w := fun z => by
      have : p ∈ i :: j :: w := List.mem_cons_of_mem _ (List.mem_cons_of_mem _ z)
      rw [decide_eq_true this] at h2; cases h2
    have h4 := rem_child (m := m) ((hn _).2 p h1).1 ((hn _).2 p h1).2 h3
    exact ⟨Nat.pow_le_pow_right (Nat.succ_pos m) (by omega), by omega⟩
  have hl : (extW near i j w).length ≤ m := by
    unfold extW
    rw [List.length_map]
    exact Nat.le_trans (List.length_filter_le _ _) (hn _).1
  have hs : ∀ l : List (List Int), (∀ c ∈ l, wt m c ≤ (m + 1) ^ (rem m w - 1)) → wts m l ≤ l.length * (m + 1) ^ (rem m w - 1) := fun l => by
    induction l with
    | nil => exact fun _ => Nat.zero_le _
    | cons c r ih =>
      intro h
      have h1 := h c (List.mem_cons_self ..)
      have h2 := ih fun d hd => h d (List.mem_cons_of_mem _ hd)
      rw [List.length_cons, Nat.succ_mul]
      show wt m c + wts m r ≤ _
      omega
  cases e : extW near i j w with
  | nil => exact wt_pos m w
  | cons c r =>
    have h1 : 1 ≤ rem m w := (hb c (by rw [e]; exact List.mem_cons_self ..)).2
    rw [← e]
    have h2 := hs _ fun c hc => (hb c hc).1
    have h3 : (extW near i j w).length * (m + 1) ^ (rem m w - 1) ≤ m * (m + 1) ^ (rem m w - 1) := Nat.mul_le_mul_right _ hl
    have h4 : (m + 1) ^ rem m w = m * (m + 1) ^ (rem m w - 1) + (m + 1) ^ (rem m w - 1) := by
      conv => lhs; rw [show rem m w = (rem m w - 1) + 1 by omega, Nat.pow_succ, Nat.mul_comm, Nat.succ_mul]
    have h5 : 1 ≤ (m + 1) ^ (rem m w - 1) := Nat.pow_pos (Nat.succ_pos m)
    unfold wt
    omega
theorem rem_le (m : Nat) (w : List Int) : rem m w ≤ m := by
  unfold rem
  have := List.length_filter_le (fun (q : Nat) => !decide ((q : Int) ∈ w)) (List.range m)
  rwa [List.length_range] at this
theorem wt_le {m : Nat} (w : List Int) : wt m w ≤ (m + 1) ^ m := Nat.pow_le_pow_right (Nat.succ_pos m) (rem_le m w)
end
end Cal


namespace Cal
open PySem PySem.Spec PyProof.Rows L2
section
variable {B : Bs} {ρ : Ro} {μ : Mu} {ds es : List D} {d : D} {te : TE}
/-- a call by keywords in the reversed order -/
theorem ed_pwR {pre : List D → Prop} {post : List D → D → Prop} {t : TA} {gV : List V → List V → List V} (hgV : ∀ zs, gV [] zs = zs.reverse) (h : Ea B t ρ μ (fun l => l = es)) (he : es.reverse = ds) (hpre : pre ds) (hpost : ∀ e, post ds e → e = d) : Ed B (tCallW (psp B.K pre post) gV t) ρ μ d := by
  have e := ed_p (B := B) (E := C8.E0) (d := d) (ds := ds) (ρ := ρ) (μ := μ) (t := fun σ H Q => t σ H fun zs H1 => Q zs.reverse H1) (fun τ σ H a Q q => h τ σ H a _ fun vs H' l hl hlen a1 => by
    subst hl
    refine q vs.reverse H' l.reverse he (by rw [List.length_reverse, List.length_reverse, hlen]) (a1.sub fun p hp => ?_)
    rcases List.mem_append.mp hp with hp | hp
    · refine List.mem_append_left _ ?_
      rw [List.zip, ← List.reverse_zipWith hlen] at hp
      exact List.mem_reverse.mp hp
    · exact List.mem_append_right _ hp) hpre hpost
  have e2 : tCallW (psp B.K pre post) gV t = tCall (psp B.K pre post) [] C8.E0 (fun σ H Q => t σ H fun zs H1 => Q zs.reverse H1) := by
    unfold tCallW tCall
    funext σ H Q
    congr 1
    funext zs H1
    rw [hgV]
    show _ = psp B.K pre post (zs.reverse ++ []) H1 Q C8.E0
    rw [List.append_nil]
  rw [e2]; exact e
theorem rd_notN {d : D} {b : Bool} (h : ∀ G v, Dt B.K G d v → (!decide (v = .non)) = b) : RD B (fun x y H Q => y = .non ∧ Q (.bl (!decide (x = .non))) H) ρ μ d .non (fun e => e = .bl b) := rd_flat (fun _ => rfl) fun G H x y _ a c Q q => ⟨c, by rw [h G x a]; exact q⟩
theorem rp_of (h : Th 400000 10 d) (k : Ed B te ρ μ d) : Ed B (tCB (rRp B.K) (tCons te tNil)) ρ μ (.str (py d).shown) := ed_cb (ead_cons k ea_nil) (rc_rp h.ok h.nn (Nat.le_trans h.w (by decide)) (Nat.le_trans h.dp (by decide)))
end
theorem cl_nat {a : Nat} (h : a < 1000) : cl (.int a) = true := cl_int (Nat.lt_of_lt_of_le (show ((a : Int)).natAbs < 1000 by omega) (by decide))
/-! ### how many ways there are, and how long they are -/
def fac : Nat → Nat
  | 0 => 1
  | n + 1 => (n + 1) * fac n
theorem fac_pos : ∀ n, 1 ≤ fac n
  | 0 => Nat.le_refl _
  | n + 1 => Nat.le_trans (fac_pos n) (Nat.le_mul_of_pos_left _ (Nat.succ_pos n))
theorem fac_le : ∀ {a b : Nat}, a ≤ b → fac a ≤ fac b := fun {a b} h => by
  induction h with
  | refl => exact Nat.le_refl _
  | step _ ih => exact Nat.le_trans ih (Nat.le_mul_of_pos_left _ (Nat.succ_pos _))
def cnt (m : Nat) (i j : Int) (w : List Int) : Nat := fac (rem m (i :: j :: w))
section
variable {near : Int → List Int} {m : Nat} {i j k : Int}
theorem cnt_ext (hn : ∀ (x : Int) (c : Int → Bool), ((near x).filter c).length ≤ ((List.range m).filter fun (q : Nat) => c q).length) (hb : ∀ x, ∀ p ∈ near x, 0 ≤ p ∧ p < m) (w : List Int) : ((extW near i j w).map (cnt m i j)).sum ≤ cnt m i j w := by
  have hs : ∀ (l : List (List Int)) (n : Nat), (∀ c ∈ l, cnt m i j c ≤ n) → (l.map (cnt m i j)).sum ≤ l.length * n := fun l n => by
    induction l with
    | nil => exact fun _ => Nat.zero_le _
    | cons c r ih =>
      intro h
      have h1 := h c (List.mem_cons_self ..)
      have h2 := ih fun d hd => h d (List.mem_cons_of_mem _ hd)
      rw [List.length_cons, Nat.succ_mul, List.map_cons, List.sum_cons]
      omega
  have hl : (extW near i j w).length ≤ rem m (i :: j :: w) := by
    unfold extW
    rw [List.length_map]
    exact hn _ _
  have hc : ∀ c ∈ extW near i j w, cnt m i j c ≤ fac (rem m (i :: j :: w) - 1) := fun c hc => by
    obtain ⟨p, hp, rfl⟩ := List.mem_map.mp hc
    obtain ⟨h1, h2⟩ := List.mem_filter.mp hp
    have h3 : p ∉ i :: j :: w := fun z => by rw [decide_eq_true z] at h2; cases h2
    have h4 := rem_child (m := m) (hb _ p h1).1 (hb _ p h1).2 h3
    refine fac_le ?_
    show rem m ((i :: j :: w) ++ [p]) ≤ _
    omega
  have h1 := hs _ _ hc
  unfold cnt
  generalize rem m (i :: j :: w) = R at h1 hl
  cases R with
  | zero =>
    have e : extW near i j w = [] := List.eq_nil_of_length_eq_zero (by omega)
    rw [e]; exact Nat.zero_le _
  | succ R =>
    have h2 : (extW near i j w).length * fac R ≤ (R + 1) * fac R := Nat.mul_le_mul_right _ hl
    exact Nat.le_trans h1 h2
theorem Walk.count (hn : ∀ (x : Int) (c : Int → Bool), ((near x).filter c).length ≤ ((List.range m).filter fun (q : Nat) => c q).length) (hb : ∀ x, ∀ p ∈ near x, 0 ≤ p ∧ p < m) {t f r : List (List Int)} (h : Walk near i j k t f r) : r.length ≤ f.length + (t.map (cnt m i j)).sum := by
  induction h with
  | done f => exact Nat.le_add_right _ _
  | @hit t f r w h1 h2 _ ih =>
    rw [List.length_append, List.length_singleton] at ih
    rw [List.map_append, List.sum_append]
    have := fac_pos (rem m (i :: j :: w))
    have e : ([w].map (cnt m i j)).sum = fac (rem m (i :: j :: w)) := by simp [cnt]
    rw [e]; omega
  | @go t f r w h1 _ ih =>
    rw [List.map_append, List.sum_append] at ih ⊢
    have := cnt_ext (i := i) (j := j) hn hb w
    have e : ([w].map (cnt m i j)).sum = cnt m i j w := by simp
    rw [e]; omega
theorem Walk.good (hb : ∀ x, ∀ p ∈ near x, 0 ≤ p ∧ p < m) {t f r : List (List Int)} (h : Walk near i j k t f r) (ht : ∀ w ∈ t, (∀ p ∈ w, 0 ≤ p ∧ p < m) ∧ w.length + rem m w ≤ m) (hf : ∀ w ∈ f, (∀ p ∈ w, 0 ≤ p ∧ p < m) ∧ w.length ≤ m) : ∀ w ∈ r, (∀ p ∈ w, 0 ≤ p ∧ p < m) ∧ w.length ≤ m := by
  induction h with
  | done f => exact hf
  | @hit t f r w h1 h2 _ ih =>
    refine ih (fun v hv => ht v (List.mem_append_left _ hv)) fun v hv => ?_
    rcases List.mem_append.mp hv with z | z
    · exact hf v z
    · rw [List.mem_singleton.mp z]
      have := ht w (List.mem_append_right _ (List.mem_singleton.mpr rfl))
      exact ⟨this.1, by omega⟩
  | @go t f r w h1 _ ih =>
    refine ih (fun v hv => ?_) hf
    rcases List.mem_append.mp hv with z | z
    · exact ht v (List.mem_append_left _ z)
    · obtain ⟨p, hp, rfl⟩ := List.mem_map.mp z
      obtain ⟨p1, p2⟩ := List.mem_filter.mp hp
      have hw := ht w (List.mem_append_right _ (List.mem_singleton.mpr rfl))
      have hp' := hb _ p p1
      have h3 : p ∉ w := fun y => by
        have : p ∈ i :: j :: w := List.mem_cons_of_mem _ (List.mem_cons_of_mem _ y)
        rw [decide_eq_true this] at p2; cases p2
      have := rem_child (m := m) hp'.1 hp'.2 h3
      refine ⟨fun q hq => ?_, by rw [List.length_append, List.length_singleton]; omega⟩
      rcases List.mem_append.mp hq with y | y
      · exact hw.1 q y
      · rw [List.mem_singleton.mp y]; exact hp'
end
end Cal


/-! Own text: l.extend(list) whose list is told by a property; zip in a comprehension within another; two names with a test. -/
namespace Cal
open PySem PySem.Spec PyProof.Rows L2
section
variable {B : Bs} {ρ : Ro} {μ : Mu} {τ : List (V × D)} {σ : L2.St} {H : Hp} {te : TE} {tt : TT} {p : Addr} {D0 : Ends} {j k : Nat} {ds : List D} {P : List D → Prop} {tz : TS}
theorem x_extendV (a : At B ρ μ τ σ H) (hs : ρ[j]? = some (some (.raw (.ref p)))) (hm : μ[k]? = some (p, .lst ds)) (he : Ev B te ρ μ fun d => ∃ es, d = .lst es ∧ P es) (hz : ∀ es, P es → ds.length + es.length ≤ sizeLine) (q : ∀ es H', P es → At B ρ (μ.set k (p, .lst (ds ++ es))) τ σ H' → D0.nx σ H') :
    tDrop (tBM B.K "list" rExtend (tVar j) (tCons te tNil)) D0 σ H := by
  obtain ⟨v0, h1, h2⟩ := a.var hs
  obtain ⟨G, g, hv⟩ := h2.top
  have hv' : v0 = V.ref p := hv
  subst hv'
  obtain ⟨vs, e1, k1⟩ := (g.cells _ (List.mem_of_getElem? hm)).2.2.2
  refine ⟨_, h1, .inl ⟨rfl, _, .inl (.inl e1)⟩, he.go a fun u H1 d1 ⟨es, hd, hP⟩ a1 => ?_⟩
  subst hd
  obtain ⟨G1, g1, b, us, rfl, eb, ku⟩ := id a1.top
  obtain ⟨vs1, e2, k2⟩ := (g1.cells _ (List.mem_of_getElem? hm)).2.2.2
  refine ⟨p, b, vs1, us, rfl, rfl, e2, g1.sub _ _ eb, by rw [k2.length, ku.length]; exact hz es hP, q es _ hP ⟨G1, AtG.write (c' := .lst (ds ++ es)) g1 hm ⟨_, upd_same, k2.append ku⟩⟩⟩
theorem y_extendV (a : At B ρ μ τ σ H) (hs : ρ[j]? = some (some (.raw (.ref p)))) (hm : μ[k]? = some (p, .lst ds)) (he : Ev B te ρ μ fun d => ∃ es, d = .lst es ∧ P es) (hz : ∀ es, P es → ds.length + es.length ≤ sizeLine) (q : ∀ es H', P es → At B ρ (μ.set k (p, .lst (ds ++ es))) τ σ H' → tz D0 σ H') :
    tSeq (tDrop (tBM B.K "list" rExtend (tVar j) (tCons te tNil))) tz D0 σ H := x_extendV (D0 := { D0 with nx := tz D0 }) a hs hm he hz q
theorem ed_lc2F {wi : TI} {k l : Nat} {vs : List Nat} {n : Nat} {f x y h : Nat → D} (c : Nat → Bool) (hi : Ei B wi ρ μ n f) (hf : ∀ i, i < n → f i = .tup [x i, y i]) (hk : k ∈ vs) (hl : l ∈ vs) (hn : n ≤ 1000000) (ht : ∀ i, i < n → ∀ cl, Eb B tt (((wipeR ρ vs).set k (some (x i))).set l (some (y i))) (cl :: μ) (c i)) (he : ∀ i, i < n → c i = true → ∀ cl, Ed B te (((wipeR ρ vs).set k (some (x i))).set l (some (y i))) (cl :: μ) (h i)) :
    Ed B (tLc wi (gTup B.K 2 (gCons (gName k) (gCons (gName l) gNil))) tt te vs) ρ μ (.lst (((List.range n).filter c).map h)) :=
  ev_lc hi (fun i => ((wipeR ρ vs).set k (some (x i))).set l (some (y i))) (js := [k, l]) (fun z hz => by
    rcases List.mem_cons.mp hz with e | hz
    · rw [e]; exact hk
    · rw [List.mem_singleton.mp hz]; exact hl) hn c (fun i d => d = h i) (fun i hi2 cl => by rw [hf i hi2]; exact gd_tup2) ht he fun ds h => by rw [h.det]
end
section
variable {B : Bs} {ρ : Ro} {μ : Mu} {ta te : TE} {tr t : TA} {n : Nat} {Q : D → Prop} {Ps : List D → Prop}
/-- args that all keep one property -/
theorem ea_nilQ : Ea B tNil ρ μ (fun ds => (∀ d ∈ ds, Q d) ∧ ds.length = 0) := ea_nil.imp fun ds e => by
  rw [e]; exact ⟨fun d hd => (nomatch hd), rfl⟩
theorem ea_consQ (h : Ev B ta ρ μ Q) (hr : Ea B tr ρ μ (fun ds => (∀ d ∈ ds, Q d) ∧ ds.length = n)) : Ea B (tCons ta tr) ρ μ (fun ds => (∀ d ∈ ds, Q d) ∧ ds.length = n + 1) := ea_cons h fun d hd => hr.imp fun ds hds => ⟨fun e he => by
  rcases List.mem_cons.mp he with z | z
  · rw [z]; exact hd
  · exact hds.1 e z, by rw [List.length_cons, hds.2]⟩
theorem xl_lstP (h : Ea B t ρ μ Ps) (hl : ∀ ds, Ps ds → ds.length ≤ sizeLine) : Xv B (tLst t) ρ μ (fun d μ' => ∃ p ds, d = .raw (.ref p) ∧ μ' = (p, .lst ds) :: μ ∧ Ps ds) := fun τ σ H a Q q => h τ σ H a _ fun vs H1 es hes hlen a1 => by
  refine ⟨by rw [hlen]; exact hl es hes, fun p hp => q _ _ _ _ ⟨p, es, rfl, rfl, hes⟩ ?_⟩
  have a2 := (At.newCell (c := .lst es) (o := .lst vs) a1 hp fun G k => ⟨vs, upd_same, DtA.of_zip hlen fun q hq => k q (List.mem_append_left _ hq)⟩).1
  exact At.flat (At.sub a2 fun z hz => List.mem_append_right _ hz) fun _ => rfl
end
theorem ev_dN {K : PySem.W.Frag} {dk l : Addr} {G0 H0 : Hp} {ρ : Ro} {μ : Mu} {j : Nat} {P : D → Prop} {pre : List D → Prop} {post : List D → D → Prop} {t : TA} {E : XK} {Ps : List D → Prop} (h : ρ[j]? = some (some (.raw (.ref dk)))) (ht : Ea (Bd K dk l 64 G0 H0) t ρ μ Ps) (hpre : ∀ es, Ps es → pre es) (hpost : ∀ es e, Ps es → post es e → P e) : Ev (Bd K dk l 64 G0 H0) (tCall (dsp K pre post) [] E (tCons (tVar j) t)) ρ μ P :=
  ev_d (Ps := Ps) (ea_cons (P := fun d => d = .raw (.ref dk)) (ed_var h) fun d e => ht.imp fun es hes => ⟨es, by rw [e], hes⟩) hpre hpost
theorem pi_zipAK {X : Cx} {K : PySem.W.Frag} {e e2 : Expr} {ta : TA} {p pos tpos : Pos} {elts : List Expr} {kk : Nat} (hK : X.K = K) (hg : Gl X "zip") (hm : X.mg "zip" = none) (ha : PA X [e, e2] ta)
    (hs : starEach [e, e2] X.env = (false, eval e X.env) :: starEach [e2] X.env := by rfl) (hpl : (backTo pos (starEach [e2] X.env)).any (·.1) = false := by rfl) :
    PI X (.Tuple elts kk tpos) (.Call (.Name "zip" p) [e, e2] [] pos) (RZ.iZipA K ta) := hK ▸ RZ.pi_zipA hg hm ha hs hpl
end Cal


namespace Cal
open PySem PySem.Spec PyProof.Rows L2
abbrev s_is_place : Stmt := topS 25
abbrev n_is_place : List Str := ["placement", "thing"]
theorem sc_is_place : FnScope n_is_place ["placement", "thing"] (defScope s_is_place) := ⟨rfl, rfl, rfl, by decide +kernel, rfl, by decide +kernel, by decide +kernel⟩
abbrev s_check_place : Stmt := topS 30
abbrev n_check_place : List Str := ["placement", "place"]
theorem sc_check_place : FnScope n_check_place ["placement", "place"] (defScope s_check_place) := ⟨rfl, rfl, rfl, by decide +kernel, rfl, by decide +kernel, by decide +kernel⟩
abbrev s_check_plan : Stmt := topS 33
abbrev n_check_plan : List Str := ["placement", "plan"]
theorem sc_check_plan : FnScope n_check_plan ["placement", "plan"] (defScope s_check_plan) := ⟨rfl, rfl, rfl, by decide +kernel, rfl, by decide +kernel, by decide +kernel⟩
abbrev s_are_counts_of : Stmt := topS 14
abbrev n_are_counts_of : List Str := ["thing", "length", "item"]
theorem sc_are_counts_of : FnScope n_are_counts_of ["thing", "length"] (defScope s_are_counts_of) := ⟨rfl, rfl, rfl, by decide +kernel, rfl, by decide +kernel, by decide +kernel⟩
abbrev s_are_counts : Stmt := topS 35
abbrev n_are_counts : List Str := ["placement", "plan", "place", "thing"]
theorem sc_are_counts : FnScope n_are_counts ["placement", "plan", "place", "thing"] (defScope s_are_counts) := ⟨rfl, rfl, rfl, by decide +kernel, rfl, by decide +kernel, by decide +kernel⟩
abbrev s_is_update_of : Stmt := topS 37
abbrev n_is_update_of : List Str := ["placement", "plan", "thing", "site", "register", "counts"]
theorem sc_is_update_of : FnScope n_is_update_of ["placement", "plan", "thing"] (defScope s_is_update_of) := ⟨rfl, rfl, rfl, by decide +kernel, rfl, by decide +kernel, by decide +kernel⟩
abbrev s_is_update : Stmt := topS 36
abbrev n_is_update : List Str := ["placement", "plan", "thing"]
theorem sc_is_update : FnScope n_is_update ["placement", "plan", "thing"] (defScope s_is_update) := ⟨rfl, rfl, rfl, by decide +kernel, rfl, by decide +kernel, by decide +kernel⟩
theorem Ei.congr {B : Bs} {wi : TI} {ρ : Ro} {μ : Mu} {n : Nat} {f g : Nat → D} (h : Ei B wi ρ μ n f) (k : ∀ i, i < n → f i = g i) : Ei B wi ρ μ n g := fun τ σ H a Rr q => h τ σ H a Rr fun J H1 τ1 hsub a1 hJ => q J H1 τ1 hsub a1 fun i ρ' μ' τ' σ' H' hs a2 => by
  obtain ⟨s1, s2⟩ := hJ i ρ' μ' τ' σ' H' hs a2
  refine ⟨s1, fun hi => ?_⟩
  obtain ⟨s3, s4⟩ := s2 hi
  exact ⟨s3, fun x H2 hy => by rw [← k i hi]; exact s4 x H2 hy⟩
theorem ei_tupM {B : Bs} {tl : TE} {ρ : Ro} {μ : Mu} {α : Type} (g : α → D) (z : α) {l : List α} (h : Ed B tl ρ μ (.tup (l.map g))) : Ei B (iTup B.K tl) ρ μ l.length (fun i => g (l.getD i z)) := by
  have := ei_tup h
  rw [List.length_map] at this
  exact this.congr fun i hi => getD_map' g z l hi
theorem ei_lstM {B : Bs} {tl : TE} {ρ : Ro} {μ : Mu} {α : Type} (g : α → D) (z : α) {l : List α} (h : Ed B tl ρ μ (.lst (l.map g))) : Ei B (iList B.K tl) ρ μ l.length (fun i => g (l.getD i z)) := by
  have := ei_lst h
  rw [List.length_map] at this
  exact this.congr fun i hi => getD_map' g z l hi
theorem map_range_getP (l : List (Int × Int)) : (List.range l.length).map (fun i => l.getD i (0, 0)) = l := by
  refine List.ext_getElem? fun i => ?_
  rw [List.getElem?_map]
  by_cases hi : i < l.length
  · rw [List.getElem?_range hi, List.getElem?_eq_getElem hi]
    show some (l.getD i (0, 0)) = some l[i]
    rw [List.getD_eq_getElem?_getD, List.getElem?_eq_getElem hi]
    rfl
  · rw [List.getElem?_eq_none (by rw [List.length_range]; omega), List.getElem?_eq_none (by omega)]
    rfl
theorem epairs_le (ss : List (List Str)) : (epairs ss).length ≤ ss.length * ss.length := by
  unfold epairs
  rw [List.length_flatMap]
  have h : ∀ l : List Nat, (l.map fun a : Nat => (((List.range ss.length).filter fun (b : Nat) => !decide (a = b) && !(bothS ss a b).isEmpty).map fun (b : Nat) => ((a : Int), (b : Int))).length).sum ≤ l.length * ss.length := by
    intro l
    induction l with
    | nil => simp
    | cons x r ih =>
      rw [List.map_cons, List.sum_cons, List.length_cons, Nat.add_mul, Nat.one_mul, Nat.add_comm]
      refine Nat.add_le_add ih ?_
      rw [List.length_map]
      exact Nat.le_trans (List.length_filter_le _ _) (by rw [List.length_range]; exact Nat.le_refl _)
  have := h (List.range ss.length)
  rwa [List.length_range] at this
theorem dLt_pair (p q : Int × Int) : dLt (pairD p) (pairD q) = SrtO.lexB p q := by
  obtain ⟨a, b⟩ := p
  obtain ⟨c, d⟩ := q
  unfold dLt PySem.W.dataLt
  rw [show PySem.W.keyToks (py (pairD (a, b))) = [.inl 1, .inl a, .inl 1, .inl b, .inl 0] from rfl, show PySem.W.keyToks (py (pairD (c, d))) = [.inl 1, .inl c, .inl 1, .inl d, .inl 0] from rfl]
  rw [Bool.eq_iff_iff, SrtO.lexB_iff]
  simp [PyProof.Rows.lexLt, itemLt]
  constructor <;> intro h <;> omega
def rwE (r : List (Int × Int)) : D := .tup (r.map pD)
abbrev planD (rows : List (List (Int × Int))) : D := .tup (rows.map rwE)
structure PlanOk (ss : List (List Str)) (cs : List (List Int)) (rows : List (List (Int × Int))) : Prop where
  len : rows.length = ss.length + cs.length
  sub : ∀ r ∈ rows, r.Sublist (epairs ss)
  own : ∀ p : Nat, p < rows.length → ∀ e ∈ epairs ss, (p : Int) ∈ [e.1, e.2] → e ∈ rows.getD p []
theorem epairs_mem {ss : List (List Str)} {e : Int × Int} (he : e ∈ epairs ss) : (0 ≤ e.1 ∧ e.1 < ss.length) ∧ (0 ≤ e.2 ∧ e.2 < ss.length) ∧ sharedS ss e.1 e.2 ≠ [] := by
  obtain ⟨a, ha, he⟩ := List.mem_flatMap.mp he
  obtain ⟨b, hb, rfl⟩ := List.mem_map.mp he
  have h1 := List.mem_range.mp ha
  obtain ⟨h2, h3⟩ := List.mem_filter.mp hb
  have h2 := List.mem_range.mp h2
  rw [Bool.and_eq_true] at h3
  refine ⟨⟨by show (0 : Int) ≤ (a : Int); omega, by show (a : Int) < _; omega⟩, ⟨by show (0 : Int) ≤ (b : Int); omega, by show (b : Int) < _; omega⟩, ?_⟩
  show sharedS ss (a : Int) (b : Int) ≠ []
  have ne : a ≠ b := by simpa using h3.1
  rw [shared_both, if_neg ne]
  intro z
  rw [z] at h3
  exact absurd h3.2 (by decide)
theorem edge_is {ss : List (List Str)} {e : Int × Int} (he : e ∈ epairs ss) : isEdgeD ss (pD e) = true := by
  obtain ⟨⟨a0, a1⟩, ⟨b0, b1⟩, hs⟩ := epairs_mem he
  show (isBelow ss.length (.int e.1) && isBelow ss.length (.int e.2) && !(sharedS ss e.1 e.2).isEmpty) = true
  rw [Bool.and_eq_true, Bool.and_eq_true]
  refine ⟨⟨?_, ?_⟩, ?_⟩
  · show (decide (0 ≤ e.1) && decide (e.1 < (ss.length : Int))) = true
    rw [decide_eq_true a0, decide_eq_true a1]; rfl
  · show (decide (0 ≤ e.2) && decide (e.2 < (ss.length : Int))) = true
    rw [decide_eq_true b0, decide_eq_true b1]; rfl
  · cases h : sharedS ss e.1 e.2 with
    | nil => exact absurd h hs
    | cons x r => rfl
theorem row_is {ss : List (List Str)} {r : List (Int × Int)} (h : r.Sublist (epairs ss)) : areEdgesD ss (rwE r) = true := by
  show (((List.range (r.map pD).length).all fun i => isEdgeD ss ((r.map pD).getD i .non)) && ascD (r.map pD)) = true
  rw [Bool.and_eq_true]
  refine ⟨List.all_eq_true.mpr fun i hi => ?_, List.all_eq_true.mpr fun i hi => ?_⟩
  · have hi := List.mem_range.mp hi
    rw [List.length_map] at hi
    rw [getD_map' pD (0, 0) r hi]
    exact edge_is (h.subset (getD_in hi))
  · have hi := List.mem_range.mp hi
    rw [List.length_map] at hi
    rw [getD_map' pD (0, 0) r (by omega), getD_map' pD (0, 0) r (by omega)]
    show dLt (pairD (r.getD i (0, 0))) (pairD (r.getD (i + 1) (0, 0))) = true
    rw [dLt_pair]
    have pw := (epairs_asc ss).sublist h
    have := List.pairwise_iff_getElem.mp pw i (i + 1) (by omega) (by omega) (by omega)
    rw [List.getD_eq_getElem?_getD, List.getD_eq_getElem?_getD, List.getElem?_eq_getElem (by omega), List.getElem?_eq_getElem (by omega)]
    exact this
theorem items_row (r : List (Int × Int)) : itemsP (rwE r) = r := by
  show (r.map pD).map asP = r
  rw [List.map_map]
  exact (List.map_congr_left fun e _ => rfl).trans (List.map_id r)
theorem row_at {rows : List (List (Int × Int))} {p : Nat} (hp : p < rows.length) : (rows.map rwE).getD p .non = rwE (rows.getD p []) := getD_map' rwE [] rows hp
theorem plan_is {ss : List (List Str)} {cs : List (List Int)} {rows : List (List (Int × Int))} (h : PlanOk ss cs rows) : isPlanD ss cs (planD rows) = true := by
  show (decide (((rows.map rwE).length : Int) = ss.length + cs.length) && (((List.range (rows.map rwE).length).all fun p => areEdgesD ss ((rows.map rwE).getD p .non)) && ownIn ss (rows.map rwE))) = true
  have hl := h.len
  rw [List.length_map]
  rw [Bool.and_eq_true, Bool.and_eq_true]
  refine ⟨decide_eq_true (by omega), List.all_eq_true.mpr fun p hp => ?_, List.all_eq_true.mpr fun e he => ?_⟩
  · have hp := List.mem_range.mp hp
    rw [row_at hp]
    exact row_is (h.sub _ (getD_in hp))
  · obtain ⟨⟨a0, a1⟩, ⟨b0, b1⟩, _⟩ := epairs_mem he
    rw [Bool.and_eq_true]
    refine ⟨decide_eq_true ?_, decide_eq_true ?_⟩
    · rw [row_at (by omega), items_row]
      exact h.own _ (by omega) e he (by rw [show ((e.1.toNat : Nat) : Int) = e.1 by omega]; exact List.mem_cons_self ..)
    · rw [row_at (by omega), items_row]
      exact h.own _ (by omega) e he (by rw [show ((e.2.toNat : Nat) : Int) = e.2 by omega]; exact List.mem_cons_of_mem _ (List.mem_cons_self ..))
theorem epairs_49 {ss : List (List Str)} (h : ss.length ≤ 7) : (epairs ss).length ≤ 49 := Nat.le_trans (epairs_le ss) (Nat.mul_le_mul h h)
theorem sm_plan {ss : List (List Str)} {cs : List (List Int)} {rows : List (List (Int × Int))} (h : PlanOk ss cs rows) (m7 : ss.length + cs.length ≤ 7) : Sm (planD rows) := by
  have hl := h.len
  refine ⟨by rw [List.length_map]; omega, SmA.of fun d hd => ?_⟩
  obtain ⟨r, hr, rfl⟩ := List.mem_map.mp hd
  have hs := h.sub r hr
  refine ⟨by rw [List.length_map]; have := hs.length_le; have := epairs_49 (ss := ss) (by omega); omega, SmA.of fun d hd => ?_⟩
  obtain ⟨e, he, rfl⟩ := List.mem_map.mp hd
  obtain ⟨⟨a0, a1⟩, ⟨b0, b1⟩, _⟩ := epairs_mem (hs.subset he)
  have b : ∀ x : Int, 0 ≤ x → x < 7 → Sm (.int x) := fun x h0 h7 => Nat.lt_of_lt_of_le (show x.natAbs < 7 by omega) (by decide)
  exact ⟨by show 2 ≤ 1000000; decide, b _ a0 (by omega), b _ b0 (by omega), True.intro⟩
section
variable {P : Program} {w : World} {K : PySem.W.Frag} {mg : Str → Option Value} {base : Heap} {f : Addr} {fd : FuncData}
abbrev BNP21 : List Str := []
variable (bi : ∀ x, x ∈ BNP21 → mg x = none)
include bi in
theorem ok_is_place (F : Fun K "is_place" "is_place" s_is_place f fd) (c_is_below : C8.Cal P w K mg base 2 "is_below" (sp_is_below K) []) (c_count_places : C8.Cal P w K mg base 1 "count_places" (sp_count_places K) []) : FnOk P w K mg base CX0 3 f fd ["placement", "thing"] (sp_is_place K) := by
  refine F.ok sc_is_place (fun vs H Q E h => ?_) (fun cdv A outer s H vs Q E hr h => ?_)
  · obtain ⟨G, ds, h1, ⟨ss, cs, d, rfl, _⟩, _⟩ := h
    exact h1.length
  · have hu := hu_of hr
    obtain ⟨G, ds, ⟨ss, cs, d, rfl, hp, hd⟩, hlen, a, hq⟩ := fsp_start locT n_is_place h
    refine ⟨_, (pss_one (ps_ret (C8.pe_c c_is_below hr (by first | decide | omega) (by rfl) (pa_cons (pv 1) (pa_cons (C8.pe_c c_count_places hr (by first | decide | omega) (by rfl) (pa_cons (pv 0) pa_nil)) pa_nil))))), ?_⟩
    exact x_ret a (ed_p (d := .bl (isBelow (ss.length + cs.length) d)) (ead_cons (ed_var rfl) (ead_cons (ed_p (d := .int (ss.length + cs.length)) (ead_cons (ed_var rfl) ea_nil) ⟨_, _, rfl, hp⟩ (by rintro e ⟨ss', cs', e1, rfl⟩; obtain ⟨rfl, rfl⟩ := plD_zero e1; rfl)) ea_nil)) ⟨_, _, rfl, hd⟩ (by rintro e ⟨d', n', e1, rfl⟩; cases e1; rfl)) fun v H' d' hd' a' => hq ⟨ss, cs, d, rfl, hd'⟩ a'
include bi in
theorem ok_check_place (F : Fun K "check_place" "check_place" s_check_place f fd) (c_is_place : C8.Cal P w K mg base 3 "is_place" (sp_is_place K) []) : FnOk P w K mg base CX0 4 f fd ["placement", "place"] (sp_check_place K) := by
  refine F.ok sc_check_place (fun vs H Q E h => ?_) (fun cdv A outer s H vs Q E hr h => ?_)
  · obtain ⟨G, ds, h1, ⟨ss, cs, p, rfl, _⟩, _⟩ := h
    exact h1.length
  · have hu := hu_of hr
    obtain ⟨G, ds, ⟨ss, cs, p, rfl, hp, ⟨h0, h1⟩, h2⟩, hlen, a, hq⟩ := fsp_start locT n_check_place h
    refine ⟨_, (pss_one (ps_if (pt_not (pt_val (C8.pe_c c_is_place hr (by first | decide | omega) (by rfl) (pa_cons (pv 0) (pa_cons (pv 1) pa_nil))))) (pss_one ps_nv) pss_nil)), ?_⟩
    refine x_ifb a (eb_not (eb_B (ed_p (d := .bl (isBelow (ss.length + cs.length) (.int p))) (ead_cons (ed_var rfl) (ead_cons (ed_var rfl) ea_nil)) ⟨_, _, _, rfl, hp, Nat.lt_of_lt_of_le (show p.natAbs < 2000000 by omega) (by decide)⟩ (by
      rintro e ⟨ss', cs', d', e1, rfl⟩
      injection e1 with e1 e2
      injection e2 with e2 _
      obtain ⟨rfl, rfl⟩ := plD_inj e1
      rw [e2])))) (fun hb H1 a1 => ?_) fun hb H1 a1 => x_next (hq rfl (At.flat a1 fun _ => rfl))
    have : isBelow (ss.length + cs.length) (.int p) = true := by
      show (decide (0 ≤ p) && decide (p < (ss.length : Int) + cs.length)) = true
      rw [decide_eq_true h0, decide_eq_true h1]; rfl
    rw [this] at hb; cases hb
abbrev sp_check_plan (K : PySem.W.Frag) : Sp := psp K (fun ds => ∃ ss cs d, ds = [plD ss cs, d] ∧ PlOk ss cs ∧ PlL ss cs ∧ Sm d ∧ isPlanD ss cs d = true) (fun ds e => e = .non)
include bi in
theorem ok_check_plan (F : Fun K "check_plan" "check_plan" s_check_plan f fd) (c_is_plan : C8.Cal P w K mg base 8 "is_plan" (sp_is_plan K) []) : FnOk P w K mg base CX0 9 f fd ["placement", "plan"] (sp_check_plan K) := by
  refine F.ok sc_check_plan (fun vs H Q E h => ?_) (fun cdv A outer s H vs Q E hr h => ?_)
  · obtain ⟨G, ds, h1, ⟨ss, cs, d, rfl, _⟩, _⟩ := h
    exact h1.length
  · have hu := hu_of hr
    obtain ⟨G, ds, ⟨ss, cs, d, rfl, hO, hL, hS, hp⟩, hlen, a, hq⟩ := fsp_start locT n_check_plan h
    refine ⟨_, (pss_one (ps_if (pt_not (pt_val (C8.pe_c c_is_plan hr (by first | decide | omega) (by rfl) (pa_cons (pv 0) (pa_cons (pv 1) pa_nil))))) (pss_one ps_nv) pss_nil)), ?_⟩
    refine x_ifb a (eb_not (eb_B (ed_p (d := .bl (isPlanD ss cs d)) (ead_cons (ed_var rfl) (ead_cons (ed_var rfl) ea_nil)) ⟨_, _, _, rfl, hO, hL, hS⟩ (by
      rintro e ⟨ss', cs', d', e1, rfl⟩
      obtain ⟨rfl, rfl, rfl⟩ := plD_any e1; rfl)))) (fun hb H1 a1 => ?_) fun hb H1 a1 => x_next (hq rfl (At.flat a1 fun _ => rfl))
    rw [hp] at hb; cases hb
end
end Cal


namespace Cal
open PySem PySem.Spec PyProof.Rows L2
abbrev s__law_plan : Stmt := topS 52
abbrev n__law_plan : List Str := ["deck", "world", "edges", "found", "way", "place", "few", "some", "edge"]
theorem sc__law_plan : FnScope n__law_plan ["deck", "world"] (defScope s__law_plan) := ⟨rfl, rfl, rfl, by decide +kernel, rfl, by decide +kernel, by decide +kernel⟩
section
variable {P : Program} {w : World} {K : PySem.W.Frag} {mg : Str → Option Value} {base : Heap} {f : Addr} {fd : FuncData}
abbrev BNk : List Str := ["range", "tuple"]
variable (bi : ∀ x, x ∈ BNk → mg x = none)
abbrev sp__law_plan (K : PySem.W.Frag) : Sp := dsp K (fun es => ∃ ss cs, es = [worldD ss cs] ∧ PlL ss cs) (fun es e => ∃ ss cs rows, es = [worldD ss cs] ∧ e = planD rows ∧ PlanOk ss cs rows)
include bi in
theorem ok__law_plan (F : Fun K "_law_plan" "_law_plan" s__law_plan f fd) (c__law_draw : C8.Cal P w K mg base 1 "_law_draw" (sp__law_draw K) []) (c__law_edges : C8.Cal P w K mg base 1 "_law_edges" (sp__law_edges K) []) : FnOk P w K mg base CX0 2 f fd ["deck", "world"] (sp__law_plan K) := by
  refine F.ok sc__law_plan (fun vs H Q E h => ?_) (fun cdv A outer s H vs Q E hr h => ?_)
  · obtain ⟨dk, l, G, ds, h1, ⟨es, rfl, ss, cs, rfl, _⟩, _⟩ := h
    exact h1.length
  · have hu := hu_of hr
    obtain ⟨dk, l, G, es, ⟨ss, cs, rfl, hL⟩, hlen, a, hq⟩ := dsp_start n__law_plan h
    refine ⟨_, (pss_cons (ps_par3 (i := 2) (j := 3) (l := 4) (by rfl) sc__law_plan.nd rfl rfl rfl (by decide) (by decide) (by decide) rfl rfl rfl (pa_cons (C8.pe_c c__law_edges hr (by first | decide | omega) (by rfl) (pa_cons (pv 1) pa_nil)) (pa_cons (pe_lst pa_nil) (pa_cons (C8.pe_c c__law_draw hr (by first | decide | omega) (by rfl) (pa_cons (pv 0) (pa_cons pe_int pa_nil))) pa_nil))) (by rfl))
      (pss_cons (ps_for PassesOwn.never rfl (pi_range1 (by rfl) (bi "range" (by decide +kernel)) (pa_cons (pe_dget hu (pv 1) pe_str (fun _ _ => rfl)) pa_nil)) (pg_name (i := 5) sc__law_plan.nd rfl (by first | exact (.inl rfl) | exact (.inr rfl)))
        (pss_cons (ps_asg (pe_ifExp (pt_cmpR (r := rEqD K) (u_eq hr.units) (pv 4) pe_int (nomark _)) pe_int (pe_ifExp (pt_cmpR (r := rEqD K) (u_eq hr.units) (pv 4) pe_int (nomark _)) pe_int pe_int)) (pg_name (i := 6) sc__law_plan.nd rfl (by first | exact (.inl rfl) | exact (.inr rfl))))
      (pss_cons (ps_setLc (i := 7) (own := [("edge", 8)]) (g := gName 8) rfl sc__law_plan.nd rfl rfl (sw_true rfl rfl rfl (by decide +kernel)) (pi_tup (pv 2)) (blkOk_by (N := n__law_plan) (sc := defScope s__law_plan) (by decide +kernel)) (fun _ _ _ _ _ => (pg_name (i := 8) sc__law_plan.nd rfl (by first | exact (.inl rfl) | exact (.inr rfl)))) (fun _ _ _ _ _ => (pts_one (PW.pt (pw_or (pt_cmpR (r := rIn K false) op_in_seq (pv 5) (pv 8) (by rfl)) (pw_or (pt_cmpR (r := rEqD K) (u_eq hr.units) (pv 6) pe_int (nomark _)) (pw_or1 (PW.pt (pw_and (pt_cmpR (r := rEqD K) (u_eq hr.units) (pv 6) pe_int (nomark _)) (pw_and1 (pt_cmpR (r := rEqD K) (u_eq hr.units) (C8.pe_c c__law_draw hr (by first | decide | omega) (by rfl) (pa_cons (pv 0) (pa_cons pe_int pa_nil))) pe_int (nomark _))))))))))) (fun _ _ _ _ _ => (pv 8)))
      (pss_one (ps_expr (pe_bm PySem.F.plainAttrs_list PySem.F.slot_list_append PySem.F.type_list_append mt_append (pv 3) (pa_cons (pe_callTy (T := "tuple") (r := rTupOf K) u_tuple (by rfl) (bi "tuple" (by decide +kernel)) (by decide +kernel) (pa_cons (pv 7) pa_nil)) pa_nil)))))))
      (pss_one (ps_ret (pe_callTy (T := "tuple") (r := rTupOf K) u_tuple (by rfl) (bi "tuple" (by decide +kernel)) (by decide +kernel) (pa_cons (pv 3) pa_nil)))))), ?_⟩
    have l1 := hL.ns
    have l2 := hL.nc
    have hel : (epairs ss).length ≤ 3600 := Nat.le_trans (epairs_le ss) (Nat.mul_le_mul hL.ns hL.ns)
    refine y_par3 (R1 := fun d μ' => d = rwE (epairs ss) ∧ μ' = []) (R2 := fun _ μ1 d μ' => ∃ p, d = .raw (.ref p) ∧ μ' = (p, .lst []) :: μ1) (R3 := fun _ μ2 d μ' => (∃ y : Int, d = .int y) ∧ μ' = μ2)
      a (ed_p (ead_cons (ed_var rfl) ea_nil) ⟨_, _, rfl, hL⟩ (by
        rintro e ⟨ss', cs', e1, rfl⟩
        injection e1 with e1 _
        rw [(world_inj e1).1]; rfl)) (fun d1 μ1 _ => xl_nil) (fun d1 μ1 d2 μ2 _ _ => ed_d rfl (ead_cons ed_int ea_nil) ⟨_, rfl, by decide, by decide⟩ (by rintro e ⟨n, r, _, rfl, _⟩; exact ⟨r, rfl⟩)) fun d1 μ1 d2 μ2 d3 μ3 σ1 H1 hh1 hh2 hh3 a1 => ?_
    obtain ⟨rfl, rfl⟩ := hh1
    obtain ⟨pf, rfl, rfl⟩ := hh2
    obtain ⟨⟨y, rfl⟩, rfl⟩ := hh3
    have em : ((ss.length : Int) + cs.length).toNat = ss.length + cs.length := by omega
    refine y_forN a1 (ei_rng1 (ead_cons (Ed.is (ed_dgetK (ed_var rfl) rfl) (show D.int (ss.length + cs.length) = _ from rfl)) ea_nil) ⟨by omega, by omega⟩) (fun i ρ μ => ∃ (pls : List (List (Int × Int))) (x5 x6 x7 x8 : Option D), ρ = [some (.raw (.ref dk)), some (worldD ss cs), some (rwE (epairs ss)), some (.raw (.ref pf)), some (.int y), x5, x6, x7, x8] ∧ μ = [(pf, .lst (pls.map rwE))] ∧ pls.length = i ∧ (∀ l ∈ pls, l.Sublist (epairs ss)) ∧ ∀ p : Nat, p < i → ∀ e ∈ epairs ss, (p : Int) ∈ [e.1, e.2] → e ∈ pls.getD p []) ⟨[], _, _, _, _, rfl, rfl, rfl, (fun l hl => by cases hl), fun p hp => absurd hp (Nat.not_lt_zero _)⟩ (fun i ρ' μ' τ1 σ2 H2 Dn hi hI a2 hnx hct hbk hrt => ?_) fun ρ' μ' σ2 H2 hI a2 => ?_
    · obtain ⟨pls, x5, x6, x7, x8, rfl, rfl, hl1, hl2, hl3⟩ := hI
      rw [em] at hi
      refine y_setV (P := fun d => ∃ x : Int, d = .int x) a2 (ev_if (Pb := fun _ => True) (Et.imp (eb_test (ed_op (ed_var rfl) ed_int rd_eqI)) fun _ _ => True.intro) (fun _ => Ed.ev ed_int ⟨_, rfl⟩) fun _ => ev_if (Pb := fun _ => True) (Et.imp (eb_test (ed_op (ed_var rfl) ed_int rd_eqI)) fun _ _ => True.intro) (fun _ => Ed.ev ed_int ⟨_, rfl⟩) fun _ => Ed.ev ed_int ⟨_, rfl⟩) fun d σ3 H3 hd a3 => ?_
      obtain ⟨x, rfl⟩ := hd
      refine y_setV (P := fun d => ∃ l : List (Int × Int), d = .lst (l.map pD) ∧ l.Sublist (epairs ss) ∧ ∀ e ∈ epairs ss, (i : Int) ∈ [e.1, e.2] → e ∈ l) a3 (ev_lcN (fun n b => (i : Int) ∈ [((epairs ss).getD n (0, 0)).1, ((epairs ss).getD n (0, 0)).2] → b = true) (h := fun n => pD ((epairs ss).getD n (0, 0))) (ei_tupM pD (0, 0) (ed_var rfl)) (by decide) (by omega) (fun n hn cl => et_or (Pa := fun b => b = decide ((i : Int) ∈ [((epairs ss).getD n (0, 0)).1, ((epairs ss).getD n (0, 0)).2])) (eb_test (ed_op (ed_var rfl) (ed_var (d := pD ((epairs ss).getD n (0, 0))) rfl) (rd_inI (is := [((epairs ss).getD n (0, 0)).1, ((epairs ss).getD n (0, 0)).2])))) (fun hf => Et.imp (Pb := fun _ => True) (et_or (Pa := fun _ => True) (Et.imp (eb_test (ed_op (ed_var rfl) ed_int rd_eqI)) fun _ _ => True.intro) (fun _ => et_and (Pa := fun _ => True) (Et.imp (eb_test (ed_op (ed_var rfl) ed_int rd_eqI)) fun _ _ => True.intro) (fun _ => et_test (P := fun d => ∃ b, d = .bl b) (ev_op (P1 := fun d => ∃ r : Int, d = .int r) (P2 := fun d => d = .int 0) (ed_d rfl (ead_cons ed_int ea_nil) ⟨_, rfl, by decide, by decide⟩ (by rintro e ⟨n, r, _, rfl, _⟩; exact ⟨r, rfl⟩)) ed_int fun d1 d2 ⟨r, h1⟩ h2 => by
        subst h1; subst h2
        exact rd_eqI.imp fun d hd => ⟨_, hd⟩) fun d ⟨b, e⟩ => ⟨b, e, True.intro⟩) fun _ => True.intro) fun _ => True.intro) fun b _ z => absurd z (of_decide_eq_false hf.symm)) fun _ _ => rfl) (fun n hn cl => ed_var rfl) fun c hc => ⟨((List.range (epairs ss).length).filter c).map fun n => (epairs ss).getD n (0, 0), by rw [List.map_map]; rfl, ?_, fun e he hp => ?_⟩) fun d σ4 H4 hd a4 => ?_
      · conv => rhs; rw [← map_range_getP (epairs ss)]
        exact List.filter_sublist.map _
      · obtain ⟨n, hn⟩ := List.mem_iff_getElem?.mp he
        have hl := (List.getElem?_eq_some_iff.mp hn).1
        have eg : (epairs ss).getD n (0, 0) = e := by rw [List.getD_eq_getElem?_getD, hn]; rfl
        exact List.mem_map.mpr ⟨n, List.mem_filter.mpr ⟨List.mem_range.mpr hl, hc n hl (by rw [eg]; exact hp)⟩, eg⟩
      · obtain ⟨l', rfl, hl', hown⟩ := hd
        have hll := hl'.length_le
        refine x_appendC (k := 0) a4 rfl rfl (ed_tupL (ed_var rfl)) (by rw [List.length_map]; exact Nat.lt_of_lt_of_le (show pls.length < 1000 by omega) (by decide)) fun H5 a5 => ?_
        refine hnx _ _ _ _ ⟨pls ++ [l'], _, _, _, _, rfl, ?_, by rw [List.length_append, List.length_singleton, hl1], fun m hm => ?_, fun p hp e he hin => ?_⟩ a5
        · rw [List.map_append]; rfl
        · rcases List.mem_append.mp hm with z | z
          · exact hl2 m z
          · rw [List.mem_singleton.mp z]; exact hl'
        · by_cases c : p < i
          · have := hl3 p c e he hin
            rw [List.getD_eq_getElem?_getD] at this ⊢
            rw [List.getElem?_append_left (by omega)]; exact this
          · have e1 : p = i := by omega
            subst e1
            rw [List.getD_eq_getElem?_getD, List.getElem?_append_right (by omega), hl1, Nat.sub_self]
            exact hown e he hin
    · obtain ⟨pls, x5, x6, x7, x8, rfl, rfl, hl1, hl2, hl3⟩ := hI
      have a3 := At.reslot (k := 3) (At.freeze a2) rfl
      exact x_ret a3 (P := fun d => d = planD pls) (ed_tupL (ed_var rfl)) fun v H' d hd a' => hq ⟨ss, cs, pls, rfl, hd, by rw [hl1, em], hl2, fun p hp => hl3 p (by omega)⟩ a'
end
end Cal


namespace Cal
open PySem PySem.Spec PyProof.Rows L2
/-! ### functions that take reprs: they are called where no repr is under way -/
structure OkG (P : Program) (w : World) (K : PySem.W.Frag) (mg : Str → Option Value) (base : Heap) (CX : CXT) (k : Nat) (f : Addr) (fd : FuncData) (ps : List Str) (sp : Sp) : Prop where
  len : ∀ vs H Q E, sp vs H Q E → vs.length = ps.length
  run : ∀ (A : Around) (outer : List Env) (s : Shared) (H : Hp) (args : Args) (us : List Value) (vs : List V) (Q : VK) (E : XK), A.guards = some [] → Room k A → Env0 P w K mg base A outer s H → BindsTo s fd args (ps.zip us) → Vals vs us → sp vs H Q E → codeAny (model P w) A (.call (.ref f) args) (CR CX outer P w H s Q E) s
structure CalGd (P : Program) (w : World) (K : PySem.W.Frag) (mg : Str → Option Value) (base : Heap) (k : Nat) (x : Str) (sp : Sp) (dvs : List V) : Prop where
  ex : ∃ (f : Addr) (fd : FuncData) (ps : List Str) (ds : List Value), OkG P w K mg base CX0 k f fd ps sp ∧ mg x = some (.ref f) ∧ PySem.W.keepIn K (.ref f) = true ∧ Binds K fd ps ds ∧ Vals dvs ds
theorem okG {P : Program} {w : World} {K : PySem.W.Frag} {mg : Str → Option Value} {base : Heap} {x qual : Str} {st : Stmt} {f : Addr} {fd : FuncData} {N ps : List Str} {k : Nat} {sp : Sp} (F : Fun K x qual st f fd) (S : FnScope N ps (defScope st)) (len : ∀ vs H Q E, sp vs H Q E → vs.length = ps.length)
    (body : ∀ (cdv : Value) (A : Around) (outer : List Env) (s : Shared) (H : Hp) (vs : List V) (Q : VK) (E : XK), (A.deeper (envOfC qual (defScope st) s.heap.objs.size f cdv)).guards = some [] → Room k (A.deeper (envOfC qual (defScope st) s.heap.objs.size f cdv)) → sp vs H Q E → ∃ t, PSs (cxOf CX0 P w K mg base N qual (defScope st) f cdv A outer s H E).nox (defBody st) t ∧ t { nx := fun _ H' => Q .non H', rt := Q } (start N vs) H) :
    OkG P w K mg base CX0 (k + 1) f fd ps sp := by
  obtain ⟨oc, od, kV, doc, pm, an, cdv, ct, osl, rfl, lk, hcd⟩ := F.ex
  refine ⟨len, fun A outer s H args us vs Q E hgd hr e0 hb r h => ?_⟩
  obtain ⟨t, h1, h2⟩ := body cdv A outer s H vs Q E hgd (hr.deeper _) h
  exact run_of lk hcd S (len _ _ _ _ h) hr e0 hb r ⟨t, h1.nox, h2⟩
section
variable {X : Cx} {k j : Nat} {x : Str} {p pos : Pos} {e : Expr} {es : List Expr} {sp : Sp} {dvs : List V} {t : TA}
theorem run_fnG {f : Addr} {fd : FuncData} {ps : List Str} {ds : List Value} {pins : List (Addr × Obj)} {σ : L2.St} {H : Hp} {s : Shared} {Q : VK} {us : List Value} {vs : List V} (F : OkG X.prog X.w X.K X.mg X.base CX0 k f fd ps sp) (hgd : X.A.guards = some []) (hr : Room k X.A) (hb : Binds X.K fd ps ds) (hd : Vals dvs ds) (I : L2.Inv X pins σ H s) (r : Vals vs us) (h : sp (vs ++ dvs) H Q C8.E0) : wpAny (model X.prog X.w) X.A (call (.ref f) us) (EP X pins σ Q) X.xe s := by
  have r2 := r.append hd
  have hl := r2.length
  rw [F.len _ _ _ _ h] at hl
  have hc := F.run X.A X.stack s H ⟨us, []⟩ _ _ Q C8.E0 hgd hr I.env0 (hb s us I.kIn hl.symm) r2 h
  refine wpAny_call (codeAny_mono hc fun z s' hq => ?_)
  match z, hq with
  | .error e, hq => exact C8.pass0 (X := X) (E := C8.E0) pins σ H s e s' I hq
  | .ok (.ret u), hq => exact I.after hq
  | .ok .next, hq => exact hq.elim
  | .ok .brk, hq => exact hq.elim
  | .ok .cont, hq => exact hq.elim
theorem pe_cG (c : CalGd X.prog X.w X.K X.mg X.base k x sp dvs) (hgd : X.A.guards = some []) (hr : Room j X.A) (hk : k ≤ j) (hg : Gl X x) (ha : PA X (e :: es) t) (hdb : (x == ("__debug__" : Str)) = false := by decide) (he : starEach (e :: es) X.env = (false, eval e X.env) :: starEach es X.env := by rfl) (hpl : (backTo pos (starEach es X.env)).any (·.1) = false := by rfl) : PE X (.Call (.Name x p) (e :: es) [] pos) (tCall sp dvs C8.E0 t) := by
  obtain ⟨f, fd, ps, ds, F, hm, kp, b, d⟩ := c.ex
  refine ⟨fun pins s σ H Q I h => wpAny_Call_Name_kw (ld_glob I hg hm ?_ hdb)⟩
  exact PySem.W.callWith_K (h₀ := X.base) I.ok.mod.kin kp (thn (ha.run pos pins s σ H _ I h) fun us s1 ⟨vs, H1, I1, r, q⟩ => ⟨I1.kIn, run_fnG F hgd (hr.mono hk) b d I1 r q⟩) he hpl
end
end Cal


/-! Own text: a value of any kind compared with a text. -/
namespace PySem.SeqAt
open AutoSeq1 (wpAny_loadPart')
open MeetsSeq
theorem dict_eq_declines_str' (l : Addr) (es : Array DictEntry) (n : Nat) (dd : Option Addr) (sl : Array (Option Value)) (b : Str) (u : Tok) :
    Meets (Builtin.«dict.__eq__» ⟨[.ref l, .str b u], []⟩) (fun _ R s => s.heap.get? l = some { cls := .type "dict", dict := dd, data := .dict es n, slots := sl } ∧ R (.ok (.ret .notImplemented)) s) :=
  .of_wp fun prog w A R s h => by obtain ⟨hp, g, d, tk, os⟩ := s; obtain ⟨hl, h⟩ := h; have f1 := F.sub_str_dict; wp_walk using wpAny_loadPart' hl, wpAny_load hl; exact ⟨_, rfl, h⟩
theorem str_eq_declines_dict' (b : Str) (u : Tok) (l : Addr) (c : Value) (es : Array DictEntry) (n : Nat) (dd : Option Addr) (sl : Array (Option Value)) :
    Meets (Builtin.«str.__eq__» ⟨[.str b u, .ref l], []⟩) (fun _ R s => s.heap.get? l = some { cls := c, dict := dd, data := .dict es n, slots := sl } ∧ R (.ok (.ret .notImplemented)) s) :=
  .of_wp fun prog w A R s h => by obtain ⟨hp, g, d, tk, os⟩ := s; obtain ⟨hl, h⟩ := h; wp_walk using wpAny_loadPart' hl, wpAny_load hl; exact ⟨_, rfl, h⟩
end PySem.SeqAt
namespace PySem.SeqAt
theorem RcAt.dict_str' {A : Around} {s : Shared} {l : Addr} {o : Obj} {es : Array DictEntry} {n : Nat} (b : Str) (u : Tok) (ho : s.heap.get? l = some o) (hc : o.cls = .type "dict") (hd : o.data = .dict es n) (hu : A.units < cLine) : RcAt A s (.ref l) (.str b u) false := fun prog w E Q h => by
  obtain ⟨cls, dd, data, sl⟩ := o
  simp only at hc hd
  subst hc hd
  exact rc_eq_decline_or (k := false) ⟨_, ho, rfl⟩ (typeIs_str s b u) (by decide) F.sub_str_dict F.slot_dict_eq F.slot_str_eq_refl
    (fun _ hq => call_meets F.slot_dict_eq ⟨_, ho, rfl⟩ F.entry_dict_eq (F.args_dict_eq_2 _ _) (dict_eq_declines_str' l es n dd sl b u) ⟨ho, hq⟩)
    (fun _ hq => call_meets F.slot_str_eq_refl (typeIs_str s b u) F.entry_str_eq (F.args_str_eq_2 _ _) (str_eq_declines_dict' b u l (.type "dict") es n dd sl) ⟨ho, hq⟩)
    (fun _ hq => wpAny_of_eq (rfl : isSame (.ref l) (.str b u) = pure false) hq) (.inr hu) h
end PySem.SeqAt
namespace Cal
open PySem PySem.Spec PyProof.Rows L2
mutual
theorem Sm_ok : ∀ {d : D}, Sm d → okD d = true
  | .non, _ => rfl | .bl _, _ => rfl
  | .int i, h => decide_eq_true h
  | .str s, h => h.2
  | .lst ds, h => by show okA ds = true; exact SmA_ok h.2
  | .tup ds, h => by show okA ds = true; exact SmA_ok h.2
  | .dk kvs, h => by show okK kvs = true; exact SmK_ok h
  | .raw _, h => h.elim | .dt _, h => h.elim | .obj _ _, h => h.elim
theorem SmA_ok : ∀ {ds : List D}, SmA ds → okA ds = true
  | [], _ => rfl
  | d :: ds, ⟨h, t⟩ => by show (okD d && okA ds) = true; rw [Sm_ok h, SmA_ok t]; rfl
theorem SmK_ok : ∀ {ds : List (Key × D)}, SmK ds → okK ds = true
  | [], _ => rfl
  | (.inl i, d) :: ds, ⟨h0, h, t⟩ => by show (decide (i.natAbs < 10 ^ 60) && okD d && okK ds) = true; rw [Sm_ok h, SmK_ok t, decide_eq_true h0]; rfl
  | (.inr s, d) :: ds, ⟨h0, h, t⟩ => by show (PyData.strOk s && okD d && okK ds) = true; rw [Sm_ok h, SmK_ok t, h0]; rfl
end
def isRf : D → Bool | .lst _ => true | .tup _ => true | .dk _ => true | _ => false
/-- whether a value is a text -/
def isSt (d : D) (s : Str) : Bool := match d with | .str t => eqD (.str t) (.str s) | _ => false
/-- == with a text -/
def rEqX (K : PySem.W.Frag) : R2 := fun x y H Q => rEqD K x y H Q ∨ ∃ (d : D) (G : Hp) (s : Str), y = .str s ∧ Same G H ∧ Dt K G d x ∧ okD d = true ∧ isRf d = true ∧ Q (.bl false) H
theorem u_eqX {X : Cx} (hu : X.A.units + 64 < cLine) : OpR X (compareOp .Eq) (rEqX X.K) := OpR.or (op_eqD hu) (by
  intro pins s0 σ0 H x y v u Q I rx ry h
  obtain ⟨d, G, t, rfl, e, hd, ho, hr, q⟩ := h
  have hR := Dt.rds I e d ho hd rx
  obtain ⟨tk, rfl⟩ := ry
  have fin : (SeqAt.RcAt X.A s0 v (.str t tk) false) → wpAny (model X.prog X.w) X.A (compareOp .Eq v (.str t tk)) (EP X pins σ0 Q) X.xe s0 := fun hh => hh X.prog X.w X.xe _ ⟨.bl false, H, I, rfl, q⟩
  have hu' : X.A.units < cLine := by omega
  cases d with
  | lst ds => cases hR with | lst k1 k2 k3 k4 => exact fin (SeqAt.RcAt.list_str t tk ⟨_, k1, k2, _, k3⟩ hu')
  | tup ds => cases hR with | tup k1 k2 k3 k4 => exact fin (SeqAt.RcAt.tuple_str t tk ⟨_, k1, k2, _, k3⟩ hu')
  | dk ks => cases hR with | dk k1 k2 k3 k4 k5 k6 => exact fin (SeqAt.RcAt.dict_str' t tk k1 k2 k3 hu')
  | non => cases hr
  | bl b => cases hr
  | int i => cases hr
  | str s => cases hr
  | raw u => cases hr
  | dt u => cases hr
  | obj u x => cases hr)
section
variable {B : Bs} {ρ : Ro} {μ : Mu} {d : D} {s : Str}
theorem rd_eqX (h : Sm d) (hs : PyData.strOk s = true) : RD B (rEqX B.K) ρ μ d (.str s) (fun e => e = .bl (isSt d s)) := by
  have flat : plain d = true → dep d ≤ 64 → eqD d (.str s) = isSt d s → RD B (rEqX B.K) ρ μ d (.str s) (fun e => e = .bl (isSt d s)) := fun h1 h2 h3 => by
    rw [← h3]
    exact RD.inl (rd_eqD h1 hs h2 (Nat.zero_le _))
  have ref : isRf d = true → isSt d s = false → RD B (rEqX B.K) ρ μ d (.str s) (fun e => e = .bl (isSt d s)) := fun h1 h2 => by
    rw [h2]
    exact rd_flat (fun _ => rfl) fun G H x y e a b Q q => .inr ⟨d, G, s, b, e, a, Sm_ok h, h1, q⟩
  cases d with
  | non => exact flat rfl (Nat.zero_le _) (by simp [eqD, py, PyData.eqv, isSt])
  | bl b => exact flat rfl (Nat.zero_le _) (by simp [eqD, py, PyData.eqv, isSt])
  | int i => exact flat rfl (Nat.zero_le _) (by simp [eqD, py, PyData.eqv, isSt])
  | str t => exact flat h.2 (Nat.zero_le _) rfl
  | lst ds => exact ref rfl rfl
  | tup ds => exact ref rfl rfl
  | dk ks => exact ref rfl rfl
  | raw u => exact h.elim
  | dt u => exact h.elim
  | obj u x => exact h.elim
end
end Cal


/-! Own text: a value of any kind in a tuple of texts; a tuple of anything == (). -/
namespace PySem.SeqAt
theorem RcAt.str_dict' {A : Around} {s : Shared} {l : Addr} {o : Obj} {es : Array DictEntry} {n : Nat} (b : Str) (u : Tok) (ho : s.heap.get? l = some o) (hc : o.cls = .type "dict") (hd : o.data = .dict es n) (hu : A.units < cLine) : RcAt A s (.str b u) (.ref l) false := fun prog w E Q h => by
  obtain ⟨cls, dd, data, sl⟩ := o
  simp only at hc hd
  subst hc hd
  exact rc_eq_decline_or (k := false) (typeIs_str s b u) ⟨_, ho, rfl⟩ (by decide) F.sub_dict_str F.slot_str_eq F.slot_dict_eq_refl
    (fun _ hq => call_meets F.slot_str_eq (typeIs_str s b u) F.entry_str_eq (F.args_str_eq_2 _ _) (str_eq_declines_dict' b u l (.type "dict") es n dd sl) ⟨ho, hq⟩)
    (fun _ hq => call_meets F.slot_dict_eq_refl ⟨_, ho, rfl⟩ F.entry_dict_eq (F.args_dict_eq_2 _ _) (dict_eq_declines_str' l es n dd sl b u) ⟨ho, hq⟩)
    (fun _ hq => wpAny_of_eq (rfl : isSame (.str b u) (.ref l) = pure false) hq) (.inr hu) h
theorem EqAt.str_dict' {A : Around} {s : Shared} {l : Addr} {o : Obj} {es : Array DictEntry} {n : Nat} (b : Str) (u : Tok) (ho : s.heap.get? l = some o) (hc : o.cls = .type "dict") (hd : o.data = .dict es n) (hu : A.units < cLine) : EqAt A s (.str b u) (.ref l) false := fun prog w E Q h => by
  unfold eqBool
  refine wpAny_holding (wpAny_ite_split (fun hab => absurd (eq_of_beq hab) nofun) fun _ => ?_)
  exact wpAny_bind (RcAt.str_dict' b u ho hc hd hu prog w E _ (wpAny_truthy_bool h))
end PySem.SeqAt
namespace Cal
open PySem PySem.Spec PyProof.Rows L2
theorem strs_at : ∀ {r : List Str} {us : List Value}, Vals (r.map V.str) us → ∀ y ∈ us, ∃ b t, y = Value.str b t
  | [], _, h, y, hy => by cases h; cases hy
  | x :: r, _, h, y, hy => by
    cases h with
    | cons h1 h2 =>
      rcases List.mem_cons.mp hy with e | hy
      · obtain ⟨t, e2⟩ := h1
        exact ⟨x, t, by rw [e, e2]⟩
      · exact strs_at h2 y hy
/-- in a tuple of texts -/
def rInX (K : PySem.W.Frag) (neg : Bool) : R2 := fun x y H Q => rIn K neg x y H Q ∨ ∃ (d : D) (G : Hp) (r : List Str) (p : Addr), y = .ref p ∧ SqT K H p (r.map V.str) ∧ Same G H ∧ Dt K G d x ∧ okD d = true ∧ isRf d = true ∧ Q (.bl neg) H
theorem op_inX {X : Cx} (hu : X.A.units + 64 < cLine) : OpR X (compareOp .In) (rInX X.K false) := OpR.or op_in_seq (by
  intro pins s0 σ0 H x y v u Q I rx ry h
  obtain ⟨d, G, r, p, rfl, hq, e, hd, ho, hr, q⟩ := h
  cases ry
  have hR := Dt.rds I e d ho hd rx
  obtain ⟨us, rv, hT, _⟩ := I.tuple hq
  have hu' : X.A.in1.units < cLine := by show X.A.units + 1 < cLine; omega
  have fin : (∀ b t, SeqAt.EqAt X.A.in1 s0 (.str b t) v false) → wpAny (model X.prog X.w) X.A (compareOp .In v (.ref p)) (EP X pins σ0 Q) X.xe s0 := fun hh => by
    refine SeqAt.in_tupleAt (fun _ => false) hT (fun y hy => ?_) ⟨.bl false, H, I, ?_, q⟩
    · obtain ⟨b, t, rfl⟩ := strs_at rv y (by simpa using hy)
      exact hh b t
    · have : us.toArray.any (fun _ => false) = false := by simp
      rw [this]; rfl
  cases d with
  | lst ds => cases hR with | lst k1 k2 k3 k4 => exact fin fun b t => SeqAt.EqAt.str_list b t ⟨_, k1, k2, _, k3⟩ hu'
  | tup ds => cases hR with | tup k1 k2 k3 k4 => exact fin fun b t => SeqAt.EqAt.str_tuple b t ⟨_, k1, k2, _, k3⟩ hu'
  | dk ks => cases hR with | dk k1 k2 k3 k4 k5 k6 => exact fin fun b t => SeqAt.EqAt.str_dict' b t k1 k2 k3 hu'
  | non => cases hr
  | bl b => cases hr
  | int i => cases hr
  | str s => cases hr
  | raw u => cases hr
  | dt u => cases hr
  | obj u x => cases hr)
/-- whether a value is one of some texts -/
def inX (d : D) (r : List Str) : Bool := match d with | .str t => decide (t ∈ r) | _ => false
section
variable {B : Bs} {ρ : Ro} {μ : Mu} {d : D} {r : List Str} {ds : List D}
theorem rd_inX (h : Sm d) : RD B (rInX B.K false) ρ μ d (.tup (r.map .str)) (fun e => e = .bl (inX d r)) := by
  have flat : (∀ G v, Dt B.K G d v → flatV v = true ∧ inV v (r.map V.str) = false) → inX d r = false → RD B (rInX B.K false) ρ μ d (.tup (r.map .str)) (fun e => e = .bl (inX d r)) := fun hf h2 => by
    rw [h2]
    refine RD.inl fun τ σ H x y a Q q => ?_
    obtain ⟨G, g, hx, ⟨p, vs, rfl, e1, k1⟩⟩ := a.two
    have hv := k1.strs
    subst hv
    obtain ⟨f1, f2⟩ := hf G x hx
    refine ⟨p, _, rfl, .inr (.inl (.inl (g.sub _ _ e1))), f1, by rw [List.all_map]; exact List.all_eq_true.mpr fun _ _ => rfl, ?_⟩
    show Q (.bl (inV x (r.map V.str))) H
    rw [f2]
    exact q _ H _ rfl (At.flat ⟨G, g⟩ fun _ => rfl)
  have ref : isRf d = true → inX d r = false → RD B (rInX B.K false) ρ μ d (.tup (r.map .str)) (fun e => e = .bl (inX d r)) := fun h1 h2 => by
    rw [h2]
    refine RD.inr fun τ σ H x y a Q q => ?_
    obtain ⟨G, g, hx, ⟨p, vs, rfl, e1, k1⟩⟩ := a.two
    have hv := k1.strs
    subst hv
    exact ⟨d, G, r, p, rfl, .inl (.inl (g.sub _ _ e1)), g.sub, hx, Sm_ok h, h1, q _ H _ rfl (At.flat ⟨G, g⟩ fun _ => rfl)⟩
  have none : ∀ (z : V), (∀ s, eqV (V.str s) z = false) → inV z (r.map V.str) = false := fun z hz => by
    unfold inV
    rw [List.any_map]
    refine List.any_eq_false.mpr fun y hy w => ?_
    have w : eqV (V.str y) z = true := w
    rw [hz y] at w; cases w
  cases d with
  | non => exact flat (fun G v hv => by rw [show v = V.non from hv]; exact ⟨rfl, none _ fun s => rfl⟩) rfl
  | bl b => exact flat (fun G v hv => by rw [show v = V.bl b from hv]; exact ⟨rfl, none _ fun s => rfl⟩) rfl
  | int i => exact flat (fun G v hv => by rw [show v = V.int i from hv]; exact ⟨rfl, none _ fun s => rfl⟩) rfl
  | str s => exact RD.inl rd_inS
  | lst ds => exact ref rfl rfl
  | tup ds => exact ref rfl rfl
  | dk ks => exact ref rfl rfl
  | raw u => exact h.elim
  | dt u => exact h.elim
  | obj u x => exact h.elim
end
/-- a tuple == () -/
def rEqNil (K : PySem.W.Frag) : R2 := fun x y H Q => ∃ (p q : Addr) (xs : List V), x = .ref p ∧ y = .ref q ∧ SqT K H p xs ∧ SqT K H q [] ∧ Q (.bl xs.isEmpty) H
theorem u_eqNil {X : Cx} (hu : X.A.units + 64 < cLine) : OpR X (compareOp .Eq) (rEqNil X.K) := by
  intro pins s0 σ0 H x y v u Q I rx ry h
  obtain ⟨p, q, xs, rfl, rfl, h1, h2, z⟩ := h
  cases rx
  cases ry
  obtain ⟨us, rv, hT, _⟩ := I.tuple h1
  obtain ⟨ws, rw', hT2, _⟩ := I.tuple h2
  cases rw'
  have hl := rv.length
  refine (SeqAt.RcAt.tuples (e := fun _ => true) hT hT2 (by omega) fun j _ h2 => absurd h2 (by simp)) X.prog X.w X.xe _ ⟨.bl xs.isEmpty, H, I, ?_, z⟩
  show Value.bool _ = Value.bool _
  congr 1
  cases us with
  | nil =>
    have : xs = [] := List.eq_nil_of_length_eq_zero hl
    rw [this]; rfl
  | cons y t =>
    cases xs with
    | nil => simp at hl
    | cons x r => simp
theorem rd_eqNil {B : Bs} {ρ : Ro} {μ : Mu} {ds : List D} : RD B (rEqNil B.K) ρ μ (.tup ds) (.tup []) (fun e => e = .bl ds.isEmpty) := fun τ σ H x y a Q q => by
  obtain ⟨G, g, ⟨p, vs, rfl, e1, k1⟩, ⟨p', us, rfl, e2, k2⟩⟩ := a.two
  have hn : us = [] := k2
  subst hn
  refine ⟨p, p', vs, rfl, rfl, .inl (.inl (g.sub _ _ e1)), .inl (.inl (g.sub _ _ e2)), ?_⟩
  have : vs.isEmpty = ds.isEmpty := by
    have := k1.length
    cases vs <;> cases ds <;> simp_all
  rw [this]
  exact q _ H _ rfl (At.flat ⟨G, g⟩ fun _ => rfl)
end Cal


namespace Cal
open PySem PySem.Spec PyProof.Rows L2
/-! ### a set made of a list of texts, also of like ones, and its members sorted -/
def addT (l : List Str) (x : Str) : List Str := if x ∈ l then l else x :: l
def runT (ks : List Str) : List Str := ks.foldl addT []
theorem addT_old {l : List Str} {x : Str} (h : x ∈ l) : addT l x = l := if_pos h
theorem addT_new {l : List Str} {x : Str} (h : x ∉ l) : addT l x = x :: l := if_neg h
theorem runT_take {ks : List Str} {i : Nat} {x : Str} (h : ks[i]? = some x) : runT (ks.take (i + 1)) = addT (runT (ks.take i)) x := by
  unfold runT
  rw [List.take_add_one, h]
  show (ks.take i ++ [x]).foldl addT [] = _
  rw [List.foldl_append]; rfl
theorem addT_len (l : List Str) (x : Str) : l.length ≤ (addT l x).length := by
  unfold addT
  split
  · exact Nat.le_refl _
  · exact Nat.le_succ _
theorem fold_len (ks : List Str) : ∀ l : List Str, l.length ≤ (ks.foldl addT l).length := by
  induction ks with
  | nil => exact fun l => Nat.le_refl _
  | cons k r ih => exact fun l => Nat.le_trans (addT_len l k) (ih _)
theorem runT_le (ks : List Str) (i : Nat) : (runT (ks.take i)).length ≤ (runT ks).length := by
  unfold runT
  conv => rhs; rw [← List.take_append_drop i ks, List.foldl_append]
  exact fold_len _ _
theorem fold_mem (ks : List Str) : ∀ (l : List Str) (k : Str), k ∈ ks.foldl addT l ↔ k ∈ l ∨ k ∈ ks := by
  induction ks with
  | nil => exact fun l k => by simp
  | cons x r ih =>
    intro l k
    rw [List.foldl_cons, ih]
    unfold addT
    split
    · rename_i h
      rw [List.mem_cons]
      constructor
      · rintro (z | z)
        · exact .inl z
        · exact .inr (.inr z)
      · rintro (z | z | z)
        · exact .inl z
        · exact .inl (z ▸ h)
        · exact .inr z
    · rw [List.mem_cons, List.mem_cons]
      constructor
      · rintro ((z | z) | z)
        · exact .inr (.inl z)
        · exact .inl z
        · exact .inr (.inr z)
      · rintro (z | z | z)
        · exact .inl (.inr z)
        · exact .inl (.inl z)
        · exact .inr z
theorem runT_mem {ks : List Str} {k : Str} : k ∈ runT ks ↔ k ∈ ks := (fold_mem ks [] k).trans (by simp)
theorem fold_nd (ks : List Str) : ∀ (l : List Str), l.Nodup → (ks.foldl addT l).Nodup := by
  induction ks with
  | nil => exact fun l h => h
  | cons x r ih =>
    intro l h
    refine ih _ ?_
    unfold addT
    split
    · exact h
    · rename_i hx
      exact List.nodup_cons.mpr ⟨hx, h⟩
theorem runT_nd (ks : List Str) : (runT ks).Nodup := fold_nd ks [] List.nodup_nil
section
variable {P : Program} {w : World} {A : Around} {E : Value → Shared → Prop} {s : Shared}
theorem old_x {a : Addr} {T : String} {D : Froz.SD} {l : List Str} {k : Str} {u : Tok} {Q : Bool → Shared → Prop} (ho : s.heap.get? a = some (Froz.sObj T D)) (F : Froz.TxOk P w D l) (hk : k ∈ l) (hb : l.length < scanBound)
    (h : Q false s) : wpAny (model P w) A (setAddHashed a (.str k u) (hashStr w k)) Q E s := by
  obtain ⟨es, ep, t⟩ := D
  have hd : (Froz.sObj T (es, ep, t)).data = .set es ep t := rfl
  have hf : t.fits es.size = true := F.fit
  have hel : ElemsOf (strKind P w) es.toList := F.el
  have hsz : es.size = l.length := F.sz
  have hb0 : es.size < scanBound := by omega
  have hkey : (strKind P w).is k (.str k u) = true := Froz.is_str k u
  obtain ⟨j, hsome⟩ : ∃ j, List.findIdx? (fun e => (strKind P w).is k e.2) es.toList = some j := by
    cases hr : List.findIdx? (fun e => (strKind P w).is k e.2) es.toList with
    | some j => exact ⟨j, rfl⟩
    | none =>
      obtain ⟨e, he, hp⟩ := (F.mem k).mp hk
      have := List.findIdx?_eq_none_iff.mp hr e he
      rw [hp] at this
      cases this
  unfold setAddHashed setAddHashedIn
  refine wpAny_holding (wpAny_bind (wpAny_setState_of ho hd hf ?_))
  dsimp only
  rw [byScan_of rfl hb0 hel]
  simp only [↓reduceIte]
  unfold setAddByScan
  refine wpAny_bind ?_
  refine wpAny_bind (wpAny_rule ?_)
  refine wpAny_bind (wpAny_setScan_of (knd := strKind P w) (k := k) hkey ho hd hf hel ?_)
  rw [hsome]
  dsimp only
  exact wpAny_pure (wpAny_pure h)
/-- the loop by which a list's items get into the set -/
theorem txs_loopD {I : Addr} {fp wr : List Addr} {G : Array GenState → Array GenState → Prop} {n : Nat} {Pv : Nat → Value → Prop} {St : Nat → Shared → Prop} {R : Result → Shared → Prop}
    (W : WalksS P w A.in1 I fp wr G n Pv St) (S : Addr) (nS : S ∉ fp) (ks : List Str) (en : n = ks.length) (few : (runT ks).length < 64)
    (item : ∀ i v, Pv i v → ∃ k u, ks[i]? = some k ∧ v = .str k u) : ∀ (m i : Nat) (s : Shared), n - i = m → i ≤ n → St i s → Txs P w s.heap S (runT (ks.take i)) →
      (∀ s', Moved (S :: wr) G s s' → Txs P w s'.heap S (runT ks) → R (.ok (.ret .none)) s') → codeAny (model P w) A (.builtin "set.update.loop" ⟨[.ref S, .ref I], []⟩) R s
  | 0, i, s, hm, hi, st, hS, k => by
    have ei : i = n := by omega
    subst ei
    refine codeAny_builtin F.entry_set_update_loop ?_
    rw [Around.under_plainId F.plain_set_update_loop _]
    show wpAny _ A.in1 (pyNext (.ref I) >>= _) _ _ s
    refine wpAny_bind (W.done s _ _ st fun s' mv => ?_)
    show wpAny _ A.in1 (ret Value.none) _ _ s'
    rw [en, List.take_length] at hS
    exact wpAny_pure (k s' (mv.mono fun b hb => List.mem_cons_of_mem _ hb) (txs_at hS fun o e => mv.heap S o (fun z => nS (W.sub _ z)) e))
  | m + 1, i, s, hm, hi, st, hS, k => by
    have lt : i < n := by omega
    refine codeAny_builtin F.entry_set_update_loop ?_
    rw [Around.under_plainId F.plain_set_update_loop _]
    show wpAny _ A.in1 (pyNext (.ref I) >>= _) _ _ s
    refine wpAny_bind (W.item i s _ _ lt st fun v s' hP st' mv => ?_)
    obtain ⟨x, u, hx, rfl⟩ := item i v hP
    have hS' : Txs P w s'.heap S (runT (ks.take i)) := txs_at hS fun o e => mv.heap S o (fun z => nS (W.sub _ z)) e
    obtain ⟨D, d1, d2, d3, d4⟩ := hS'.ex
    have lx : i < ks.length := by omega
    show wpAny _ A.in1 (holding [Value.str x u] (setAdd S (.str x u)) >>= _) _ _ s'
    refine wpAny_bind (wpAny_holding ?_)
    unfold setAdd
    refine wpAny_holding (wpAny_bind ((PySem.strKind P w).pyHash (k := x) (Froz.is_str x u) ?_))
    have le1 := runT_le ks (i + 1)
    by_cases new : x ∈ runT (ks.take i)
    · refine old_x (s := { s' with toks := s'.toks + 1 }) d1 d2 new (by have := runT_le ks i; unfold scanBound; omega) ?_
      have got : Txs P w s'.heap S (runT (ks.take (i + 1))) := by
        rw [runT_take hx, addT_old new]
        exact hS'
      refine wpAny_pure ⟨plainId_quiet F.plain_set_update_loop _, txs_loopD W S nS ks en few item m (i + 1) _ (by omega) lt (W.frame _ s' _ _ st' (Nat.le_succ _) fun b hb o e => e) got fun s'' mv2 hS2 => ?_⟩
      exact k s'' (Moved.trans W.gtrans ((mv.mono fun b hb => List.mem_cons_of_mem _ hb).then_heap (Nat.le_succ _) fun b o hb e => e) mv2) hS2
    rw [runT_take hx, addT_new new] at le1
    refine Froz.add_x (s := { s' with toks := s'.toks + 1 }) d1 d2 new (by rw [List.length_cons] at le1; unfold scanBound; omega) ?_
    obtain ⟨r1, r2⟩ := add_ris (h := hashStr w x) (v := .str x u) d3
    have other : ∀ b, b ≠ S → ∀ o, s'.heap.get? b = some o → (s'.heap.update S fun _ => Froz.sObj "set" (Froz.addTx (hashStr w x) (.str x u) D)).get? b = some o := fun b hb o e => by
      rw [Heap.get?_update_ne _ _ _ _ hb]; exact e
    have got : Txs P w (s'.heap.update S fun _ => Froz.sObj "set" (Froz.addTx (hashStr w x) (.str x u) D)) S (runT (ks.take (i + 1))) := by
      refine ⟨_, Froz.get_upd _ d1 rfl, ?_, r1, by rw [r2]; exact d4⟩
      have e3 : (runT (ks.take (i + 1))) = x :: (runT (ks.take i)) := by rw [runT_take hx, addT_new new]
      rw [e3]
      exact Froz.add_ok u d2
    refine wpAny_pure ⟨plainId_quiet F.plain_set_update_loop _, txs_loopD W S nS ks en few item m (i + 1) _ (by omega) lt (W.frame _ s' _ _ st' (Nat.le_succ _) fun b hb o e => other b (fun z => nS (z ▸ hb)) o e) got fun s'' mv2 hS2 => ?_⟩
    exact k s'' (Moved.trans W.gtrans ((mv.mono fun b hb => List.mem_cons_of_mem _ hb).then_heap (Nat.le_succ _) fun b o hb e => other b (fun z => hb (by rw [z]; exact List.mem_cons_self)) o e) mv2) hS2
theorem txs_callD {l : Addr} {its : Array Value} {ks : List Str} {Q : Value → Shared → Prop} (hh : A.handled = none) (hl : s.heap.IsList l its) (is : StrsAre its.toList ks) (few : (runT ks).length < 64)
    (h : ∀ (h' : Heap) (tk : Nat), Txs P w h' s.heap.objs.size (runT ks) → (∀ b o, s.heap.get? b = some o → h'.get? b = some o) → Q (.ref s.heap.objs.size) { s with heap := h', toks := tk }) :
    wpAny (model P w) A (call (.type "set") [.ref l]) Q E s := by
  have en : its.size = ks.length := by
    have := is.length
    rw [Array.length_toList] at this
    exact this
  have ⟨c, tl, mro⟩ := F.called_set.mro
  have made := F.called_set.made
  have sub := F.called_set.sub
  refine wpAny_call (codeAny_of_tree ?_)
  show wpAny _ _ (callAny (.type "set") _) _ _ _
  refine wpAny_pure ⟨Code.quiet_builtin _ (by decide +kernel), codeAny_builtin F.entry_type_call ?_⟩
  rw [Around.under_plain (weight_type_call_type "set" [.ref l] []) rfl]
  have n1 := F.called_set.notType
  have n2 := F.called_set.canCreate
  have ok1 := F.typeCall_set_1 (.ref l)
  repeat (any_goals (first | assumption | wp_step))
  refine codeAny_mono (code_set_led1 (.ref l) (E := E) (Q₁ := fun o t => o = .ref s.heap.objs.size ∧ t = { s with heap := s.heap.push (freshSet w) }) ⟨rfl, rfl⟩) fun r t hr => ?_
  cases r with
  | error e => exact hr
  | ok fl => cases fl with
    | ret o =>
      obtain ⟨rfl, rfl⟩ := hr
      have gS : (s.heap.push (freshSet w)).get? s.heap.objs.size = some (freshSet w) := Heap.get?_push_size _ rfl
      have tS : Shared.TypeIs { s with heap := s.heap.push (freshSet w) } (.ref s.heap.objs.size) "set" := ⟨_, gS, rfl⟩
      have look := F.called_set.init.lookup
      have bnd := F.called_set.init.bind (.ref s.heap.objs.size)
      repeat (any_goals (first | assumption | wp_step))
      refine codeAny_mono (codeAny_call_builtin (R := wants (fun r t => r = .none ∧ ∃ h' tk, t = { s with heap := h', toks := tk } ∧ Txs P w h' s.heap.objs.size (runT ks) ∧ ∀ b o, s.heap.get? b = some o → h'.get? b = some o) E)
        F.called_set.init.plain F.entry_set_init (check_set_init_1 tS ?_)) fun r2 t2 hr2 => ?_
      · obtain ⟨⟨lc, ldi, lda, lsl⟩, gl, cl, nl, dl⟩ := hl
        simp only at cl dl
        subst cl; subst dl
        have gl' : (s.heap.push (freshSet w)).get? l = some { cls := .type "list", dict := ldi, data := .seq its nl, slots := lsl } := Heap.get?_push_of_some _ gl
        have u1 := F.sub_list_set
        have u2 := F.sub_list_frozenset
        have u3 : (Value.type "list" == Value.type "dict") = false := by decide
        have il : (s.heap.push (freshSet w)).IsList l its := ⟨_, gl', rfl, nl, rfl⟩
        unfold Builtin.«set.__init__» noKeywords Builtin.Frozenset.updateFrom
        generalize hPI : pyIter = PI
        wp_walk
        subst hPI
        refine wpAny_pyIter_list il (wpAny_bind (wpAny_runValue ?_))
        have ltl : l < s.heap.objs.size := Heap.lt_size gl
        have h3 : A.in1.in1.in1.handled = none := by simp [hh]
        have sz : (s.heap.push (freshSet w)).objs.size = s.heap.objs.size + 1 := Heap.size_push ..
        have neI : l ≠ (s.heap.push (freshSet w)).objs.size := by rw [sz]; exact Nat.ne_of_lt (Nat.lt_succ_of_lt ltl)
        have nS : s.heap.objs.size ∉ [(s.heap.push (freshSet w)).objs.size, l] := by
          rw [sz]
          intro z
          rcases List.mem_cons.mp z with z | z
          · exact Nat.ne_of_lt (Nat.lt_succ_self _) z
          · exact Nat.ne_of_gt ltl (List.mem_singleton.mp z)
        refine txs_loopD ((Walks.list h3 _ l neI its).toS) s.heap.objs.size nS ks en few (fun i v hv => ?_) (its.size - 0) 0 _ (by omega) (Nat.zero_le _) ⟨⟨_, Heap.get?_push_size _ rfl, rfl, rfl⟩, il.push _⟩ (txs_new (Heap.get?_push_of_some _ gS)) fun t' mv hS => ?_
        · have q : its.toList[i]? = some v := by rw [Array.getElem?_toList]; exact hv
          exact txt_at is q
        · obtain ⟨h', g', d', tk', os'⟩ := t'
          have eg : g' = s.gens := mv.gens
          have ed : d' = s.drawn := mv.drawn
          have eo : os' = s.os := mv.os
          subst eg; subst ed; subst eo
          show wpAny _ _ _ _ _ _
          refine wpAny_pure ?_
          show wpAny _ _ (ret Value.none) _ _ _
          refine wpAny_pure ⟨rfl, h', tk', rfl, hS, fun b o e => ?_⟩
          have lb := Heap.lt_size e
          refine mv.heap b o (fun z => ?_) (Heap.get?_push_of_some _ (Heap.get?_push_of_some _ e))
          rcases List.mem_cons.mp z with z | z
          · exact Nat.ne_of_lt lb z
          · refine Nat.ne_of_lt (Nat.lt_succ_of_lt lb) ?_
            exact (List.mem_singleton.mp z).trans sz
      · cases r2 with
        | error e => exact hr2
        | ok fl2 => cases fl2 with
          | ret r =>
            obtain ⟨rfl, h', tk, rfl, hS, k⟩ := hr2
            repeat (any_goals (first | assumption | wp_step))
            exact h _ _ hS k
          | _ => exact hr2.elim
    | _ => exact hr.elim
end
section
variable {X : Cx}
/-- set(names), a list of texts -/
def rSetD (K : PySem.W.Frag) (P : Program) (w : World) : List V → Hp → VK → Prop := fun xs H Q => ∃ (l : Addr) (ks : List Str), xs = [V.ref l] ∧ SqL K H l (ks.map V.str) ∧ (runT ks).length < 64 ∧ ∀ a, H a = none → Q (.ref a) (upd H a (SetT P w a (runT ks)))
theorem cr_setD (hc : X.calm = true) : CallR X (.type "set") (rSetD X.K X.prog X.w) := by
  intro pins s σ H xs us Q I r h
  obtain ⟨l, ks, rfl, hl, few, q⟩ := h
  rw [Vals.ref1 r]
  obtain ⟨its, rv, pl, _⟩ := I.list hl
  refine txs_callD (P := X.prog) (w := X.w) (I.ok.hd hc) pl.isList (by simpa using strsAre_of rv) few fun h' tk R k => ?_
  exact ⟨.ref s.heap.objs.size, upd H s.heap.objs.size (SetT X.prog X.w s.heap.objs.size (runT ks)), I.laid (t' := tk) k (Nat.le_refl _) (setT_new R), rfl, q _ (I.hok.fresh (Nat.le_refl _))⟩
end
end Cal


namespace Cal
open PySem PySem.Spec PyProof.Rows L2
/-! ### a set made of a list of ints, also of like ones -/
def GotI (w : World) (h : Heap) (a : Addr) (ks : List Int) : Prop := ∃ c, c ≤ ks.length ∧ SetR w h a (fun j => decide (j ∈ ks)) c
theorem int_atI {us : List Value} {xs : List Int} (h : IntsAre us xs) {i : Nat} {v : Value} (e : us[i]? = some v) : ∃ k t, xs[i]? = some k ∧ v = .int k t := by
  have hl := IntsAre.length h
  have hi := (List.getElem?_eq_some_iff.mp e).1
  obtain ⟨t, e2⟩ := PyProof.Rows.IntsAre.int_at h i v e
  refine ⟨xs[i]'(by omega), t, List.getElem?_eq_getElem (by omega), ?_⟩
  rw [e2, List.getD_eq_getElem?_getD, List.getElem?_eq_getElem (by omega)]
  rfl
section
variable {P : Program} {w : World} {A : Around} {E : Value → Shared → Prop} {s : Shared}
theorem ints_callD {l : Addr} {its : Array Value} {ks : List Int} {Q : Value → Shared → Prop} (hh : A.handled = none) (hl : s.heap.IsList l its) (is : IntsAre its.toList ks) (few : ks.length + 1 < scanBound)
    (h : ∀ (h' : Heap) (tk : Nat), GotI w h' s.heap.objs.size ks → (∀ b o, s.heap.get? b = some o → h'.get? b = some o) → Q (.ref s.heap.objs.size) { s with heap := h', toks := tk }) :
    wpAny (model P w) A (call (.type "set") [.ref l]) Q E s := by
  have en : its.size = ks.length := by
    have := is.length
    rw [Array.length_toList] at this
    exact this
  have ⟨c, tl, mro⟩ := F.called_set.mro
  have made := F.called_set.made
  have sub := F.called_set.sub
  refine wpAny_call (codeAny_of_tree ?_)
  show wpAny _ _ (callAny (.type "set") _) _ _ _
  refine wpAny_pure ⟨Code.quiet_builtin _ (by decide +kernel), codeAny_builtin F.entry_type_call ?_⟩
  rw [Around.under_plain (weight_type_call_type "set" [.ref l] []) rfl]
  have n1 := F.called_set.notType
  have n2 := F.called_set.canCreate
  have ok1 := F.typeCall_set_1 (.ref l)
  repeat (any_goals (first | assumption | wp_step))
  refine codeAny_mono (code_set_led1 (.ref l) (E := E) (Q₁ := fun o t => o = .ref s.heap.objs.size ∧ t = { s with heap := s.heap.push (freshSet w) }) ⟨rfl, rfl⟩) fun r t hr => ?_
  cases r with
  | error e => exact hr
  | ok fl => cases fl with
    | ret o =>
      obtain ⟨rfl, rfl⟩ := hr
      have gS : (s.heap.push (freshSet w)).get? s.heap.objs.size = some (freshSet w) := Heap.get?_push_size _ rfl
      have tS : Shared.TypeIs { s with heap := s.heap.push (freshSet w) } (.ref s.heap.objs.size) "set" := ⟨_, gS, rfl⟩
      have look := F.called_set.init.lookup
      have bnd := F.called_set.init.bind (.ref s.heap.objs.size)
      repeat (any_goals (first | assumption | wp_step))
      refine codeAny_mono (codeAny_call_builtin (R := wants (fun r t => r = .none ∧ ∃ h' tk, t = { s with heap := h', toks := tk } ∧ GotI w h' s.heap.objs.size ks ∧ ∀ b o, s.heap.get? b = some o → h'.get? b = some o) E)
        F.called_set.init.plain F.entry_set_init (check_set_init_1 tS ?_)) fun r2 t2 hr2 => ?_
      · obtain ⟨⟨lc, ldi, lda, lsl⟩, gl, cl, nl, dl⟩ := hl
        simp only at cl dl
        subst cl; subst dl
        have gl' : (s.heap.push (freshSet w)).get? l = some { cls := .type "list", dict := ldi, data := .seq its nl, slots := lsl } := Heap.get?_push_of_some _ gl
        have u1 := F.sub_list_set
        have u2 := F.sub_list_frozenset
        have u3 : (Value.type "list" == Value.type "dict") = false := by decide
        have il : (s.heap.push (freshSet w)).IsList l its := ⟨_, gl', rfl, nl, rfl⟩
        unfold Builtin.«set.__init__» noKeywords Builtin.Frozenset.updateFrom
        generalize hPI : pyIter = PI
        wp_walk
        subst hPI
        refine wpAny_pyIter_list il (wpAny_bind (wpAny_runValue ?_))
        have ltl : l < s.heap.objs.size := Heap.lt_size gl
        have h3 : A.in1.in1.in1.handled = none := by simp [hh]
        have sz : (s.heap.push (freshSet w)).objs.size = s.heap.objs.size + 1 := Heap.size_push ..
        have neI : l ≠ (s.heap.push (freshSet w)).objs.size := by rw [sz]; exact Nat.ne_of_lt (Nat.lt_succ_of_lt ltl)
        have nS : s.heap.objs.size ∉ [(s.heap.push (freshSet w)).objs.size, l] := by
          rw [sz]
          intro z
          rcases List.mem_cons.mp z with z | z
          · exact Nat.ne_of_lt (Nat.lt_succ_self _) z
          · exact Nat.ne_of_gt ltl (List.mem_singleton.mp z)
        refine set_update_ints ((Walks.list h3 _ l neI its).toS) s.heap.objs.size nS ks en few (fun i v hv => ?_) (its.size - 0) 0 _ (by omega) (Nat.zero_le _) ⟨⟨_, Heap.get?_push_size _ rfl, rfl, rfl⟩, il.push _⟩ ⟨0, Nat.le_refl 0, setR_new_at (Heap.get?_push_of_some _ gS)⟩ fun t' c mv hc hS0 => ?_
        · have q : its.toList[i]? = some v := by rw [Array.getElem?_toList]; exact hv
          exact int_atI is q
        · obtain ⟨h', g', d', tk', os'⟩ := t'
          have eg : g' = s.gens := mv.gens
          have ed : d' = s.drawn := mv.drawn
          have eo : os' = s.os := mv.os
          subst eg; subst ed; subst eo
          have hS : GotI w h' s.heap.objs.size ks := ⟨c, by rw [en] at hc; exact hc, hS0⟩
          show wpAny _ _ _ _ _ _
          refine wpAny_pure ?_
          show wpAny _ _ (ret Value.none) _ _ _
          refine wpAny_pure ⟨rfl, h', tk', rfl, hS, fun b o e => ?_⟩
          have lb := Heap.lt_size e
          refine mv.heap b o (fun z => ?_) (Heap.get?_push_of_some _ (Heap.get?_push_of_some _ e))
          rcases List.mem_cons.mp z with z | z
          · exact Nat.ne_of_lt lb z
          · refine Nat.ne_of_lt (Nat.lt_succ_of_lt lb) ?_
            exact (List.mem_singleton.mp z).trans sz
      · cases r2 with
        | error e => exact hr2
        | ok fl2 => cases fl2 with
          | ret r =>
            obtain ⟨rfl, h', tk, rfl, hS, k⟩ := hr2
            repeat (any_goals (first | assumption | wp_step))
            exact h _ _ hS k
          | _ => exact hr2.elim
    | _ => exact hr.elim
end
section
variable {X : Cx}
/-- set(places), a list of ints -/
def rSetDI (K : PySem.W.Frag) (w : World) : List V → Hp → VK → Prop := fun xs H Q => ∃ (l : Addr) (ks : List Int), xs = [V.ref l] ∧ SqL K H l (ks.map V.int) ∧ ks.length < 60 ∧ ∀ a c, c ≤ ks.length → H a = none → Q (.ref a) (upd H a (SetO w a (fun j => decide (j ∈ ks)) c))
theorem cr_setDI (hc : X.calm = true) : CallR X (.type "set") (rSetDI X.K X.w) := by
  intro pins s σ H xs us Q I r h
  obtain ⟨l, ks, rfl, hl, few, q⟩ := h
  rw [Vals.ref1 r]
  obtain ⟨its, rv, pl, _⟩ := I.list hl
  refine ints_callD (P := X.prog) (w := X.w) (I.ok.hd hc) pl.isList (by simpa using ints_of_vals rv) (by unfold scanBound; omega) fun h' tk R k => ?_
  obtain ⟨c, hcl, R⟩ := R
  exact ⟨.ref s.heap.objs.size, upd H s.heap.objs.size (SetO X.w s.heap.objs.size (fun j => decide (j ∈ ks)) c), I.laid (t' := tk) k (Nat.le_refl _) (setO_new R), rfl, q _ c hcl (I.hok.fresh (Nat.le_refl _))⟩
end
end Cal


namespace Cal
open PySem PySem.Spec PyProof.Rows L2
/-! ### list(zip(xs, ys)), two lists of one length -/
structure ZAt (z TI TO i1 i2 l1 l2 S : Addr) (xs ys : Array Value) (i : Nat) (h : Heap) : Prop where
  ti : IsPair h TI (.ref i1) (.ref i2)
  a1 : h.IsListIter i1 l1 i
  a2 : h.IsListIter i2 l2 i
  b1 : h.IsList l1 xs
  b2 : h.IsList l2 ys
  z : (IsZip h z TI TO .none ∧ ∃ a b, IsPair h TO a b) ∨ ∃ T f oT, IsZipHeld h z TI TO T f ∧ h.get? T = some oT ∧ T ≠ z ∧ T ≠ i1 ∧ T ≠ i2 ∧ T ≠ S
structure ZOff (z TI TO i1 i2 l1 l2 S : Addr) : Prop where
  d : ZipApart z TI TO i1 i2 l1 l2
  sz : z ≠ S
  sti : TI ≠ S
  sto : TO ≠ S
  s1 : i1 ≠ S
  s2 : i2 ≠ S
  t1 : l1 ≠ S
  t2 : l2 ≠ S
section
variable {P : Program} {w : World} {A : Around} {E : Value → Shared → Prop} {s : Shared} {z TI TO i1 i2 l1 l2 S : Addr} {xs ys : Array Value}
theorem ZAt.frame (O : ZOff z TI TO i1 i2 l1 l2 S) {i : Nat} {h h' : Heap} (st : ZAt z TI TO i1 i2 l1 l2 S xs ys i h) (hk : ∀ b o, b ≠ S → h.get? b = some o → h'.get? b = some o) : ZAt z TI TO i1 i2 l1 l2 S xs ys i h' where
  ti := hk _ _ O.sti st.ti
  a1 := st.a1.at fun o e => hk _ o O.s1 e
  a2 := st.a2.at fun o e => hk _ o O.s2 e
  b1 := st.b1.at fun o e => hk _ o O.t1 e
  b2 := st.b2.at fun o e => hk _ o O.t2 e
  z := by
    rcases st.z with ⟨hz, a, b, hTO⟩ | ⟨T, f, oT, hz, hT, r1, r2, r3, r4⟩
    · exact .inl ⟨hk _ _ O.sz hz, a, b, hk _ _ O.sto hTO⟩
    · exact .inr ⟨T, f, oT, hk _ _ O.sz hz, hk _ _ r4 hT, r1, r2, r3, r4⟩
theorem zat_item (O : ZOff z TI TO i1 i2 l1 l2 S) {i : Nat} {x y : Value} {Q : Option Value → Shared → Prop} (st : ZAt z TI TO i1 i2 l1 l2 S xs ys i s.heap) (hS : S < s.heap.objs.size) (ex : xs[i]? = some x) (ey : ys[i]? = some y)
    (hQ : ∀ h', ZAt z TI TO i1 i2 l1 l2 S xs ys (i + 1) h' → IsPair h' s.heap.objs.size x y → (∀ b o, b ≠ z → b ≠ TO → b ≠ i1 → b ≠ i2 → s.heap.get? b = some o → h'.get? b = some o) → Q (some (.ref s.heap.objs.size)) { s with heap := h' }) :
    wpAny (model P w) A (pyNext (.ref z)) Q E s := by
  obtain ⟨hTI, h1, h2, hl1, hl2, hz⟩ := st
  have D := O.d
  have lt : ∀ {c o}, s.heap.get? c = some o → s.heap.objs.size ≠ c := fun e => Nat.ne_of_gt (Heap.lt_size e)
  have n1 : s.heap.objs.size ≠ i1 := let ⟨_, e, _⟩ := h1; lt e
  have n2 : s.heap.objs.size ≠ i2 := let ⟨_, e, _⟩ := h2; lt e
  rcases hz with ⟨hz, a, b, hTO⟩ | ⟨T, f, oT, hz, hT, r1, r2, r3, r4⟩
  · refine wpAny_pyNext_zip_item D hz hTI hTO h1 h2 hl1 hl2 ex ey fun h' q1 q2 q3 q4 q5 q6 hk => ?_
    exact hQ h' ⟨hk _ _ D.TIz D.TITO D.TIi1 D.TIi2 hTI, q3, q4, hl1.at fun o e => hk _ o D.l1z D.l1TO D.l1i1 D.l1i2 e, hl2.at fun o e => hk _ o D.l2z D.l2TO D.l2i1 D.l2i2 e, .inr ⟨s.heap.objs.size, false, _, q1, q5, lt hz, n1, n2, Nat.ne_of_gt hS⟩⟩ q5 hk
  · refine wpAny_pyNext_zip_item_held D hz hT hTI h1 h2 hl1 hl2 ex ey fun h' q1 q3 q4 q5 q6 hk => ?_
    exact hQ h' ⟨hk _ _ D.TIz D.TIi1 D.TIi2 hTI, q3, q4, hl1.at fun o e => hk _ o D.l1z D.l1i1 D.l1i2 e, hl2.at fun o e => hk _ o D.l2z D.l2i1 D.l2i2 e, .inr ⟨T, true, oT, q1, hk _ _ r1 r2 r3 hT, r1, r2, r3, r4⟩⟩ q5 fun b o c1 _ c3 c4 e => hk b o c1 c3 c4 e
theorem zat_done (hA : A.handled = none) (O : ZOff z TI TO i1 i2 l1 l2 S) {Q : Option Value → Shared → Prop} (st : ZAt z TI TO i1 i2 l1 l2 S xs ys xs.size s.heap)
    (hQ : ∀ h', (∀ b o, b ≠ z → b ≠ TO → b ≠ i1 → b ≠ i2 → s.heap.get? b = some o → h'.get? b = some o) → Q none { s with heap := h' }) :
    wpAny (model P w) A (pyNext (.ref z)) Q E s := by
  obtain ⟨hTI, h1, h2, hl1, hl2, hz⟩ := st
  have hend : xs[xs.size]? = none ∨ ys[xs.size]? = none := .inl (Array.getElem?_eq_none (Nat.le_refl _))
  rcases hz with ⟨hz, a, b, hTO⟩ | ⟨T, f, oT, hz, hT, r1, r2, r3, r4⟩
  · exact wpAny_pyNext_zip_end hA O.d hz hTI hTO h1 h2 hl1 hl2 hend fun h' hk => hQ h' hk
  · exact wpAny_pyNext_zip_end_held hA O.d hz hT hTI h1 h2 hl1 hl2 hend fun h' hk => hQ h' fun b o c1 _ c3 c4 e => hk b o c1 c3 c4 e
/-- the pairs given out so far -/
def ZPairs (xs ys : Array Value) (lo : Addr) (h : Heap) (as : List Addr) : Prop := ∀ (j : Nat) (a : Addr), as[j]? = some a → lo < a ∧ ∃ x y, xs[j]? = some x ∧ ys[j]? = some y ∧ IsPair h a x y
theorem zil_loop {R : Result → Shared → Prop} (hh : A.handled = none) (O : ZOff z TI TO i1 i2 l1 l2 S) {lo : Addr} (e1 : z ≤ lo) (e2 : TO ≤ lo) (e3 : i1 ≤ lo) (e4 : i2 ≤ lo) (e5 : S ≤ lo) (en : ys.size = xs.size) (hn : xs.size ≤ sizeLine) (res : Value) {h₁ : Heap}
    (hR : ∀ h' tk acc c as, (∀ b o, b ≠ S → b ≠ z → b ≠ TO → b ≠ i1 → b ≠ i2 → h₁.get? b = some o → h'.get? b = some o) → h'.get? S = some { cls := .type "list", dict := none, data := .seq acc c, slots := #[] } → as.length = xs.size → ZPairs xs ys lo h' as →
      acc.toList = as.map Value.ref → R (.ok (.ret res)) { s with heap := h', toks := tk }) :
    ∀ (k i : Nat) (h : Heap) (tk c : Nat) (acc : Array Value) (as : List Addr), xs.size - i = k → i ≤ xs.size → ZAt z TI TO i1 i2 l1 l2 S xs ys i h → (∀ b o, b ≠ S → b ≠ z → b ≠ TO → b ≠ i1 → b ≠ i2 → h₁.get? b = some o → h.get? b = some o) →
      h.get? S = some { cls := .type "list", dict := none, data := .seq acc c, slots := #[] } → acc.toList = as.map Value.ref → as.length = i → ZPairs xs ys lo h as → lo < h.objs.size →
      codeAny (model P w) A (.builtin "list.extend.loop" ⟨[.ref S, .ref z, res], []⟩) R { s with heap := h, toks := tk } := by
  intro k
  induction k with
  | zero =>
    intro i h tk c acc as hk hi hst hkeep hS hacc hal hG hlo
    have hin : i = xs.size := by omega
    subst hin
    refine codeAny_builtin PySem.F.entry_extend_loop ?_
    rw [Around.under_plainId PySem.F.plain_extend_loop _]
    show wpAny _ A.in1 (pyNext (.ref z) >>= _) _ _ _
    refine wpAny_bind (zat_done (s := { s with heap := h, toks := tk }) (A := A.in1) hh O hst fun h' he => ?_)
    have he : ∀ b o, b ≠ z → b ≠ TO → b ≠ i1 → b ≠ i2 → h.get? b = some o → h'.get? b = some o := he
    refine wpAny_pure (hR h' tk acc c as (fun b o n0 n1 n2 n3 n4 e => he b o n1 n2 n3 n4 (hkeep b o n0 n1 n2 n3 n4 e)) (he S _ O.sz.symm O.sto.symm O.s1.symm O.s2.symm hS) hal (fun j a hj => ?_) hacc)
    obtain ⟨lt, x, y, g1, g2, g3⟩ := hG j a hj
    exact ⟨lt, x, y, g1, g2, he a _ (Nat.ne_of_gt (Nat.lt_of_le_of_lt e1 lt)) (Nat.ne_of_gt (Nat.lt_of_le_of_lt e2 lt)) (Nat.ne_of_gt (Nat.lt_of_le_of_lt e3 lt)) (Nat.ne_of_gt (Nat.lt_of_le_of_lt e4 lt)) g3⟩
  | succ k ih =>
    intro i h tk c acc as hk hi hst hkeep hS hacc hal hG hlo
    have hlt : i < xs.size := by omega
    have hsz : acc.size = i := by rw [← Array.length_toList, hacc, List.length_map, hal]
    have ex : xs[i]? = some xs[i] := Array.getElem?_eq_getElem hlt
    have ey : ys[i]? = some (ys[i]'(by omega)) := Array.getElem?_eq_getElem (by omega)
    refine codeAny_builtin PySem.F.entry_extend_loop ?_
    rw [Around.under_plainId PySem.F.plain_extend_loop _]
    show wpAny _ A.in1 (pyNext (.ref z) >>= _) _ _ _
    refine wpAny_bind (zat_item (s := { s with heap := h, toks := tk }) O hst (Heap.lt_size hS) ex ey fun h' hst' ht hkp => ?_)
    have hkp : ∀ b o, b ≠ z → b ≠ TO → b ≠ i1 → b ≠ i2 → h.get? b = some o → h'.get? b = some o := hkp
    have ht : IsPair h' h.objs.size _ _ := ht
    have hS' := hkp S _ O.sz.symm O.sto.symm O.s1.symm O.s2.symm hS
    have up : ∀ b o, b ≠ S → h'.get? b = some o → (h'.update S (Obj.mapSeq (·.push (Value.ref h.objs.size)))).get? b = some o := fun b o hb e => (Heap.get?_update_other _ _ (Ne.symm hb)).trans e
    have ltS : S < h.objs.size := Heap.lt_size hS
    show wpAny _ A.in1 (updateSeq S (·.push (Value.ref h.objs.size)) >>= _) _ _ _
    refine wpAny_bind ?_
    refine wpAny_updateSeq hS' rfl (wpAny_pure ⟨plainId_quiet PySem.F.plain_extend_loop _, ih (i + 1) _ tk _ (acc.push (Value.ref h.objs.size)) (as ++ [h.objs.size]) (by omega) hlt (hst'.frame O up)
      (fun b o n0 n1 n2 n3 n4 e => up b o n0 (hkp b o n1 n2 n3 n4 (hkeep b o n0 n1 n2 n3 n4 e))) (Heap.get?_update_self _ hS' rfl) (by rw [Array.toList_push, hacc, List.map_append]; rfl) (by rw [List.length_append, hal]; rfl) ?_ ?_⟩) (by rw [hsz]; omega) (by show (acc.push (Value.ref h.objs.size)).size ≤ sizeLine + 1; rw [Array.size_push, hsz]; omega)
    · intro j b hj
      rcases Nat.lt_trichotomy j as.length with q | q | q
      · rw [List.getElem?_append_left q] at hj
        obtain ⟨lt, x, y, g1, g2, g3⟩ := hG j b hj
        exact ⟨lt, x, y, g1, g2, up b _ (Nat.ne_of_gt (Nat.lt_of_le_of_lt e5 lt)) (hkp b _ (Nat.ne_of_gt (Nat.lt_of_le_of_lt e1 lt)) (Nat.ne_of_gt (Nat.lt_of_le_of_lt e2 lt)) (Nat.ne_of_gt (Nat.lt_of_le_of_lt e3 lt)) (Nat.ne_of_gt (Nat.lt_of_le_of_lt e4 lt)) g3)⟩
      · subst q
        have hb : h.objs.size = b := by simpa using hj
        subst hb
        subst hal
        exact ⟨hlo, _, _, ex, ey, up _ _ (Nat.ne_of_gt ltS) ht⟩
      · rw [List.getElem?_eq_none (by rw [List.length_append, List.length_singleton]; omega)] at hj
        cases hj
    · have e : (h'.update S (Obj.mapSeq (·.push (Value.ref h.objs.size)))).get? h.objs.size = _ := up _ _ (Nat.ne_of_gt ltS) ht
      exact Nat.lt_trans hlo (Heap.lt_size e)
theorem zip_no_len : typeLookup (.type "zip") "__len__" = pure none := am_miss_of_fast (by decide +kernel)
theorem zip_no_hint : typeLookup (.type "zip") "__length_hint__" = pure none := am_miss_of_fast (by decide +kernel)
theorem zil_extend {R : Result → Shared → Prop} (hh : A.handled = none) (O : ZOff z TI TO i1 i2 l1 l2 S) {lo : Addr} (e1 : z ≤ lo) (e2 : TO ≤ lo) (e3 : i1 ≤ lo) (e4 : i2 ≤ lo) (e5 : S ≤ lo) (en : ys.size = xs.size) (hn : xs.size ≤ sizeLine) (res : Value) (c₀ : Nat)
    (hz : IsZip s.heap z TI TO .none) (st : ZAt z TI TO i1 i2 l1 l2 S xs ys 0 s.heap) (hS : s.heap.get? S = some { cls := .type "list", data := .seq #[] c₀ }) (hlo : lo < s.heap.objs.size)
    (hR : ∀ h' tk acc c as, (∀ b o, b ≠ S → b ≠ z → b ≠ TO → b ≠ i1 → b ≠ i2 → s.heap.get? b = some o → h'.get? b = some o) → h'.get? S = some { cls := .type "list", dict := none, data := .seq acc c, slots := #[] } → as.length = xs.size → ZPairs xs ys lo h' as →
      acc.toList = as.map Value.ref → R (.ok (.ret res)) { s with heap := h', toks := tk }) :
    wpAny (model P w) A.in1 (Builtin.List.listExtendWith (.ref S) (.ref z) res)
      (fun fin s' => match fin with | .done f => R (.ok f) s' | .again c' => c'.quiet = true ∧ codeAny (model P w) A c' R s') (fun e s' => R (.error e) s') s := by
  have tz : s.TypeIs (.ref z) "zip" := ⟨_, hz, rfl⟩
  unfold Builtin.List.listExtendWith
  refine wpAny_bind (wpAny_typeOf tz ?_)
  have k1 : Builtin.List.listSameRef (.ref S) (.ref z) = false := by simp [Builtin.List.listSameRef, O.sz.symm]
  have k2 : (Value.type "zip" == Value.type "list") = false := by decide
  have k3 : (Value.type "zip" == Value.type "tuple") = false := by decide
  simp only [k1, k2, k3, Bool.or_false, Bool.false_eq_true, if_false]
  refine wpAny_bind (wpAny_pyIter_zip hz ?_)
  refine wpAny_bind (wpAny_holding ?_)
  unfold Builtin.List.listLengthHint
  refine wpAny_bind (wpAny_specialOf tz zip_no_len ?_)
  show wpAny _ A.in1 (specialOf (Value.ref z) (Str.ofString "__length_hint__") >>= _) _ _ _
  refine wpAny_bind (wpAny_specialOf tz zip_no_hint ?_)
  refine wpAny_pure ?_
  show wpAny _ A.in1 (rule "list.extend.makes-room" >>= fun _ => Builtin.List.listTouch (.ref S) >>= fun _ =>
    again (.builtin "list.extend.loop" ⟨[.ref S, .ref z, res], []⟩)) _ _ _
  refine wpAny_bind (wpAny_rule ?_)
  refine wpAny_bind ?_
  show wpAny _ A.in1 (updateSeq S (·.push .none) >>= fun _ => updateSeq S (·.pop)) _ _ _
  refine wpAny_bind (wpAny_updateSeq hS rfl ?_)
  have g2 := Heap.get?_update_self (Obj.mapSeq (·.push Value.none)) hS rfl
  refine wpAny_updateSeq (hz := by seq_fits) g2 rfl ?_
  have g3 := Heap.get?_update_self (Obj.mapSeq (·.pop)) g2 rfl
  have oth : ∀ b o, b ≠ S → s.heap.get? b = some o → ((s.heap.update S (Obj.mapSeq (·.push Value.none))).update S (Obj.mapSeq (·.pop))).get? b = some o :=
    fun b o hb e => (Heap.get?_update_other _ _ (Ne.symm hb)).trans ((Heap.get?_update_other _ _ (Ne.symm hb)).trans e)
  refine wpAny_pure ⟨plainId_quiet PySem.F.plain_extend_loop _, zil_loop (s := s) (h₁ := s.heap) hh O e1 e2 e3 e4 e5 en hn res hR xs.size 0 _ _ _ #[] [] (Nat.sub_zero _) (Nat.zero_le _) (st.frame O oth) (fun b o n0 _ _ _ _ e => oth b o n0 e) g3 rfl rfl (fun j a hj => by simp at hj) ?_⟩
  rw [Heap.size_update, Heap.size_update]
  exact hlo
theorem zil_init {R : Result → Shared → Prop} (hh : A.handled = none) (O : ZOff z TI TO i1 i2 l1 l2 S) {lo : Addr} (e1 : z ≤ lo) (e2 : TO ≤ lo) (e3 : i1 ≤ lo) (e4 : i2 ≤ lo) (e5 : S ≤ lo) (en : ys.size = xs.size) (hn : xs.size ≤ sizeLine)
    (hz : IsZip s.heap z TI TO .none) (st : ZAt z TI TO i1 i2 l1 l2 S xs ys 0 s.heap) (hS : s.heap.get? S = some { cls := .type "list", data := .seq #[] }) (hlo : lo < s.heap.objs.size)
    (hR : ∀ h' tk acc c as, (∀ b o, b ≠ S → b ≠ z → b ≠ TO → b ≠ i1 → b ≠ i2 → s.heap.get? b = some o → h'.get? b = some o) → h'.get? S = some { cls := .type "list", dict := none, data := .seq acc c, slots := #[] } → as.length = xs.size → ZPairs xs ys lo h' as →
      acc.toList = as.map Value.ref → R (.ok (.ret .none)) { s with heap := h', toks := tk }) :
    wpAny (model P w) A.in1 (Builtin.«list.__init__» ⟨[.ref S, .ref z], []⟩)
      (fun fin s' => match fin with | .done f => R (.ok f) s' | .again c' => c'.quiet = true ∧ codeAny (model P w) A c' R s') (fun e s' => R (.error e) s') s := by
  show wpAny _ A.in1 (do let old ← Builtin.List.listItems (.ref S); Builtin.List.listUpdate (.ref S) (fun _ => #[]); letGo old.toList.reverse; Builtin.List.listExtendWith (.ref S) (.ref z) .none) _ _ s
  refine wpAny_bind ?_
  unfold Builtin.List.listItems
  refine wpAny_bind (wpAny_seqItems hS rfl (wpAny_pure ?_))
  show wpAny _ A.in1 (updateSeq S (fun _ => #[]) >>= fun _ => letGo (#[] : Array Value).toList.reverse >>= fun _ => Builtin.List.listExtendWith (.ref S) (.ref z) .none) _ _ s
  refine wpAny_bind (wpAny_updateSeq hS rfl ?_)
  have g2 := Heap.get?_update_self (Obj.mapSeq (fun _ => (#[] : Array Value))) hS rfl
  have oth : ∀ b o, b ≠ S → s.heap.get? b = some o → (s.heap.update S (Obj.mapSeq (fun _ => (#[] : Array Value)))).get? b = some o :=
    fun b o hb e => (Heap.get?_update_other _ _ (Ne.symm hb)).trans e
  refine wpAny_bind (wpAny_letGo ?_)
  refine zil_extend (s := { s with heap := s.heap.update S (Obj.mapSeq (fun _ => (#[] : Array Value))) }) hh O e1 e2 e3 e4 e5 en hn .none _ (oth _ _ O.sz hz) (st.frame O oth) g2 (by show lo < (s.heap.update S _).objs.size; rw [Heap.size_update]; exact hlo) fun h' tk acc c as hk hS' hl hG hacc => ?_
  exact hR h' tk acc c as (fun b o n0 n1 n2 n3 n4 e => hk b o n0 n1 n2 n3 n4 (oth b o n0 e)) hS' hl hG hacc
/-- list(zip) of a zip that was just made -/
theorem zil_call {Q : Value → Shared → Prop} (hh : A.handled = none) (D : ZipApart z TI TO i1 i2 l1 l2) (en : ys.size = xs.size) (hn : xs.size ≤ sizeLine)
    (hz : IsZip s.heap z TI TO .none) (hTI : IsPair s.heap TI (.ref i1) (.ref i2)) (hTO : ∃ a b, IsPair s.heap TO a b) (h1 : s.heap.IsListIter i1 l1 0) (h2 : s.heap.IsListIter i2 l2 0) (hl1 : s.heap.IsList l1 xs) (hl2 : s.heap.IsList l2 ys)
    (hQ : ∀ h' tk acc c as, (∀ b o, b ≠ z → b ≠ TO → b ≠ i1 → b ≠ i2 → s.heap.get? b = some o → h'.get? b = some o) → h'.get? s.heap.objs.size = some { cls := .type "list", dict := none, data := .seq acc c, slots := #[] } → as.length = xs.size → ZPairs xs ys s.heap.objs.size h' as →
      acc.toList = as.map Value.ref → Q (.ref s.heap.objs.size) { s with heap := h', toks := tk }) :
    wpAny (model P w) A (call (.type "list") [.ref z]) Q E s := by
  refine callType_codes (Q₁ := fun obj s₁ => obj = .ref s.heap.objs.size ∧ s₁ = { s with heap := s.heap.push { cls := .type "list", data := .seq #[] } }) PySem.F.called_list (PySem.F.typeCall_list_1 _) PySem.F.entry_list_init
    (code_list_new _ ⟨rfl, rfl⟩) fun obj s₁ h₁ => ?_
  obtain ⟨rfl, rfl⟩ := h₁
  have hS : (s.heap.push { cls := .type "list", data := .seq #[] }).get? s.heap.objs.size = some { cls := .type "list", data := .seq #[] } := Heap.get?_push_size _ rfl
  have up : ∀ b o, s.heap.get? b = some o → (s.heap.push { cls := .type "list", data := .seq #[] }).get? b = some o := fun b o e => Heap.get?_push_of_some _ e
  have lt : ∀ {c o}, s.heap.get? c = some o → c < s.heap.objs.size := fun e => Heap.lt_size e
  obtain ⟨a, b, hTO⟩ := hTO
  have x1 : i1 < s.heap.objs.size := let ⟨_, e, _⟩ := h1; lt e
  have x2 : i2 < s.heap.objs.size := let ⟨_, e, _⟩ := h2; lt e
  have x3 : l1 < s.heap.objs.size := let ⟨_, e, _⟩ := hl1; lt e
  have x4 : l2 < s.heap.objs.size := let ⟨_, e, _⟩ := hl2; lt e
  have x5 := lt hz
  have x6 := lt hTI
  have x7 := lt hTO
  have O : ZOff z TI TO i1 i2 l1 l2 s.heap.objs.size := ⟨D, Nat.ne_of_lt x5, Nat.ne_of_lt x6, Nat.ne_of_lt x7, Nat.ne_of_lt x1, Nat.ne_of_lt x2, Nat.ne_of_lt x3, Nat.ne_of_lt x4⟩
  refine ⟨⟨_, hS, rfl⟩, PySem.F.args_list_init_2 _ _, zil_init (s := { s with heap := s.heap.push { cls := .type "list", data := .seq #[] } }) (A := A.in1) (lo := s.heap.objs.size) hh O (Nat.le_of_lt x5) (Nat.le_of_lt x7) (Nat.le_of_lt x1) (Nat.le_of_lt x2) (Nat.le_refl _) en hn (up _ _ hz)
    ⟨up _ _ hTI, h1.at fun o e => up _ o e, h2.at fun o e => up _ o e, hl1.at fun o e => up _ o e, hl2.at fun o e => up _ o e, .inl ⟨up _ _ hz, a, b, up _ _ hTO⟩⟩ hS (by show _ < (s.heap.push _).objs.size; rw [Heap.size_push]; exact Nat.lt_succ_self _) fun h' tk acc c as hk hS' hl hG hacc => ?_⟩
  exact ⟨rfl, hQ h' tk acc c as (fun b o n1 n2 n3 n4 e => hk b o (Nat.ne_of_lt (Heap.lt_size e)) n1 n2 n3 n4 (up b o e)) hS' hl hG hacc⟩
end
/-! ### dict(list(zip(keys, values))) -/
theorem zip_prs {P : Program} {w : World} : ∀ {kvs : List (Key × V)} {us ws : List Value}, Vals (kvs.map fun kv => kV kv.1) us → Vals (kvs.map (·.2)) ws → ∃ prs : List (Key × Value), KV kvs prs ∧ prs.length = us.length ∧ prs.length = ws.length ∧ ∀ (j : Nat) (q : Key × Value), prs[j]? = some q → ∃ u, us[j]? = some u ∧ ws[j]? = some q.2 ∧ keyIs q.1 u = true
  | [], us, ws, r1, r2 => by
    cases r1; cases r2
    exact ⟨[], .nil, rfl, rfl, fun j q e => by simp at e⟩
  | kv :: kvs, us, ws, r1, r2 => by
    rw [List.map_cons] at r1 r2
    cases r1 with
    | cons ru r1 =>
      cases r2 with
      | cons ry r2 =>
        obtain ⟨prs, rel, n1, n2, hp⟩ := zip_prs (P := P) (w := w) r1 r2
        refine ⟨(kv.1, _) :: prs, .cons ⟨rfl, ry⟩ rel, by rw [List.length_cons, List.length_cons, n1], by rw [List.length_cons, List.length_cons, n2], fun j q e => ?_⟩
        cases j with
        | zero =>
          have e' := Option.some.inj e
          subst e'
          exact ⟨_, rfl, rfl, kV_is (P := P) (w := w) ru⟩
        | succ j =>
          obtain ⟨u, g1, g2, g3⟩ := hp j q (by simpa using e)
          exact ⟨u, by simpa using g1, by simpa using g2, g3⟩
section
variable {X : Cx}
def tDictZip (K : PySem.W.Frag) (ta : TA) : TE := fun σ H Q => ta σ H fun vs H1 => ∃ (a b : Addr) (kvs : List (Key × V)), vs = [.ref a, .ref b] ∧ SqL K H1 a (kvs.map fun kv => kV kv.1) ∧ SqL K H1 b (kvs.map (·.2)) ∧ ∀ p, H1 p = none → Q (.ref p) (upd H1 p (.dK (mergeK [] kvs)))
theorem pe_dictZip {e1 e2 : Expr} {ta : TA} {p0 p1 p2 q0 q1 q2 : Pos} (cm : X.calm = true) (g0 : Gl X "dict") (m0 : X.mg "dict" = none) (g1 : Gl X "list") (m1 : X.mg "list" = none) (g2 : Gl X "zip") (m2 : X.mg "zip" = none) (ha : PA X [e1, e2] ta)
    (hs : starEach [e1, e2] X.env = (false, eval e1 X.env) :: starEach [e2] X.env := by rfl) (hpl : (backTo q2 (starEach [e2] X.env)).any (·.1) = false := by rfl) :
    PE X (.Call (.Name "dict" p0) [.Call (.Name "list" p1) [.Call (.Name "zip" p2) [e1, e2] [] q2] [] q1] [] q0) (tDictZip X.K ta) := by
  constructor
  intro pins s σ H Q I h
  refine Call_ (ld_blt I g0 m0 PyProof.Rows.boot_dict (callWith_type1 (args_cons ?_ rfl) rfl rfl))
  refine Call_ (ld_blt I g1 m1 PyProof.Rows.boot_list (callWith_type1 (args_cons ?_ rfl) rfl rfl))
  refine Call_ (ld_blt I g2 m2 PyProof.Rows.boot_zip (PyProof.Rows.callWith_type1 (thn (ha.run q2 pins s σ H _ I h) fun us t ⟨vs, H1, I1, r1, fin⟩ => ?_) hs hpl))
  obtain ⟨a, b, kvs, rfl, sa, sb, fin⟩ := fin
  cases r1 with
  | cons r rr =>
    cases rr with
    | cons r' rr =>
      cases rr
      cases r
      cases r'
      obtain ⟨its, rv, pl, hz⟩ := I1.list sa
      obtain ⟨its2, rv2, pl2, _⟩ := I1.list sb
      rw [List.length_map] at hz
      have n1 := rv.length
      have n2 := rv2.length
      rw [List.length_map] at n1 n2
      obtain ⟨prs, rel, w1, w2, hp⟩ := zip_prs (P := X.prog) (w := X.w) rv rv2
      refine call_zip_2 pl.isList pl2.isList fun h' hz' hTI hTO h1 h2 hsz hk => args_nil ?_
      refine zil_call (I1.ok.hd cm) (PySem.W.ktu_apart t.heap.objs.size a b pl.lt pl2.lt) (by simp; omega) (by simp; omega) hz' hTI ⟨_, _, hTO⟩ h1 h2 (pl.isList.at fun o e => hk _ o e) (pl2.isList.at fun o e => hk _ o e) fun h3 tk acc c as hk3 hS hal hG hacc => args_nil ?_
      have old : ∀ b o, t.heap.get? b = some o → h3.get? b = some o := fun b o e => by
        have lt : b < t.heap.objs.size := Heap.lt_size e
        exact hk3 b o (Nat.ne_of_lt (Nat.lt_add_right 4 lt)) (Nat.ne_of_lt (Nat.lt_add_right 3 lt)) (Nat.ne_of_lt lt) (Nat.ne_of_lt (Nat.lt_add_right 1 lt)) (hk b o e)
      have lS : h'.objs.size < h3.objs.size := Heap.lt_size hS
      have al : acc.size = as.length := by rw [← Array.length_toList, hacc, List.length_map]
      have bas : as.length = prs.length := by rw [hal, w1]; simp
      refine call_dict_pairs (s := { t with heap := h3, toks := tk }) (prs := prs) (I1.ok.hd cm) hS rfl rfl rfl (by rw [al, bas]) (by rw [w1]; omega) (fun j q e => ?_) fun h4 tk4 hd' k4 => ?_
      · obtain ⟨u, e1, e2, e3⟩ := hp j q e
        have jl : j < as.length := by rw [bas]; exact (List.getElem?_eq_some_iff.mp e).1
        obtain ⟨_, x, y, f1, f2, f3⟩ := hG j as[j] (List.getElem?_eq_getElem jl)
        have ex : x = u := by
          have : its.toArray[j]? = some u := by simpa using e1
          exact Option.some.inj (f1.symm.trans this)
        have ey : y = q.2 := by
          have : its2.toArray[j]? = some q.2 := by simpa using e2
          exact Option.some.inj (f2.symm.trans this)
        subst ex; subst ey
        refine ⟨as[j], x, ?_, ⟨_, f3, rfl, _, rfl⟩, e3⟩
        rw [← Array.getElem?_toList, hacc, List.getElem?_map, List.getElem?_eq_getElem jl]
        rfl
      · have lh : t.heap.objs.size ≤ h3.objs.size := by
          have lS' : h'.objs.size < h3.objs.size := lS
          rw [hsz] at lS'
          exact Nat.le_of_lt (Nat.lt_of_le_of_lt (Nat.le_add_right _ _) lS')
        have hm : (h3.objs.size == sysModules) = false := beq_eq_false_iff_ne.mpr (Nat.ne_of_gt (Nat.lt_of_lt_of_le I1.big lh))
        have hlen : (mergeK [] kvs).length ≤ sizeLine := Nat.le_trans (length_mergeK kvs []) (by rw [List.length_nil, Nat.zero_add]; exact hz)
        exact ⟨.ref h3.objs.size, upd H1 h3.objs.size (.dK (mergeK [] kvs)), I1.laid (t' := tk4) (fun b o e => k4 b o (old b o e)) lh (show ObjOk X.prog X.w _ _ _ (.dK (mergeK [] kvs)) from ⟨hlen, hm, merged [] prs, KV.merge rel .nil, hd'⟩), rfl, fin _ (I1.hok.fresh lh)⟩
end
end Cal


namespace Cal
open PySem PySem.Spec PyProof.Rows L2
/-! ### names as bits -/
theorem bit_add {i x : Nat} (h : x.testBit i = false) (j : Nat) : (2 ^ i + x).testBit j = (decide (i = j) || x.testBit j) := by
  rcases Nat.lt_trichotomy j i with hj | hj | hj
  · rw [Nat.testBit_two_pow_add_gt hj, decide_eq_false (by omega), Bool.false_or]
  · subst hj
    rw [Nat.testBit_two_pow_add_eq, h, decide_eq_true rfl]; rfl
  · have hx : x = 2 ^ (i + 1) * (x / 2 ^ (i + 1)) + x % 2 ^ (i + 1) := (Nat.div_add_mod x (2 ^ (i + 1))).symm
    have h1 : (x % 2 ^ (i + 1)).testBit i = false := by rw [Nat.testBit_mod_two_pow, h, Bool.and_false]
    have h2 : x % 2 ^ (i + 1) < 2 ^ (i + 1) := Nat.mod_lt _ (Nat.two_pow_pos _)
    generalize x % 2 ^ (i + 1) = r at hx h1 h2
    generalize x / 2 ^ (i + 1) = q at hx
    have p2 : 2 ^ (i + 1) = 2 ^ i + 2 ^ i := by rw [Nat.pow_succ]; omega
    have hr : r < 2 ^ i := by
      refine Nat.lt_of_not_le fun hle => ?_
      have h3 : r - 2 ^ i < 2 ^ i := by omega
      have e : r = 2 ^ i + (r - 2 ^ i) := by omega
      rw [e, Nat.testBit_two_pow_add_eq, Nat.testBit_lt_two_pow h3] at h1
      cases h1
    have e2 : 2 ^ i + x = 2 ^ (i + 1) * q + (2 ^ i + r) := by omega
    have h4 : 2 ^ i + r < 2 ^ (i + 1) := by omega
    have l1 : (2 ^ i + x).testBit j = q.testBit (j - (i + 1)) := by
      rw [e2, Nat.testBit_two_pow_mul_add _ h4, if_neg (by omega)]
    have l2 : x.testBit j = q.testBit (j - (i + 1)) := by
      rw [hx, Nat.testBit_two_pow_mul_add _ h2, if_neg (by omega)]
    rw [l1, l2, decide_eq_false (by omega), Bool.false_or]
def bitsN (nums k : List Str) : Nat := (k.map fun s => 2 ^ nums.idxOf s).sum
theorem idx_inj {nums : List Str} {s t : Str} (hs : s ∈ nums) (h : nums.idxOf s = nums.idxOf t) : s = t := by
  have l1 := List.idxOf_lt_length_of_mem hs
  have e1 := List.getElem_idxOf l1
  have l2 : nums.idxOf t < nums.length := h ▸ l1
  have e2 := List.getElem_idxOf l2
  have e3 : nums[nums.idxOf s] = nums[nums.idxOf t] := by simp only [h]
  rw [e1, e2] at e3; exact e3
theorem bitsN_bit {nums : List Str} : ∀ {k : List Str}, k.Nodup → (∀ s ∈ k, s ∈ nums) → ∀ t, (bitsN nums k).testBit t = k.any fun s => decide (nums.idxOf s = t)
  | [], _, _, t => by show (0 : Nat).testBit t = false; rw [Nat.zero_testBit]
  | s :: r, nd, hm, t => by
    rw [List.nodup_cons] at nd
    have ih := bitsN_bit nd.2 fun x hx => hm x (List.mem_cons_of_mem _ hx)
    have h0 : (bitsN nums r).testBit (nums.idxOf s) = false := by
      rw [ih]
      refine List.any_eq_false.mpr fun x hx z => nd.1 ?_
      have := of_decide_eq_true z
      rw [idx_inj (hm s (List.mem_cons_self ..)) this.symm]; exact hx
    show (2 ^ nums.idxOf s + bitsN nums r).testBit t = _
    rw [bit_add h0, List.any_cons, ih]
/-- some bit of a and b that h hasn't -/
theorem and_ne {a b h : Nat} : (a &&& b &&& h ≠ a &&& b) ↔ ∃ t, a.testBit t = true ∧ b.testBit t = true ∧ h.testBit t = false := by
  constructor
  · intro hne
    refine Classical.byContradiction fun hn => hne (Nat.eq_of_testBit_eq fun t => ?_)
    rw [Nat.testBit_and, Nat.testBit_and]
    cases ea : a.testBit t with
    | false => rfl
    | true =>
      cases eb : b.testBit t with
      | false => rfl
      | true =>
        cases eh : h.testBit t with
        | true => rfl
        | false => exact absurd ⟨t, ea, eb, eh⟩ hn
  · rintro ⟨t, ha, hb, hh⟩ e
    have := congrArg (fun n => n.testBit t) e
    simp only [Nat.testBit_and, ha, hb, hh] at this
    cases this
end Cal


namespace Cal
open PySem PySem.Spec PyProof.Rows L2
/-! ### methods called -/
theorem DtF.no {K : PySem.W.Frag} {G : Hp} {f : Str} : ∀ {fs : List (Str × D)} {vs : List (Str × V)}, DtF K G fs vs → fs.lookup f = none → vs.lookup f = none
  | [], _, h, _ => by rw [show _ = [] from h]; rfl
  | (g, e) :: r, _, ⟨v, r', rfl, hv, hr⟩, h => by
    rw [List.lookup_cons] at h ⊢
    by_cases z : (f == g) = true
    · rw [z] at h; cases h
    · rw [Bool.not_eq_true] at z
      rw [z] at h ⊢
      exact DtF.no hr h
def tObjArgs (C : Addr) (m : Str) (ta : TE) (t : TA) : TA := fun σ H Q => ta σ H fun x H1 => ∃ a dx fs, x = .ref a ∧ H1 a = some (.ins C dx fs) ∧ fs.lookup m = none ∧ t σ H1 fun vs H2 => Q (x :: vs) H2
section
variable {B : Bs} {ρ : Ro} {μ : Mu} {ta : TE} {t : TA} {C : Addr} {m : Str} {fs : List (Str × D)} {ds : List D} {d : D} {P : D → Prop} {E : XK}
theorem ea_obj (h0 : Ed B ta ρ μ (.obj C fs)) (hn : fs.lookup m = none) (h1 : Ea B t ρ μ (fun l => l = ds)) : Ea B (tObjArgs C m ta t) ρ μ (fun l => l = .obj C fs :: ds) := fun τ σ H a Q q => h0.go a fun v H1 d hd a1 => by
  subst hd
  obtain ⟨G, g, p, dx, vs, rfl, e, kf⟩ := id a1.top
  refine ⟨p, dx, vs, rfl, g.sub _ _ e, kf.no hn, h1 _ σ H1 a1 _ fun us H2 es hes hl a2 => ?_⟩
  subst hes
  refine q (V.ref p :: us) H2 (.obj C fs :: es) rfl (by rw [List.length_cons, List.length_cons, hl]) (a2.sub fun z hz => ?_)
  rw [List.zip_cons_cons] at hz
  rcases List.mem_cons.mp hz with y | y
  · rw [y]; exact List.mem_append_right _ (List.mem_cons_self ..)
  · rcases List.mem_append.mp y with y | y
    · exact List.mem_append_left _ y
    · exact List.mem_append_right _ (List.mem_cons_of_mem _ y)
theorem ed_mt {pre : List D → Prop} {post : List D → D → Prop} (h0 : Ed B ta ρ μ (.obj C fs)) (hn : fs.lookup m = none) (h1 : Ea B t ρ μ (fun l => l = ds)) (hpre : pre (.obj C fs :: ds)) (hpost : ∀ e, post (.obj C fs :: ds) e → e = d) : Ed B (tMeth C m (psp B.K pre post) [] E ta t) ρ μ d :=
  (ed_p (t := tObjArgs C m ta t) (E := E) (ea_obj h0 hn h1) hpre hpost : Ed B (tCall (psp B.K pre post) [] E (tObjArgs C m ta t)) ρ μ d)
end
/-! ### a walk over a tuple or over a list -/
def iSeq (K : PySem.W.Frag) (te : TE) : TI := fun σ H R => iTup K te σ H R ∨ iList K te σ H R
section
variable {X : Cx} {K : PySem.W.Frag} {l tg : Expr} {tl : TE}
theorem pi_seqK (hK : X.K = K) (h : PE X l tl) : PI X tg l (iSeq K tl) := ⟨fun pins s σ H R I w => by
  subst hK
  rcases w with w | w
  · exact (pi_tup h).run pins s σ H R I w
  · exact (pi_list h).run pins s σ H R I w⟩
end
section
variable {B : Bs} {ρ : Ro} {μ : Mu} {tl : TE} {n : Nat} {f : Nat → D}
theorem ei_seqT (h : Ei B (iTup B.K tl) ρ μ n f) : Ei B (iSeq B.K tl) ρ μ n f := fun τ σ H a Rr q => .inl (h τ σ H a Rr q)
theorem ei_seqL (h : Ei B (iList B.K tl) ρ μ n f) : Ei B (iSeq B.K tl) ρ μ n f := fun τ σ H a Rr q => .inr (h τ σ H a Rr q)
end
/-! ### & and | -/
section
variable {B : Bs} {ρ : Ro} {μ : Mu} {a b : Nat}
theorem rd_andN : RD B (rI0 fun i j => .int (Builtin.bitAnd i j)) ρ μ (.int (a : Int)) (.int (b : Int)) (fun e => e = .int ((a &&& b : Nat) : Int)) := by
  have e : Builtin.bitAnd (a : Int) (b : Int) = ((a &&& b : Nat) : Int) := by rw [bitAnd_pp (by omega) (by omega), Int.toNat_natCast, Int.toNat_natCast]
  rw [← e]
  exact rd_flat (fun _ => rfl) fun G H x y _ ha hb Q q => ⟨a, b, ha, hb, q⟩
theorem rd_orN : RD B (rI0 fun i j => .int (Builtin.bitOr i j)) ρ μ (.int (a : Int)) (.int (b : Int)) (fun e => e = .int ((a ||| b : Nat) : Int)) := by
  have e : Builtin.bitOr (a : Int) (b : Int) = ((a ||| b : Nat) : Int) := by rw [Bits.bitOr_pp (by omega) (by omega), Int.toNat_natCast, Int.toNat_natCast]
  rw [← e]
  exact rd_flat (fun _ => rfl) fun G H x y _ ha hb Q q => ⟨a, b, ha, hb, q⟩
end
end Cal


namespace Cal
open PySem PySem.Spec PyProof.Rows L2
theorem DtA.setAt {K : PySem.W.Frag} {G : Hp} {d : D} {v : V} (hd : Dt K G d v) : ∀ {ds : List D} {vs : List V} (i : Nat), DtA K G ds vs → DtA K G (ds.set i d) (vs.set i v)
  | [], _, i, h => by rw [show _ = [] from h]; rfl
  | e :: r, _, 0, ⟨u, vs, rfl, hu, hr⟩ => ⟨v, vs, rfl, hd, hr⟩
  | e :: r, _, i + 1, ⟨u, vs, rfl, hu, hr⟩ => ⟨u, vs.set i v, rfl, hu, DtA.setAt hd i hr⟩
/-- l[i] = x, l a list that changes -/
theorem x_setC {B : Bs} {ρ : Ro} {μ : Mu} {τ : List (V × D)} {σ : L2.St} {H : Hp} {te ti : TE} {p : Addr} {D0 : Ends} {j k : Nat} {ds : List D} {d : D} {i : Int} (a : At B ρ μ τ σ H) (hs : ρ[j]? = some (some (.raw (.ref p)))) (hm : μ[k]? = some (p, .lst ds)) (he : Ed B te ρ μ d) (hi : Ed B ti ρ μ (.int i)) (b0 : 0 ≤ i) (b1 : i < ds.length)
    (q : ∀ H', At B ρ (μ.set k (p, .lst (ds.set i.toNat d))) τ σ H' → D0.nx σ H') : tAsg te (gSub (tVar j) ti rSetL) D0 σ H := he.go a fun v H1 d1 hd a1 => by
  subst hd
  obtain ⟨v0, h1, h2⟩ := a1.var hs
  obtain ⟨G, g, hv⟩ := h2.top
  have hv' : v0 = V.ref p := hv
  subst hv'
  refine ⟨_, h1, hi.go a1 fun u H2 d2 hd2 a2 => ?_⟩
  subst hd2
  obtain ⟨G2, g2, hu⟩ := id a2.top
  have hu' : u = V.int i := hu
  subst hu'
  have hdv := g2.temps _ (List.mem_cons_self ..)
  obtain ⟨vs1, e2, k2⟩ := (g2.cells _ (List.mem_of_getElem? hm)).2.2.2
  refine ⟨p, vs1, i, i.toNat, rfl, rfl, e2, ?_, q _ ⟨G2, AtG.write (c' := .lst (ds.set i.toNat d1)) { g2 with temps := fun t ht => g2.temps t (List.mem_cons_of_mem _ ht) } hm ⟨_, upd_same, k2.setAt hdv i.toNat⟩⟩⟩
  unfold ixN
  rw [k2.length, if_pos b0, if_pos b1]
theorem y_setC {B : Bs} {ρ : Ro} {μ : Mu} {τ : List (V × D)} {σ : L2.St} {H : Hp} {te ti : TE} {tz : TS} {p : Addr} {D0 : Ends} {j k : Nat} {ds : List D} {d : D} {i : Int} (a : At B ρ μ τ σ H) (hs : ρ[j]? = some (some (.raw (.ref p)))) (hm : μ[k]? = some (p, .lst ds)) (he : Ed B te ρ μ d) (hi : Ed B ti ρ μ (.int i)) (b0 : 0 ≤ i) (b1 : i < ds.length)
    (q : ∀ H', At B ρ (μ.set k (p, .lst (ds.set i.toNat d))) τ σ H' → tz D0 σ H') : tSeq (tAsg te (gSub (tVar j) ti rSetL)) tz D0 σ H := x_setC (D0 := { D0 with nx := tz D0 }) a hs hm he hi b0 b1 q
/-- [x] * n as a list that changes -/
theorem xl_rep {B : Bs} {ρ : Ro} {μ : Mu} {ta tb : TE} {n : Nat} {c : Int} (h1 : Ed B ta ρ μ (.lst [.int c])) (h2 : Ed B tb ρ μ (.int (n : Int))) (hn : n ≤ 1000000) : Xl B (tOp rRep ta tb) ρ μ (List.replicate n (.int c)) := fun τ σ H a Q q => h1.go a fun x H1 d1 hd1 a1 => by
  subst hd1
  refine h2.go a1 fun y H2 d2 hd2 a2 => ?_
  subst hd2
  obtain ⟨G, g, ⟨p, vs, rfl, e1, k1⟩, hy⟩ := a2.two
  obtain ⟨v, r, rfl, hv, hr⟩ := k1
  have hr' : r = [] := hr
  subst hr'
  have hv' : v = V.int c := hv
  subst hv'
  refine ⟨p, n, [V.int c], rfl, hy, g.sub _ _ e1, by omega, by omega, by
    show 1 * ((n : Int)).toNat ≤ sizeLine
    exact Nat.le_trans (by omega) (show 1000000 ≤ sizeLine by decide), fun p2 hp2 => ?_⟩
  have e : (List.replicate ((n : Int)).toNat [V.int c]).flatten = List.replicate n (V.int c) := by rw [show ((n : Int)).toNat = n by omega, flat_rep]
  rw [e]
  have a3 : At B ρ μ τ σ H2 := a2.sub fun z hz => List.mem_cons_of_mem _ (List.mem_cons_of_mem _ hz)
  exact q _ _ _ _ ⟨p2, rfl, rfl⟩ (At.flat (At.newCell (c := .lst (List.replicate n (.int c))) a3 hp2 fun G' k' => ⟨_, upd_same, dt_rep (show Dt B.K G' (.int c) (V.int c) from rfl) n⟩).1 fun _ => rfl)
end Cal


namespace Cal
open PySem PySem.Spec PyProof.Rows L2
/-! ### dicts with ints as keys -/
section
variable {B : Bs} {ρ : Ro} {μ : Mu} {τ : List (V × D)} {σ : L2.St} {H : Hp} {td te ty tk tv : TE} {p : Addr} {D0 : Ends} {tz : TS} {j k : Nat} {kks : List (Key × D)} {x : Int} {d : D}
/-- d[x] = y, d a dict that changes, x not in it -/
theorem x_dputN (a : At B ρ μ τ σ H) (hs : ρ[j]? = some (some (.raw (.ref p)))) (hm : μ[k]? = some (p, .dk kks)) (hv : Ed B te ρ μ d) (hy : Ed B ty ρ μ (.int x)) (hn : getD' kks (.inl x) = none) (hz : kks.length < 100000) (q : ∀ H', At B ρ (μ.set k (p, .dk (kks ++ [(.inl x, d)]))) τ σ H' → D0.nx σ H') : sDPut (tVar j) ty te D0 σ H := by
  refine hv.go a fun v H1 d1 hd a1 => ?_
  subst hd
  obtain ⟨w, h1, h2⟩ := a1.var hs
  obtain ⟨G, g, hw⟩ := h2.top
  have hw' : w = V.ref p := hw
  subst hw'
  refine ⟨_, h1, hy.go a1 fun u H2 d2 hd2 a2 => ?_⟩
  subst hd2
  obtain ⟨G2, g2⟩ := id a2
  have hu : u = V.int x := g2.temps (u, .int x) (List.mem_cons_self ..)
  subst hu
  obtain ⟨kv2, e2, k2'⟩ := (g2.cells _ (List.mem_of_getElem? hm)).2.2.2
  have hv2 : valV kv2 (.inl x) = none := by
    rcases k2'.get (k := .inl x) with ⟨_, h4⟩ | ⟨dd, vv, h3, _⟩
    · exact h4
    · rw [hn] at h3; cases h3
  refine ⟨p, _, rfl, DPut.k (k := Sum.inl x) e2 (by rw [k2'.len]; exact Nat.lt_trans hz (by decide)), q _ ?_⟩
  refine At.pop (At.pop (At.write (c' := .dk (kks ++ [(.inl x, d1)])) a2 hm fun G' kt hc => ?_))
  obtain ⟨kv3, e3, k3'⟩ := hc
  rw [e2] at e3
  cases e3
  refine ⟨kv2 ++ [(.inl x, v)], ?_, DtK.app (show DtK B.K G' [(.inl x, d1)] [(.inl x, v)] from ⟨v, [], rfl, kt (v, d1) (List.mem_cons_of_mem _ (List.mem_cons_self ..)), rfl⟩) k3'⟩
  rw [upd_same]
  unfold putK
  rw [if_neg (by rw [any_none hv2]; exact Bool.false_ne_true)]
theorem y_dputN (a : At B ρ μ τ σ H) (hs : ρ[j]? = some (some (.raw (.ref p)))) (hm : μ[k]? = some (p, .dk kks)) (hv : Ed B te ρ μ d) (hy : Ed B ty ρ μ (.int x)) (hn : getD' kks (.inl x) = none) (hz : kks.length < 100000) (q : ∀ H', At B ρ (μ.set k (p, .dk (kks ++ [(.inl x, d)]))) τ σ H' → tz D0 σ H') : tSeq (sDPut (tVar j) ty te) tz D0 σ H := x_dputN (D0 := { D0 with nx := tz D0 }) a hs hm hv hy hn hz q
/-- x not in d, d a dict that changes -/
theorem eb_dnotinC (hs : ρ[j]? = some (some (.raw (.ref p)))) (hm : μ[k]? = some (p, .dk kks)) (hy : Ed B ty ρ μ (.int x)) : Eb B (tB (tDNotIn ty (tVar j))) ρ μ (!(getD' kks (.inl x)).isSome) := fun τ σ H a Q q => hy.go a fun u H1 d1 hd a1 => by
  subst hd
  obtain ⟨w, h1, h2⟩ := a1.var hs
  obtain ⟨G, g, hw⟩ := h2.top
  have hu : u = V.int x := g.temps (u, .int x) (List.mem_cons_self ..)
  subst hu
  obtain ⟨ws, e3, k3⟩ := (g.cells _ (List.mem_of_getElem? hm)).2.2.2
  refine ⟨w, h1, p, _, hw, DGet.k (k := Sum.inl x) e3, _, rfl, q _ H1 ?_ a1.pop⟩
  rcases k3.get (k := .inl x) with ⟨h3, h4⟩ | ⟨dd, vv, h3, h4, _⟩ <;> rw [h3, h4] <;> rfl
/-- x in d, d a dict that stands -/
theorem eb_dinF (hs : Ed B td ρ μ (.dk kks)) (hy : Ed B ty ρ μ (.int x)) : Eb B (tB (tDIn ty td)) ρ μ (getD' kks (.inl x)).isSome := fun τ σ H a Q q => hy.go a fun u H1 d1 hd a1 => hs.go a1 fun w H2 d2 hd2 a2 => by
  subst hd; subst hd2
  obtain ⟨G, g⟩ := id a2
  have hu : u = V.int x := g.temps (u, .int x) (List.mem_cons_of_mem _ (List.mem_cons_self ..))
  subst hu
  obtain ⟨pa, ws, rfl, e3, k3⟩ := g.temps _ (List.mem_cons_self ..)
  refine ⟨pa, _, rfl, DGet.k (k := Sum.inl x) (g.sub _ _ e3), _, rfl, q _ H2 ?_ a2.pop.pop⟩
  rcases k3.get (k := .inl x) with ⟨h3, h4⟩ | ⟨dd, vv, h3, h4, _⟩ <;> rw [h3, h4] <;> rfl
/-- d[x], d a dict that stands -/
theorem ed_dgetI (hs : Ed B td ρ μ (.dk kks)) (hy : Ed B ty ρ μ (.int x)) (hz : getD' kks (.inl x) = some d) : Ed B (tDGet td ty) ρ μ d := Ev.mk fun τ σ H a Q q => hs.go a fun w H1 d1 hd a1 => hy.go a1 fun u H2 d2 hd2 a2 => by
  subst hd; subst hd2
  obtain ⟨G, g, hu⟩ := id a2.top
  obtain ⟨pa, ws, e0, e3, k3⟩ := g.temps _ (List.mem_cons_self ..)
  have hu' : u = V.int x := hu
  subst hu'
  rcases k3.get (k := .inl x) with ⟨h3, h4⟩ | ⟨dd, vv, h3, h4, h5⟩
  · rw [hz] at h3; cases h3
  · rw [hz] at h3
    cases h3
    refine ⟨pa, vv, e0, ?_, q vv H2 _ rfl ⟨G, AtG.push { g with temps := fun t ht => g.temps t (List.mem_cons_of_mem _ ht) } h5⟩⟩
    rw [← h4]
    exact DGet.k (k := Sum.inl x) (g.sub _ _ e3)
/-- {x: y} as a dict that will change, x and y ints -/
theorem xv_disp1 {y : Int} (h1 : ∀ q, Ed B tk ρ ((q, .dk []) :: μ) (.int x)) (h2 : ∀ q, Ed B tv ρ ((q, .dk []) :: μ) (.int y)) : Xv B (tDisp [(tk, tv)]) ρ μ (fun d μ' => ∃ p, d = .raw (.ref p) ∧ μ' = (p, .dk [(.inl x, .int y)]) :: μ) := fun τ σ H a Q q => fun p hp => by
  obtain ⟨a1, _⟩ := At.newCell (c := .dk []) (o := .dK []) a hp fun G _ => ⟨[], upd_same, rfl⟩
  simp only [tPairs]
  refine (h1 p).go a1 fun u H1 d1 hd1 a2 => ?_
  subst hd1
  refine (h2 p).go a2 fun v H2 d2 hd2 a3 => ?_
  subst hd2
  obtain ⟨G0, g0⟩ := id a3
  have hu : u = V.int x := g0.temps (u, .int x) (List.mem_cons_of_mem _ (List.mem_cons_self ..))
  have hv : v = V.int y := g0.temps (v, .int y) (List.mem_cons_self ..)
  subst hu; subst hv
  obtain ⟨G, g, ws, e, k⟩ := a3.cell (j := 0) rfl
  have hw : ws = [] := k
  subst hw
  refine ⟨e, [(.inl x, .int y)], rfl, by show 1 ≤ 15; decide, ?_⟩
  have a4 := At.write (j := 0) (c' := .dk [(.inl x, .int y)]) (o := .dK (mergeK [] [(.inl x, V.int y)])) a3 rfl fun G' k' _ => ⟨_, upd_same, ⟨V.int y, [], rfl, rfl, rfl⟩⟩
  exact q _ _ _ _ ⟨p, rfl, rfl⟩ (At.flat a4.pop.pop fun _ => rfl)
/-- name += e, ints -/
theorem x_aug {i : Nat} {y : Int} (a : At B ρ μ τ σ H) (hs : ρ[i]? = some (some (.int x))) (he : Ed B te ρ μ (.int y)) (q : ∀ σ' H', At B (ρ.set i (some (.int (x + y)))) μ τ σ' H' → D0.nx σ' H') : tAug i te (ipI fun i j => i + j) D0 σ H := by
  obtain ⟨u, h1, h2⟩ := a.var hs
  obtain ⟨G, g, hu⟩ := h2.top
  have hu' : u = V.int x := hu
  subst hu'
  refine ⟨_, h1, he.go a fun v H1 d hd a1 => ?_⟩
  subst hd
  obtain ⟨G1, g1, hv⟩ := id a1.top
  have hv' : v = V.int y := hv
  subst hv'
  refine ⟨x, y, rfl, rfl, q _ _ ?_⟩
  have a2 : At B ρ μ ((V.int (x + y), .int (x + y)) :: τ) σ H1 := At.flat a1.pop fun _ => rfl
  exact a2.set i
theorem y_aug {i : Nat} {y : Int} (a : At B ρ μ τ σ H) (hs : ρ[i]? = some (some (.int x))) (he : Ed B te ρ μ (.int y)) (q : ∀ σ' H', At B (ρ.set i (some (.int (x + y)))) μ τ σ' H' → tz D0 σ' H') : tSeq (tAug i te (ipI fun i j => i + j)) tz D0 σ H := x_aug (D0 := { D0 with nx := tz D0 }) a hs he q
end
end Cal


namespace Cal
open PySem PySem.Spec PyProof.Rows L2
/-! ### over data: sorted(set(l)), dict(list(zip(..))), lists of new lists -/
theorem perm_mem {α : Type} [DecidableEq α] : ∀ (l ys : List α), l.Nodup → (∀ k ∈ l, k ∈ ys) → ys.length ≤ l.length → ys.Perm l
  | [], ys, _, _, h => by
    have : ys = [] := List.eq_nil_of_length_eq_zero (Nat.le_zero.mp h)
    rw [this]
  | x :: r, ys, nd, hm, h => by
    obtain ⟨n1, n2⟩ := List.nodup_cons.mp nd
    have hx := hm x (List.mem_cons_self ..)
    have p1 := List.perm_cons_erase hx
    have l1 : (ys.erase x).length + 1 = ys.length := by rw [List.length_erase_of_mem hx]; have := List.length_pos_of_mem hx; omega
    have p2 := perm_mem r (ys.erase x) n2 (fun k hk => by
      have hne : k ≠ x := fun e => n1 (e ▸ hk)
      exact (List.mem_erase_of_ne hne).mpr (hm k (List.mem_cons_of_mem _ hk))) (by rw [List.length_cons] at h; omega)
    exact p1.trans (p2.cons x)
theorem atI_of2 {α : Type} {ds : List α} {x : Int} {d : α} (h0 : 0 ≤ x) (h : ds[x.toNat]? = some d) : atI ds x = some d := by
  have hl := (List.getElem?_eq_some_iff.mp h).1
  unfold atI ixN
  rw [if_pos h0, if_pos (by omega)]
  exact h
theorem mergeK_nd : ∀ (more kvs : List (Key × V)), ((kvs ++ more).map (·.1)).Nodup → mergeK kvs more = kvs ++ more
  | [], kvs, _ => by rw [List.append_nil]; rfl
  | p :: r, kvs, h => by
    have h2 : (kvs ++ [p] ++ r) = kvs ++ p :: r := by rw [List.append_assoc]; rfl
    have e : putK kvs p.1 p.2 = kvs ++ [p] := by
      unfold putK
      rw [if_neg]
      intro z
      obtain ⟨q, hq, e⟩ := List.any_eq_true.mp z
      have e := of_decide_eq_true e
      rw [List.map_append, List.map_cons] at h
      exact (List.nodup_append.mp h).2.2 q.1 (List.mem_map.mpr ⟨q, hq, rfl⟩) p.1 (List.mem_cons_self ..) e
    show mergeK (putK kvs p.1 p.2) r = _
    rw [e, mergeK_nd r (kvs ++ [p]) (by rw [h2]; exact h), h2]
section
variable {B : Bs} {ρ : Ro} {μ : Mu} {τ : List (V × D)} {σ : L2.St} {H G : Hp} {te ta tb td ty : TE} {P : D → Prop} {R : D → Mu → Prop} {d d1 d2 : D} {ds es : List D} {D0 : Ends} {tz : TS} {k l : Nat} {Pg : Program} {w : World} {kks : List (Key × D)} {x : Int} {is : List Int}
theorem AtG.newDk {kvs : List (Key × V)} {p : Addr} (h : AtG B ρ μ τ σ H G) (hp : H p = none) (k : DtK B.K G kks kvs) : At B ρ μ ((.ref p, .dk kks) :: τ) σ (upd H p (.dK kvs)) := by
  obtain ⟨h', s⟩ := h.new (o := .dK kvs) hp
  exact ⟨_, h'.push ⟨p, kvs, rfl, upd_same, DtK.mono s kks k⟩⟩
theorem ev_sortSetD {ks : List Str} (h : Ed B te ρ μ (.lst (ks.map D.str))) (few : (runT ks).length < 64) :
    Ev B (tCB (rSortedTx Pg w) (tCons (tCB (rSetD B.K Pg w) (tCons te tNil)) tNil)) ρ μ (fun e => ∃ ys : List Str, e = .lst (ys.map D.str) ∧ sortedS ys = true ∧ (∀ k, k ∈ ys ↔ k ∈ ks) ∧ ys.Perm (runT ks)) := Ev.mk fun τ σ H a Q q => h.go a fun v H1 d hd a1 => by
  subst hd
  obtain ⟨G, g, p, vs, rfl, e, k⟩ := id a1.top
  have hs : SqL B.K H1 p (ks.map V.str) := by rw [← k.strs]; exact .inl (.inl (g.sub _ _ e))
  refine ⟨p, ks, rfl, hs, few, fun a' ha' => ?_⟩
  refine ⟨a', runT ks, rfl, upd_same, few, fun ys p2 h1 h2 h3 hp2 => ?_⟩
  obtain ⟨g2, _⟩ := g.new (o := SetT Pg w a' (runT ks)) ha'
  exact q _ _ _ ⟨ys, rfl, h1, fun k => by rw [h2 k, runT_mem], perm_mem _ _ (runT_nd ks) (fun k hk => (h2 k).mpr hk) (by omega)⟩ (g2.newLst hp2 (DtA.of_strs ys))
theorem ev_sortSetI (h : Ed B te ρ μ (.lst (is.map D.int))) (few : is.length < 60) :
    Ev B (tCB (rSortedSet w) (tCons (tCB (rSetDI B.K w) (tCons te tNil)) tNil)) ρ μ (fun e => ∃ ys : List Int, e = .lst (ys.map D.int) ∧ ys.Pairwise (· < ·) ∧ ∀ k, k ∈ ys ↔ k ∈ is) := Ev.mk fun τ σ H a Q q => h.go a fun v H1 d hd a1 => by
  subst hd
  obtain ⟨G, g, p, vs, rfl, e, k⟩ := id a1.top
  have hs : SqL B.K H1 p (is.map V.int) := by rw [← k.ints]; exact .inl (.inl (g.sub _ _ e))
  refine ⟨p, is, rfl, hs, few, fun a' c hc ha' => ?_⟩
  refine ⟨a', _, c, rfl, upd_same, by omega, fun ys p2 h1 h2 h3 hp2 => ?_⟩
  obtain ⟨g2, _⟩ := g.new (o := SetO w a' (fun j => decide (j ∈ is)) c) ha'
  exact q _ _ _ ⟨ys, rfl, h1, fun k => by rw [h2 k, decide_eq_true_eq]⟩ (g2.newLst hp2 (DtA.of_ints ys))
/-- texts as keys, texts as values -/
def txtK (ks ns : List Str) : List (Key × D) := List.zipWith (fun k n => (.inr k, .str n)) ks ns
theorem ev_dictZip {ks : List Str} {Pn : List Str → Prop} (h1 : Ed B ta ρ μ (.lst (ks.map D.str))) (nd : ks.Nodup) (h2 : Ev B tb ρ μ fun d => ∃ ns : List Str, d = .lst (ns.map D.str) ∧ ns.length = ks.length ∧ Pn ns) :
    Ev B (tDictZip B.K (tCons ta (tCons tb tNil))) ρ μ (fun d => ∃ ns : List Str, d = .dk (txtK ks ns) ∧ ns.length = ks.length ∧ Pn ns) := Ev.mk fun τ σ H a Q q => h1.go a fun v H1 d hd a1 => h2.go a1 fun v2 H2 d2 hd2 a2 => by
  subst hd
  obtain ⟨ns, rfl, hl, hn⟩ := hd2
  obtain ⟨G, g⟩ := id a2
  obtain ⟨p, vs, rfl, e1, k1⟩ := g.temps (v, .lst (ks.map D.str)) (List.mem_cons_of_mem _ (List.mem_cons_self ..))
  obtain ⟨p2, vs2, rfl, e2, k2⟩ := g.temps (v2, .lst (ns.map D.str)) (List.mem_cons_self ..)
  have s1 := k1.strs
  have s2 := k2.strs
  subst s1; subst s2
  have m1 : ∀ (ks ns : List Str), ns.length = ks.length → (List.zipWith (fun k n => ((.inr k : Key), V.str n)) ks ns).map (fun kv => kV kv.1) = ks.map V.str ∧ (List.zipWith (fun k n => ((.inr k : Key), V.str n)) ks ns).map (·.2) = ns.map V.str ∧ (List.zipWith (fun k n => ((.inr k : Key), V.str n)) ks ns).map (·.1) = ks.map Sum.inr ∧ DtK B.K G (txtK ks ns) (List.zipWith (fun k n => ((.inr k : Key), V.str n)) ks ns) := by
    intro ks
    induction ks with
    | nil => intro ns h; cases ns with
      | nil => exact ⟨rfl, rfl, rfl, rfl⟩
      | cons n r => simp at h
    | cons k r ih => intro ns h; cases ns with
      | nil => simp at h
      | cons n ns =>
        obtain ⟨f1, f2, f3, f4⟩ := ih ns (by simpa using h)
        exact ⟨congrArg (V.str k :: ·) f1, congrArg (V.str n :: ·) f2, congrArg ((Sum.inr k : Key) :: ·) f3, ⟨V.str n, _, rfl, rfl, f4⟩⟩
  obtain ⟨f1, f2, f3, f4⟩ := m1 ks ns hl
  refine ⟨p, p2, List.zipWith (fun k n => ((.inr k : Key), V.str n)) ks ns, rfl, by rw [f1]; exact .inl (.inl (g.sub _ _ e1)), by rw [f2]; exact .inl (.inl (g.sub _ _ e2)), fun p3 hp3 => ?_⟩
  rw [mergeK_nd _ [] (by rw [List.nil_append, f3]; exact List.pairwise_map.mpr (nd.imp fun h e => h (Sum.inr.inj e))), List.nil_append]
  exact q _ _ _ ⟨ns, rfl, hl, hn⟩ (At.sub (AtG.newDk g hp3 f4) fun z hz => by
    rcases List.mem_cons.mp hz with e | hz
    · rw [e]; exact List.mem_cons_self ..
    · exact List.mem_cons_of_mem _ (List.mem_cons_of_mem _ (List.mem_cons_of_mem _ hz)))
theorem txtK_get : ∀ (ks ns : List Str) (s : Str), ns.length = ks.length → s ∈ ks → ∃ n ∈ ns, getD' (txtK ks ns) (.inr s) = some (.str n) := by
  intro ks
  induction ks with
  | nil => intro ns s _ h; cases h
  | cons k r ih => intro ns s hl h; cases ns with
    | nil => simp at hl
    | cons n ns =>
      by_cases e : k = s
      · subst e
        exact ⟨n, List.mem_cons_self .., by unfold txtK getD'; simp⟩
      · have hs : s ∈ r := by
          rcases List.mem_cons.mp h with z | z
          · exact absurd z.symm e
          · exact z
        obtain ⟨m, hm, g⟩ := ih ns s (by simpa using hl) hs
        refine ⟨m, List.mem_cons_of_mem _ hm, ?_⟩
        rw [← g]
        unfold txtK getD'
        simp [e]
/-- [[], []] -/
theorem xl_two : Xv B (tLst (tCons (tLst tNil) (tCons (tLst tNil) tNil))) ρ μ fun d μ' => ∃ p p0 p1, d = rr p ∧ μ' = (p, .lst ([p0, p1].map rr)) :: (rowsMu [p0, p1] [[], []] ++ μ) := fun τ σ H a Q q => by
  refine ⟨Nat.zero_le _, fun p0 hp0 => ⟨Nat.zero_le _, fun p1 hp1 => ⟨by show 2 ≤ _; decide, fun p hp => ?_⟩⟩⟩
  obtain ⟨a0, _⟩ := At.newCell (c := .lst []) (o := .lst []) a hp0 fun G _ => ⟨[], upd_same, rfl⟩
  obtain ⟨a1, _⟩ := At.newCell (c := .lst []) (o := .lst []) a0 hp1 fun G _ => ⟨[], upd_same, rfl⟩
  obtain ⟨a2, _⟩ := At.newCell (c := .lst [rr p0, rr p1]) (o := .lst [.ref p0, .ref p1]) a1 hp fun G _ => ⟨_, upd_same, _, _, rfl, rfl, _, _, rfl, rfl, rfl⟩
  exact q _ _ _ _ ⟨p, p0, p1, rfl, rfl⟩ (At.flat (At.perm a2 ((List.Perm.swap _ _ _).cons _)) fun _ => rfl)
theorem xv_tup2 (h1 : Ed B ta ρ μ d1) (h2 : Xv B tb ρ μ R) : Xv B (tTup (tCons ta (tCons tb tNil))) ρ μ fun d μ' => ∃ d2, d = .tup [d1, d2] ∧ R d2 μ' := fun τ σ H a Q q => h1.go a fun v1 H1 d hd a1 => h2 _ σ H1 a1 _ fun v2 H2 d2 μ' hr a2 => by
  subst hd
  refine ⟨by show 2 ≤ _; decide, fun p hp => q _ _ _ _ ⟨d2, rfl, hr⟩ ?_⟩
  obtain ⟨G, g⟩ := id a2
  exact At.sub (AtG.newTup (ds := [d, d2]) g hp ⟨v1, [v2], rfl, g.temps (v1, d) (List.mem_cons_of_mem _ (List.mem_cons_self ..)), v2, [], rfl, g.temps (v2, d2) (List.mem_cons_self ..), rfl⟩) fun z hz => by
    rcases List.mem_cons.mp hz with e | hz
    · rw [e]; exact List.mem_cons_self ..
    · exact List.mem_cons_of_mem _ (List.mem_cons_of_mem _ (List.mem_cons_of_mem _ hz))
/-- a, b = an expression that makes cells -/
theorem y_asgX2 (a : At B ρ μ τ σ H) (he : Xv B te ρ μ R) (hR : ∀ d μ', R d μ' → ∃ d1 d2, d = .tup [d1, d2]) (q : ∀ d1 d2 μ' σ' H', R (.tup [d1, d2]) μ' → At B ((ρ.set k (some d1)).set l (some d2)) μ' τ σ' H' → tz D0 σ' H') : tSeq (tAsg te (gTup B.K 2 (gCons (gName k) (gCons (gName l) gNil)))) tz D0 σ H :=
  he τ σ H a _ fun v H1 d μ' hd a1 => by
    obtain ⟨d1, d2, rfl⟩ := hR d μ' hd
    exact gd_tup2 τ σ H1 v a1 _ fun σ' a2 _ _ => q d1 d2 μ' σ' H1 hd a2
/-- l.index(x), ints, x in l -/
theorem ed_index (h1 : Ed B ta ρ μ (.lst (is.map .int))) (h2 : Ed B tb ρ μ (.int x)) (hx : x ∈ is) : Ed B (tBM B.K "list" (rIndex B.K) ta (tCons tb tNil)) ρ μ (.int ((is.idxOf x : Nat) : Int)) := Ev.mk fun τ σ H a Q q => h1.go a fun v H1 d hd a1 => by
  subst hd
  obtain ⟨G, g, p, vs, rfl, e, k⟩ := id a1.top
  refine ⟨.inl ⟨rfl, _, .inl (.inl (g.sub _ _ e))⟩, h2.go a1 fun u H2 d hd a2 => ?_⟩
  subst hd
  obtain ⟨G2, g2⟩ := id a2
  have hu : u = V.int x := g2.temps (u, .int x) (List.mem_cons_self ..)
  subst hu
  obtain ⟨p', vs', ep, e2, k2⟩ := g2.temps (V.ref p, .lst (is.map .int)) (List.mem_cons_of_mem _ (List.mem_cons_self ..))
  cases ep
  have s2 := k2.ints
  subst s2
  have jl : is.idxOf x < is.length := List.idxOf_lt_length_of_mem hx
  refine ⟨p, is.map V.int, .int x, is.idxOf x, .int x, rfl, rfl, .inl (.inl (g2.sub _ _ e2)), rfl, by rw [List.all_map]; exact List.all_eq_true.mpr fun _ _ => rfl, ?_, ?_, fun m z' hm hz => ?_, q _ _ _ rfl (At.flat (At.pop (At.pop a2)) fun _ => rfl)⟩
  · rw [List.getElem?_map, List.getElem?_eq_getElem jl, List.getElem_idxOf]
    rfl
  · show (x == x) = true
    exact beq_self_eq_true x
  · rw [List.getElem?_map] at hz
    have ml : m < is.length := by omega
    rw [List.getElem?_eq_getElem ml] at hz
    cases hz
    show (is[m] == x) = false
    have := List.not_of_lt_findIdx (p := (· == x)) (xs := is) hm
    simpa using this
/-- x not in l, ints -/
theorem rd_notInL {i : Int} : RD B (rIn B.K true) ρ μ (.int i) (.lst (is.map .int)) (fun e => e = .bl (!decide (i ∈ is))) := fun τ σ H x y a Q q => by
  obtain ⟨G, g, hx, ⟨p, vs, rfl, e1, k1⟩⟩ := a.two
  have hx' : x = V.int i := hx
  have hv := k1.ints
  subst hx'; subst hv
  refine ⟨p, _, rfl, .inl (.inl (.inl (g.sub _ _ e1))), rfl, by rw [List.all_map]; exact List.all_eq_true.mpr fun _ _ => rfl, ?_⟩
  have e : inV (.int i) (is.map V.int) = decide (i ∈ is) := by
    unfold inV
    rw [List.any_map]
    by_cases h : i ∈ is
    · rw [decide_eq_true h]
      exact List.any_eq_true.mpr ⟨i, h, by show (i == i) = true; exact beq_self_eq_true i⟩
    · rw [decide_eq_false h]
      refine List.any_eq_false.mpr fun y hy z => h ?_
      have z' : (y == i) = true := z
      rw [← eq_of_beq z']; exact hy
  show Q (.bl (!inV (.int i) (is.map V.int))) H
  rw [e]
  exact q _ H _ rfl (At.flat ⟨G, g⟩ fun _ => rfl)
/-- zip of two lists -/
theorem ei_zipL {t : TA} (h : Ea B t ρ μ (fun l => l = [.lst ds, .lst es])) : Ei B (RZ.iZipA B.K t) ρ μ (min ds.length es.length) (fun i => .tup [ds.getD i .non, es.getD i .non]) := fun τ σ H a Rr q => h τ σ H a _ fun vs H1 l hl hlen a1 => by
  subst hl
  obtain ⟨G, g, k⟩ := id (a1.args hlen)
  obtain ⟨v, w, rfl, ⟨p, xs, rfl, e1, k1⟩, ⟨p', ys, rfl, e2, k2⟩⟩ := two_args k
  refine ⟨p, p', xs, ys, rfl, .inl ⟨.inl (.inl (g.sub _ _ e1)), .inl (.inl (g.sub _ _ e2)), ?_⟩⟩
  refine q _ H1 _ (fun z hz => List.mem_append_right _ hz) a1 fun i ρ' μ' τ' σ' H' hsub a2 => ?_
  obtain ⟨G2, g2⟩ := id a2
  obtain ⟨q1, xs', c1, e3, k3⟩ := g2.temps (V.ref p, .lst ds) (hsub _ (by simp))
  obtain ⟨q2, ys', c2, e4, k4⟩ := g2.temps (V.ref p', .lst es) (hsub _ (by simp))
  cases c1; cases c2
  have s1 : SqL B.K H' p xs' := .inl (.inl (g2.sub _ _ e3))
  have s2 : SqL B.K H' p' ys' := .inl (.inl (g2.sub _ _ e4))
  refine ⟨fun hi => ⟨xs', ys', s1, s2, by rw [k3.length, k4.length]; omega⟩, fun hi => ?_⟩
  obtain ⟨x, hx, dx⟩ := k3.get (getD_of (show i < ds.length by omega))
  obtain ⟨y, hy, dy⟩ := k4.get (getD_of (show i < es.length by omega))
  refine ⟨⟨xs', ys', x, y, s1, s2, hx, hy⟩, fun z H2 hz => ?_⟩
  obtain ⟨T, x1, y1, rfl, nT, rfl, f1, f2⟩ := hz
  have ex : x = x1 := Option.some.inj (hx.symm.trans (f1 _ s1))
  have ey : y = y1 := Option.some.inj (hy.symm.trans (f2 _ s2))
  subst ex; subst ey
  exact g2.newTup nT ⟨x, _, rfl, dx, y, _, rfl, dy, rfl⟩
/-- name, (one, other) = a value -/
theorem gd_tup12 {d3 : D} {m : Nat} : Gd B (gTup B.K 2 (gCons (gName k) (gCons (gTup B.K 2 (gCons (gName l) (gCons (gName m) gNil))) gNil))) ρ μ (.tup [d1, .tup [d2, d3]]) (((ρ.set k (some d1)).set l (some d2)).set m (some d3)) [k, l, m] := fun τ σ H v a Q q => by
  obtain ⟨G, g, p, vs, rfl, e, u, r, rfl, hu, w, r', rfl, hw, rfl⟩ := a.top
  obtain ⟨p', vs', rfl, e', u', r', rfl, hu', w', r'', rfl, hw', rfl⟩ := id hw
  refine ⟨p, [u, .ref p'], rfl, .inl (.inl (g.sub _ _ e)), rfl, u, [.ref p'], rfl, .ref p', [], rfl, ?_⟩
  refine ⟨p', [u', w'], rfl, .inl (.inl (g.sub _ _ e')), rfl, u', [w'], rfl, w', [], rfl, rfl, ?_⟩
  refine ⟨rfl, ?_⟩
  refine q _ (At.set m (At.set (τ := (w', d3) :: τ) l (At.set (τ := (u', d2) :: (w', d3) :: τ) k ⟨G, ((g.push hw').push hu').push hu⟩))) (by rw [List.length_set, List.length_set, List.length_set]) fun i hi => ?_
  rw [List.getElem?_set_ne (fun z => hi (by rw [z]; simp)), List.getElem?_set_ne (fun z => hi (by rw [z]; simp)), List.getElem?_set_ne (fun z => hi (by rw [z]; simp))]
/-- a row of a list of lists gets an item more, which an expression makes that changes other lists -/
theorem x_rowAppX {pk : Addr} {ls : List Addr} {rows : List (List D)} {μ0 : Mu} {ja : Nat} {ti : TE} {R0 : D → Mu → Prop} (a : At B ρ ((pk, .lst (ls.map rr)) :: (rowsMu ls rows ++ μ0)) τ σ H) (hl : ls.length = rows.length) (hk : ρ[ja]? = some (some (rr pk)))
    (hx : Ed B ti ρ ((pk, .lst (ls.map rr)) :: (rowsMu ls rows ++ μ0)) (.int x)) (b1 : 0 ≤ x) (b2 : x < rows.length) (he : Xv B te ρ ((pk, .lst (ls.map rr)) :: (rowsMu ls rows ++ μ0)) fun d μ' => ∃ μ1, μ' = (pk, .lst (ls.map rr)) :: (rowsMu ls rows ++ μ1) ∧ R0 d μ1) (hz : (rows.getD x.toNat []).length < 100000)
    (q : ∀ d μ1 H', R0 d μ1 → At B ρ ((pk, .lst (ls.map rr)) :: (rowsMu ls (rows.set x.toNat (rows.getD x.toNat [] ++ [d])) ++ μ1)) τ σ H' → D0.nx σ H') :
    tDrop (tBM B.K "list" rAppend (tOp (rIx B.K) (tVar ja) ti) (tCons te tNil)) D0 σ H := by
  have hxr : x.toNat < rows.length := by omega
  have hxl : x.toNat < ls.length := by omega
  have el : ls[x.toNat]? = some ls[x.toNat] := List.getElem?_eq_getElem hxl
  have er : rows[x.toNat]? = some (rows.getD x.toNat []) := by rw [List.getD_eq_getElem?_getD, List.getElem?_eq_getElem hxr]; rfl
  have hg := rowsMu_get el er
  have hgl := (List.getElem?_eq_some_iff.mp hg).1
  refine x_append (k := x.toNat + 1) (ds := rows.getD x.toNat []) (R := fun d μ' => ∃ μ1, μ' = (pk, .lst (ls.map rr)) :: (rowsMu ls rows ++ μ1) ∧ R0 d μ1) a (ho_of (ed_op (ed_var hk) hx (rd_ixC (k := 0) rfl (atI_of2 b1 (by rw [List.getElem?_map, el]; rfl))))) (by rw [List.getElem?_cons_succ, List.getElem?_append_left hgl]; exact hg) he (fun d μ' ⟨μ1, e, _⟩ => by rw [e, List.getElem?_cons_succ, List.getElem?_append_left hgl]; exact hg) hz fun d μ' H4 ⟨μ1, e1, e2⟩ a4 => ?_
  subst e1
  have e3 : (((pk, Cl.lst (ls.map rr)) :: (rowsMu ls rows ++ μ1)).set (x.toNat + 1) (ls[x.toNat], .lst (rows.getD x.toNat [] ++ [d]))) = (pk, .lst (ls.map rr)) :: (rowsMu ls (rows.set x.toNat (rows.getD x.toNat [] ++ [d])) ++ μ1) := by
    rw [List.set_cons_succ, List.set_append_left _ _ hgl, rowsMu_set el]
  rw [e3] at a4
  exact q d μ1 H4 e2 a4
/-- for over a target of several names -/
theorem x_forG {wi : TI} {n : Nat} {f : Nat → D} {tb : TS} {g : TG} {js : List Nat} {ρf : Nat → Ro → Ro} (a : At B ρ μ τ σ H) (hi : Ei B wi ρ μ n f) (Inv : Nat → Ro → Mu → Prop) (h0 : Inv 0 ρ μ) (hg : ∀ i ρ' μ', i < n → Inv i ρ' μ' → Gd B g ρ' μ' (f i) (ρf i ρ') js)
    (hs : ∀ i ρ' μ' τ1 σ' H' (Dn : Ends), i < n → Inv i ρ' μ' → At B (ρf i ρ') μ' τ1 σ' H' → (∀ ρ2 μ2 σ2 H2, Inv (i + 1) ρ2 μ2 → At B ρ2 μ2 τ1 σ2 H2 → Dn.nx σ2 H2) → tb Dn σ' H')
    (hd : ∀ ρ' μ' σ' H', Inv n ρ' μ' → At B ρ' μ' τ σ' H' → D0.nx σ' H') : tFor wi g tb D0 σ H :=
  x_for (js := js) a hi Inv h0 (fun i ρ' μ' τ1 σ' H' v Dn hi hI hsub a1 h1 h2 h3 h4 => hg i ρ' μ' hi hI τ1 σ' H' v a1 _ fun σ2 a2 _ _ => hs i ρ' μ' τ1 σ2 H' Dn hi hI a2 h1) hd
theorem y_forG {wi : TI} {n : Nat} {f : Nat → D} {tb : TS} {g : TG} {js : List Nat} {ρf : Nat → Ro → Ro} (a : At B ρ μ τ σ H) (hi : Ei B wi ρ μ n f) (Inv : Nat → Ro → Mu → Prop) (h0 : Inv 0 ρ μ) (hg : ∀ i ρ' μ', i < n → Inv i ρ' μ' → Gd B g ρ' μ' (f i) (ρf i ρ') js)
    (hs : ∀ i ρ' μ' τ1 σ' H' (Dn : Ends), i < n → Inv i ρ' μ' → At B (ρf i ρ') μ' τ1 σ' H' → (∀ ρ2 μ2 σ2 H2, Inv (i + 1) ρ2 μ2 → At B ρ2 μ2 τ1 σ2 H2 → Dn.nx σ2 H2) → tb Dn σ' H')
    (hd : ∀ ρ' μ' σ' H', Inv n ρ' μ' → At B ρ' μ' τ σ' H' → tz D0 σ' H') : tSeq (tFor wi g tb) tz D0 σ H := x_forG (D0 := { D0 with nx := tz D0 }) a hi Inv h0 hg hs hd
end
/-- l.index(x) within a comprehension -/
theorem pe_indexK {X : Cx} {K : PySem.W.Frag} {o e : Expr} {es : List Expr} {to : TE} {t : TA} {apos cpos : Pos} (hK : X.K = K) (ho : PE X o to) (ha : PA X (e :: es) t)
    (hbase : attributeBase o "index" X.env (eval o X.env) = eval o X.env := by rfl)
    (hfew : ((backTo cpos (starEach (e :: es) X.env)).all (fun x => !x.1) && (backToKw cpos (keywordEach [] X.env)).all (fun x => x.1.isSome)
      && decide ((e :: es).length + ([] : List Keyword).length + (if ([] : List Keyword).isEmpty then 0 else 1) < 30)) = true := by rfl)
    (hline : (apos.endLine == cpos.line) = true := by rfl) (hs : starEach (e :: es) X.env = (false, eval e X.env) :: starEach es X.env := by rfl) (hplain : (backTo cpos (starEach es X.env)).any (·.1) = false := by rfl) :
    PE X (.Call (.Attribute o "index" apos) (e :: es) [] cpos) (tBM K "list" (rIndex K) to t) := hK ▸ pe_bm PySem.F.plainAttrs_list PySem.F.slot_list_index PySem.F.type_list_index mt_index ho ha hbase hfew hline hs hplain
end Cal


namespace Cal
open PySem PySem.Spec PyProof.Rows L2
/-! ### dicts of new lists; lists that change, read where they stand -/
def dictR (is : List Int) (ls : List Addr) : List (Key × D) := List.zipWith (fun i l => ((.inl i : Key), rr l)) is ls
theorem dictR_get : ∀ (is : List Int) (ls : List Addr) (i : Int), ls.length = is.length → i ∈ is → getD' (dictR is ls) (.inl i) = some (rr (ls.getD (is.idxOf i) 0)) := by
  intro is
  induction is with
  | nil => intro ls i _ h; cases h
  | cons k r ih => intro ls i hl h; cases ls with
    | nil => simp at hl
    | cons l ls =>
      by_cases e : k = i
      · subst e
        unfold dictR getD'
        simp
      · have hs : i ∈ r := by
          rcases List.mem_cons.mp h with z | z
          · exact absurd z.symm e
          · exact z
        have g := ih ls i (by simpa using hl) hs
        rw [show (k :: r).idxOf i = r.idxOf i + 1 by rw [List.idxOf_cons, show (k == i) = false from beq_eq_false_iff_ne.mpr e]; rfl]
        show _ = some (rr (ls.getD (r.idxOf i) 0))
        rw [← g]
        unfold dictR getD'
        simp [e]
theorem dictR_none : ∀ (is : List Int) (ls : List Addr) (i : Int), i ∉ is → getD' (dictR is ls) (.inl i) = none := by
  intro is
  induction is with
  | nil => intro ls i _; cases ls <;> rfl
  | cons k r ih => intro ls i h; cases ls with
    | nil => rfl
    | cons l ls =>
      have e : k ≠ i := fun e => h (e ▸ List.mem_cons_self ..)
      have g := ih ls i fun z => h (List.mem_cons_of_mem _ z)
      rw [← g]
      unfold dictR getD'
      simp [e]
theorem dictR_in {is : List Int} {ls : List Addr} (hl : ls.length = is.length) (i : Int) : (getD' (dictR is ls) (.inl i)).isSome = decide (i ∈ is) := by
  by_cases h : i ∈ is
  · rw [dictR_get is ls i hl h, decide_eq_true h]; rfl
  · rw [dictR_none is ls i h, decide_eq_false h]; rfl
section
variable {B : Bs} {ρ : Ro} {μ μa μ0 : Mu} {τ : List (V × D)} {σ : L2.St} {H G : Hp} {te to ta tb : TE} {R R1 : D → Mu → Prop} {d : D} {D0 : Ends} {tz : TS} {k j : Nat} {Pg : Program} {w : World} {p : Addr} {ls : List Addr} {rows : List (List D)}
theorem xv_tupX {R2 : D → Mu → D → Mu → Prop} (h1 : Xv B ta ρ μ R1) (h2 : ∀ d1 μ1, R1 d1 μ1 → Xv B tb ρ μ1 (R2 d1 μ1)) : Xv B (tTup (tCons ta (tCons tb tNil))) ρ μ fun d μ' => ∃ d1 μ1 d2, d = .tup [d1, d2] ∧ R1 d1 μ1 ∧ R2 d1 μ1 d2 μ' := fun τ σ H a Q q => h1 τ σ H a _ fun v1 H1 d1 μ1 r1 a1 => h2 d1 μ1 r1 _ σ H1 a1 _ fun v2 H2 d2 μ' r2 a2 => by
  refine ⟨by show 2 ≤ _; decide, fun p hp => q _ _ _ _ ⟨d1, μ1, d2, rfl, r1, r2⟩ ?_⟩
  obtain ⟨G, g⟩ := id a2
  exact At.sub (AtG.newTup (ds := [d1, d2]) g hp ⟨v1, [v2], rfl, g.temps (v1, d1) (List.mem_cons_of_mem _ (List.mem_cons_self ..)), v2, [], rfl, g.temps (v2, d2) (List.mem_cons_self ..), rfl⟩) fun z hz => by
    rcases List.mem_cons.mp hz with e | hz
    · rw [e]; exact List.mem_cons_self ..
    · exact List.mem_cons_of_mem _ (List.mem_cons_of_mem _ (List.mem_cons_of_mem _ hz))
theorem xv_cb1 {r : List V → Hp → VK → Prop} {Pd : D → D → Prop} (h : Xv B te ρ μ R) (hr : ∀ d μ', R d μ' → RC B r ρ μ' [d] (Pd d)) : Xv B (tCB r (tCons te tNil)) ρ μ fun e μ' => ∃ d, R d μ' ∧ Pd d e := fun τ σ H a Q q => h τ σ H a _ fun v H1 d μ' hd a1 => hr d μ' hd τ σ H1 [v] rfl a1 Q fun v2 H2 e he a2 => q v2 H2 e μ' ⟨d, hd, he⟩ a2
/-- [(i, []) for i in ..]: a new list for each int -/
theorem xl_pairs {wi : TI} {is : List Int} {vs : List Nat} (hi : Ei B wi ρ μ is.length (fun i => .int (is.getD i 0))) (hn : is.length ≤ 1000) (hk : k ∈ vs) (hvar : ∀ d, ((wipeR ρ vs).set k (some d))[k]? = some (some d)) :
    Xv B (tLc wi (gName k) tYes (tTup (tCons (tVar k) (tCons (tLst tNil) tNil))) vs) ρ μ fun d μ' => ∃ ls : List Addr, ls.length = is.length ∧ d = .lst (List.zipWith (fun i l => .tup [.int i, rr l]) is ls) ∧ μ' = rowsMu ls (ls.map fun _ => []) ++ μ := fun τ σ H a Q q => hi (sv ρ σ ++ τ) σ H a.save _ fun J H1 τ1 hsub a1 hJ Dl hD => by
  have hf := a.fits
  refine ⟨fun i m H => m = is.length - i ∧ i ≤ is.length ∧ ∃ ls : List Addr, ls.length = i ∧ At B ρ ((Dl, .lst (List.zipWith (fun i l => .tup [.int i, rr l]) (is.take i) ls)) :: (rowsMu ls (ls.map fun _ => []) ++ μ)) τ1 σ H, ⟨is.length, by omega, Nat.zero_le _, [], rfl, (At.newCell (c := .lst []) (o := .lst []) a1 hD fun G _ => ⟨[], upd_same, rfl⟩).1⟩, fun i m H2 hW => ?_⟩
  obtain ⟨rfl, hin, ls, hls, a2⟩ := hW
  obtain ⟨s1, s2⟩ := hJ i ρ _ τ1 σ H2 (fun _ z => z) a2
  by_cases hlt : i < is.length
  · obtain ⟨s3, s4⟩ := s2 hlt
    refine .inr ⟨s3, fun H => ∃ ls : List Addr, ls.length = i + 1 ∧ At B ρ ((Dl, .lst (List.zipWith (fun i l => .tup [.int i, rr l]) (is.take (i + 1)) ls)) :: (rowsMu ls (ls.map fun _ => []) ++ μ)) τ1 σ H, fun H' ⟨ls, h1, h2⟩ => ⟨is.length - (i + 1), by omega, rfl, hlt, ls, h1, h2⟩, fun x H3 hy => ?_⟩
    refine gd_name k τ1 (wipe σ vs) H3 x (At.wiped (s4 x H3 hy) vs) _ fun σ' a3 hl3 hk3 => ⟨wipe_ext (js := [k]) (fun z hz => by rw [List.mem_singleton.mp hz]; exact hk) hl3 hk3, ?_⟩
    refine tYes_if ?_
    refine xv_tup2 (ed_var (hvar _)) xl_nil _ σ' H3 a3 _ fun v H4 d μ4 hd a4 => ?_
    obtain ⟨d2, rfl, p, rfl, rfl⟩ := hd
    obtain ⟨G, g5, us, e5, k5⟩ := a4.cell (j := 1) rfl
    have ul : us.length = i := by rw [k5.length, List.length_zipWith, hls, List.length_take]; omega
    refine ⟨us, e5, by rw [ul]; exact Nat.lt_of_lt_of_le hlt (Nat.le_trans hn (by decide)), ls ++ [p], by rw [List.length_append, hls]; rfl, ?_⟩
    have a6 := At.write (j := 1) (c' := .lst (List.zipWith (fun i l => .tup [.int i, rr l]) (is.take i) ls ++ [.tup [.int (is.getD i 0), rr p]])) (o := .lst (us ++ [v])) a4 rfl fun G k1 ⟨vs6, e6, k6⟩ => by
      rw [e5] at e6
      cases e6
      exact ⟨_, upd_same, k6.append ⟨v, [], rfl, k1 (v, _) (List.mem_cons_self ..), rfl⟩⟩
    refine At.restore hf (At.perm (At.pop a6) ?_) fun q hq => hsub q (List.mem_append_left _ hq)
    have e7 : rowsMu (ls ++ [p]) ((ls ++ [p]).map fun _ => []) = rowsMu ls (ls.map fun _ => []) ++ [(p, .lst [])] := by
      unfold rowsMu
      rw [List.map_append, List.zipWith_append (by rw [List.length_map])]
      rfl
    have e8 : List.zipWith (fun i l => D.tup [.int i, rr l]) (is.take (i + 1)) (ls ++ [p]) = List.zipWith (fun i l => D.tup [.int i, rr l]) (is.take i) ls ++ [.tup [.int (is.getD i 0), rr p]] := by
      rw [List.take_add_one, List.getElem?_eq_getElem hlt, List.zipWith_append (by rw [hls, List.length_take]; omega), List.getD_eq_getElem?_getD, List.getElem?_eq_getElem hlt]
      rfl
    rw [e7, e8]
    show List.Perm ((Dl, Cl.lst _) :: (rowsMu ls (ls.map fun _ => []) ++ [(p, Cl.lst [])] ++ μ)) ((p, Cl.lst []) :: (Dl, Cl.lst _) :: (rowsMu ls (ls.map fun _ => []) ++ μ))
    refine (List.Perm.cons _ ?_).trans (List.Perm.swap _ _ _)
    rw [List.append_assoc]
    exact List.perm_middle
  · have e : i = is.length := by omega
    subst e
    refine .inl ⟨s1 (Nat.le_refl _), ?_⟩
    rw [List.take_length] at a2
    refine q _ H2 _ _ ⟨ls, hls, rfl, rfl⟩ (At.sub (At.freeze a2) fun z hz => ?_)
    rcases List.mem_cons.mp hz with e | hz
    · rw [e]; exact List.mem_cons_self ..
    · exact List.mem_cons_of_mem _ (hsub z (List.mem_append_right _ hz))
/-- dict of such pairs -/
theorem rc_dictR {is : List Int} (hl : ls.length = is.length) (nd : is.Nodup) : RC B (fun xs H Q => ∃ (a : Addr) (ps : List Addr) (kvs : List (Key × V)), xs = [.ref a] ∧ SqL B.K H a (ps.map V.ref) ∧ Paired (fun p kv => SqT B.K H p [kV kv.1, kv.2]) ps kvs ∧
    ∀ p, H p = none → Q (.ref p) (upd H p (.dK (mergeK [] kvs)))) ρ μ [.lst (List.zipWith (fun i l => .tup [.int i, rr l]) is ls)] (fun e => e = .dk (dictR is ls)) := fun τ σ H xs hx a Q q => by
  obtain ⟨G, g, k⟩ := a.args hx
  obtain ⟨v, rfl, p, vs, rfl, e, k1⟩ := one_arg k
  have go : ∀ (is : List Int) (ls : List Addr) (vs : List V), ls.length = is.length → DtA B.K G (List.zipWith (fun i l => D.tup [.int i, rr l]) is ls) vs → ∃ ps : List Addr, vs = ps.map V.ref ∧ Paired (fun p kv => SqT B.K H p [kV kv.1, kv.2]) ps (List.zipWith (fun i l => ((.inl i : Key), V.ref l)) is ls) ∧ (List.zipWith (fun i l => ((.inl i : Key), V.ref l)) is ls).map (·.1) = is.map Sum.inl ∧ DtK B.K G (dictR is ls) (List.zipWith (fun i l => ((.inl i : Key), V.ref l)) is ls) := by
    intro is
    induction is with
    | nil => intro ls vs h k; cases ls with
      | nil => exact ⟨[], k, .nil, rfl, rfl⟩
      | cons l r => simp at h
    | cons i r ih => intro ls vs h k; cases ls with
      | nil => simp at h
      | cons l ls =>
        obtain ⟨v, rest, rfl, hv, hr⟩ := k
        obtain ⟨pa, us, rfl, e1, k2⟩ := id hv
        obtain ⟨u, r1, rfl, hu, u2, r2, rfl, hu2, hr2⟩ := k2
        have hr2' : r2 = [] := hr2
        subst hr2'
        have hu' : u = V.int i := hu
        have hu2' : u2 = V.ref l := hu2
        subst hu'; subst hu2'
        obtain ⟨ps, f1, f2, f3, f4⟩ := ih ls rest (by simpa using h) hr
        subst f1
        exact ⟨pa :: ps, rfl, .cons (.inl (.inl (g.sub _ _ e1))) f2, congrArg (Sum.inl i :: ·) f3, ⟨V.ref l, _, rfl, rfl, f4⟩⟩
  obtain ⟨ps, f1, f2, f3, f4⟩ := go is ls vs hl k1
  subst f1
  refine ⟨p, ps, _, rfl, .inl (.inl (g.sub _ _ e)), f2, fun p3 hp3 => ?_⟩
  rw [mergeK_nd _ [] (by rw [List.nil_append, f3]; exact List.pairwise_map.mpr (nd.imp fun h e => h (Sum.inl.inj e))), List.nil_append]
  exact q _ _ _ rfl (AtG.newDk g hp3 f4)
/-- a list that stands among others gets an item more -/
theorem x_appB (a : At B ρ (μa ++ (rowsMu ls rows ++ μ0)) τ σ H) (hl : ls.length = rows.length) (hj : j < rows.length) (ho : Ed B to ρ (μa ++ (rowsMu ls rows ++ μ0)) (rr (ls.getD j 0))) (he : Ed B te ρ (μa ++ (rowsMu ls rows ++ μ0)) d) (hz : (rows.getD j []).length < 100000)
    (q : ∀ H', At B ρ (μa ++ (rowsMu ls (rows.set j (rows.getD j [] ++ [d])) ++ μ0)) τ σ H' → D0.nx σ H') : tDrop (tBM B.K "list" rAppend to (tCons te tNil)) D0 σ H := by
  have hxl : j < ls.length := by omega
  have el : ls[j]? = some (ls.getD j 0) := by rw [List.getD_eq_getElem?_getD, List.getElem?_eq_getElem hxl]; rfl
  have er : rows[j]? = some (rows.getD j []) := by rw [List.getD_eq_getElem?_getD, List.getElem?_eq_getElem hj]; rfl
  have hg := rowsMu_get el er
  have hgl := (List.getElem?_eq_some_iff.mp hg).1
  have hm : (μa ++ (rowsMu ls rows ++ μ0))[μa.length + j]? = some (ls.getD j 0, .lst (rows.getD j [])) := by
    rw [List.getElem?_append_right (Nat.le_add_right _ _), Nat.add_sub_cancel_left, List.getElem?_append_left hgl]
    exact hg
  refine x_append (k := μa.length + j) (ds := rows.getD j []) (R := fun d' μ' => d' = d ∧ μ' = μa ++ (rowsMu ls rows ++ μ0)) a (ho_of ho) hm he (fun d' μ' ⟨_, e⟩ => by rw [e]; exact hm) hz fun d' μ' H4 ⟨e1, e2⟩ a4 => ?_
  subst e1; subst e2
  have e3 : (μa ++ (rowsMu ls rows ++ μ0)).set (μa.length + j) (ls.getD j 0, .lst (rows.getD j [] ++ [d'])) = μa ++ (rowsMu ls (rows.set j (rows.getD j [] ++ [d'])) ++ μ0) := by
    rw [List.set_append_right _ _ (Nat.le_add_right _ _), Nat.add_sub_cancel_left, List.set_append_left _ _ hgl, rowsMu_set el]
  rw [e3] at a4
  exact q H4 a4
theorem y_appB (a : At B ρ (μa ++ (rowsMu ls rows ++ μ0)) τ σ H) (hl : ls.length = rows.length) (hj : j < rows.length) (ho : Ed B to ρ (μa ++ (rowsMu ls rows ++ μ0)) (rr (ls.getD j 0))) (he : Ed B te ρ (μa ++ (rowsMu ls rows ++ μ0)) d) (hz : (rows.getD j []).length < 100000)
    (q : ∀ H', At B ρ (μa ++ (rowsMu ls (rows.set j (rows.getD j [] ++ [d])) ++ μ0)) τ σ H' → tz D0 σ H') : tSeq (tDrop (tBM B.K "list" rAppend to (tCons te tNil))) tz D0 σ H := x_appB (D0 := { D0 with nx := tz D0 }) a hl hj ho he hz q
/-- sorted(set(l)), l a list that may change -/
theorem ev_sortSetDC {l : Addr} {ks : List Str} (h : Ed B te ρ μ (rr l)) (hm : (l, Cl.lst (ks.map D.str)) ∈ μ) (few : (runT ks).length < 64) :
    Ev B (tCB (rSortedTx Pg w) (tCons (tCB (rSetD B.K Pg w) (tCons te tNil)) tNil)) ρ μ (fun e => ∃ ys : List Str, e = .lst (ys.map D.str) ∧ sortedS ys = true ∧ (∀ k, k ∈ ys ↔ k ∈ ks) ∧ ys.Perm (runT ks)) := Ev.mk fun τ σ H a Q q => h.go a fun v H1 d hd a1 => by
  subst hd
  obtain ⟨G, g, hv⟩ := id a1.top
  have hv' : v = V.ref l := hv
  subst hv'
  obtain ⟨vs, e, k⟩ := (g.cells _ hm).2.2.2
  have hs : SqL B.K H1 l (ks.map V.str) := by rw [← k.strs]; exact .inl (.inl e)
  refine ⟨l, ks, rfl, hs, few, fun a' ha' => ?_⟩
  refine ⟨a', runT ks, rfl, upd_same, few, fun ys p2 h1 h2 h3 hp2 => ?_⟩
  obtain ⟨g2, _⟩ := g.new (o := SetT Pg w a' (runT ks)) ha'
  exact q _ _ _ ⟨ys, rfl, h1, fun k => by rw [h2 k, runT_mem], perm_mem _ _ (runT_nd ks) (fun k hk => (h2 k).mpr hk) (by omega)⟩ (g2.newLst hp2 (DtA.of_strs ys))
theorem ev_sortSetIC {l : Addr} {is : List Int} (h : Ed B te ρ μ (rr l)) (hm : (l, Cl.lst (is.map D.int)) ∈ μ) (few : is.length < 60) :
    Ev B (tCB (rSortedSet w) (tCons (tCB (rSetDI B.K w) (tCons te tNil)) tNil)) ρ μ (fun e => ∃ ys : List Int, e = .lst (ys.map D.int) ∧ ys.Pairwise (· < ·) ∧ ∀ k, k ∈ ys ↔ k ∈ is) := Ev.mk fun τ σ H a Q q => h.go a fun v H1 d hd a1 => by
  subst hd
  obtain ⟨G, g, hv⟩ := id a1.top
  have hv' : v = V.ref l := hv
  subst hv'
  obtain ⟨vs, e, k⟩ := (g.cells _ hm).2.2.2
  have hs : SqL B.K H1 l (is.map V.int) := by rw [← k.ints]; exact .inl (.inl e)
  refine ⟨l, is, rfl, hs, few, fun a' c hc ha' => ?_⟩
  refine ⟨a', _, c, rfl, upd_same, by omega, fun ys p2 h1 h2 h3 hp2 => ?_⟩
  obtain ⟨g2, _⟩ := g.new (o := SetO w a' (fun j => decide (j ∈ is)) c) ha'
  exact q _ _ _ ⟨ys, rfl, h1, fun k => by rw [h2 k, decide_eq_true_eq]⟩ (g2.newLst hp2 (DtA.of_ints ys))
theorem rowsMu_mem {ls : List Addr} {rows : List (List D)} (hl : ls.length = rows.length) {j : Nat} (hj : j < rows.length) : (ls.getD j 0, Cl.lst (rows.getD j [])) ∈ rowsMu ls rows := by
  refine List.mem_of_getElem? (rowsMu_get (i := j) ?_ ?_)
  · rw [List.getD_eq_getElem?_getD, List.getElem?_eq_getElem (by omega)]; rfl
  · rw [List.getD_eq_getElem?_getD, List.getElem?_eq_getElem hj]; rfl
theorem x_forAtG {wi : TI} {n : Nat} {f : Nat → D} {tb : TS} {g : TG} {js : List Nat} {ρf : Nat → Ro → Ro} (hi : EiAt B wi ρ μ n f τ σ H) (Inv : Nat → Ro → Mu → Prop) (h0 : Inv 0 ρ μ) (hg : ∀ i ρ' μ', i < n → Inv i ρ' μ' → Gd B g ρ' μ' (f i) (ρf i ρ') js)
    (hs : ∀ i ρ' μ' τ1 σ' H' (Dn : Ends), i < n → Inv i ρ' μ' → At B (ρf i ρ') μ' τ1 σ' H' → (∀ ρ2 μ2 σ2 H2, Inv (i + 1) ρ2 μ2 → At B ρ2 μ2 τ1 σ2 H2 → Dn.nx σ2 H2) → tb Dn σ' H')
    (hd : ∀ ρ' μ' σ' H', Inv n ρ' μ' → At B ρ' μ' τ σ' H' → D0.nx σ' H') : tFor wi g tb D0 σ H := hi _ fun J H1 τ1 hsub a1 hJ => by
  refine ⟨fun i m σ H => m = n - i ∧ i ≤ n ∧ ∃ ρ' μ', Inv i ρ' μ' ∧ At B ρ' μ' τ1 σ H, ⟨n, by omega, by omega, ρ, μ, h0, a1⟩, fun i m σ2 H2 hW => ?_⟩
  obtain ⟨rfl, hin, ρ', μ', hI, a2⟩ := hW
  obtain ⟨s1, s2⟩ := hJ i ρ' μ' τ1 σ2 H2 (fun _ z => z) a2
  by_cases hlt : i < n
  · obtain ⟨s3, s4⟩ := s2 hlt
    refine .inr ⟨s3, fun σ3 H3 => ∃ ρ' μ', Inv (i + 1) ρ' μ' ∧ At B ρ' μ' τ1 σ3 H3, fun σ3 H3 ⟨ρ3, μ3, i3, a3⟩ => ⟨n - (i + 1), by omega, rfl, hlt, ρ3, μ3, i3, a3⟩, fun x H3 hy => ?_⟩
    exact hg i ρ' μ' hlt hI τ1 _ H3 x (s4 x H3 hy) _ fun σ4 a4 _ _ => hs i ρ' μ' τ1 _ H3 { D0 with nx := fun σ3 H3 => ∃ ρ' μ', Inv (i + 1) ρ' μ' ∧ At B ρ' μ' τ1 σ3 H3, ct := fun σ3 H3 => ∃ ρ' μ', Inv (i + 1) ρ' μ' ∧ At B ρ' μ' τ1 σ3 H3, bk := D0.nx } hlt hI a4 fun ρ2 μ2 σ2 H2 i2 a2 => ⟨ρ2, μ2, i2, a2⟩
  · have e : i = n := by omega
    subst e
    exact .inl ⟨s1 (Nat.le_refl _), hd ρ' μ' σ2 H2 hI (a2.sub hsub)⟩
theorem eiAt_zipL {ds es : List D} {vs : List V} (hlen : vs.length = [D.lst ds, D.lst es].length) (a1 : At B ρ μ (vs.zip [.lst ds, .lst es] ++ τ) σ H) : EiAt B (RZ.iZipA B.K fun _ H Q => Q vs H) ρ μ (min ds.length es.length) (fun i => .tup [ds.getD i .non, es.getD i .non]) τ σ H := fun Rr q => by
  obtain ⟨G, g, k⟩ := id (a1.args hlen)
  obtain ⟨v, w, rfl, ⟨p, xs, rfl, e1, k1⟩, ⟨p', ys, rfl, e2, k2⟩⟩ := two_args k
  refine ⟨p, p', xs, ys, rfl, .inl ⟨.inl (.inl (g.sub _ _ e1)), .inl (.inl (g.sub _ _ e2)), ?_⟩⟩
  refine q _ H _ (fun z hz => List.mem_append_right _ hz) a1 fun i ρ' μ' τ' σ' H' hsub a2 => ?_
  obtain ⟨G2, g2⟩ := id a2
  obtain ⟨q1, xs', c1, e3, k3⟩ := g2.temps (V.ref p, .lst ds) (hsub _ (by simp))
  obtain ⟨q2, ys', c2, e4, k4⟩ := g2.temps (V.ref p', .lst es) (hsub _ (by simp))
  cases c1; cases c2
  have s1 : SqL B.K H' p xs' := .inl (.inl (g2.sub _ _ e3))
  have s2 : SqL B.K H' p' ys' := .inl (.inl (g2.sub _ _ e4))
  refine ⟨fun hi => ⟨xs', ys', s1, s2, by rw [k3.length, k4.length]; omega⟩, fun hi => ?_⟩
  obtain ⟨x, hx, dx⟩ := k3.get (getD_of (show i < ds.length by omega))
  obtain ⟨y, hy, dy⟩ := k4.get (getD_of (show i < es.length by omega))
  refine ⟨⟨xs', ys', x, y, s1, s2, hx, hy⟩, fun z H2 hz => ?_⟩
  obtain ⟨T, x1, y1, rfl, nT, rfl, f1, f2⟩ := hz
  have ex : x = x1 := Option.some.inj (hx.symm.trans (f1 _ s1))
  have ey : y = y1 := Option.some.inj (hy.symm.trans (f2 _ s2))
  subst ex; subst ey
  exact g2.newTup nT ⟨x, _, rfl, dx, y, _, rfl, dy, rfl⟩
/-- for over zip(xs, ys), xs told by what is said of it alone -/
theorem y_forZP {t : TA} {es : List D} {Pn : List D → Prop} {tb : TS} {g : TG} {js : List Nat} {ρf : List D → Nat → Ro → Ro} (a : At B ρ μ τ σ H) (h : Ea B t ρ μ (fun l => ∃ ds, l = [.lst ds, .lst es] ∧ Pn ds)) (Inv : List D → Nat → Ro → Mu → Prop) (h0 : ∀ ds, Pn ds → Inv ds 0 ρ μ)
    (hg : ∀ ds i ρ' μ', Pn ds → i < min ds.length es.length → Inv ds i ρ' μ' → Gd B g ρ' μ' (.tup [ds.getD i .non, es.getD i .non]) (ρf ds i ρ') js)
    (hs : ∀ ds i ρ' μ' τ1 σ' H' (Dn : Ends), Pn ds → i < min ds.length es.length → Inv ds i ρ' μ' → At B (ρf ds i ρ') μ' τ1 σ' H' → (∀ ρ2 μ2 σ2 H2, Inv ds (i + 1) ρ2 μ2 → At B ρ2 μ2 τ1 σ2 H2 → Dn.nx σ2 H2) → tb Dn σ' H')
    (hd : ∀ ds ρ' μ' σ' H', Pn ds → Inv ds (min ds.length es.length) ρ' μ' → At B ρ' μ' τ σ' H' → tz D0 σ' H') : tSeq (tFor (RZ.iZipA B.K t) g tb) tz D0 σ H := h τ σ H a _ fun vs H1 l hl hlen a1 => by
  obtain ⟨ds, rfl, hP⟩ := hl
  exact x_forAtG (D0 := { D0 with nx := tz D0 }) (wi := RZ.iZipA B.K fun _ H Q => Q vs H) (eiAt_zipL hlen a1) (Inv ds) (h0 ds hP) (fun i ρ' μ' hi hI => hg ds i ρ' μ' hP hi hI) (fun i ρ' μ' τ1 σ' H' Dn hi hI a2 h1 => hs ds i ρ' μ' τ1 σ' H' Dn hP hi hI a2 h1) fun ρ' μ' σ' H' hI a2 => hd ds ρ' μ' σ' H' hP hI a2
end
end Cal


namespace Cal
open PySem PySem.Spec PyProof.Rows L2
/-! ### nothing, so many times -/
theorem mul_none (l : Addr) (its : Array Value) (n : Nat) (dd : Option Addr) (sl : Array (Option Value)) (x : Int) (u : Tok) (c0 : (decide (x < -(2 ^ 63)) || decide (x ≥ 2 ^ 63)) = false) (h0 : (its.isEmpty || x == 1) = true) :
    Meets (Builtin.«tuple.__mul__» ⟨[.ref l, .int x u], []⟩) (fun _ R st => st.heap.get? l = some { cls := .type "tuple", dict := dd, data := .seq its n, slots := sl } ∧ R (.ok (.ret (Value.ref l))) st) :=
  .of_wp fun pr w A R st hh => by
    obtain ⟨hp, ge, dr, tk, osn⟩ := st
    obtain ⟨gl, hR⟩ := hh
    have f1 := AutoSeq1.idx_int
    wp_walk using wpAny_loadPart' gl
    refine wpAny_ite_false (decide_eq_false (by rw [c0]; exact Bool.false_ne_true)) ?_
    wp_walk using wpAny_loadPart' gl
    exact ⟨_, rfl, hR⟩
def rRepE (K : PySem.W.Frag) : R2 := fun x y H Q => ∃ l k xs, x = .ref l ∧ y = .int k ∧ SqT K H l xs ∧ 2 ≤ k ∧ k ≤ 1000 ∧ xs.length ≤ 1000 ∧ (xs = [] → Q (.ref l) H) ∧ (xs ≠ [] → ∀ p, H p = none → Q (.ref p) (upd H p (.tup (List.replicate k.toNat xs).flatten)))
section
variable {X : Cx}
theorem op_repE : OpR X (binaryOp .Mult) (rRepE X.K) := fun pins s σ H x y v u Q I rx ry h => by
  obtain ⟨l, k, xs, rfl, rfl, hT, h1, h2, hz, q0, q1⟩ := h
  by_cases hx : xs = []
  · subst hx
    cases rx
    obtain ⟨t, rfl⟩ := ry
    obtain ⟨its, r, ⟨⟨cls, dd, data, sl⟩, ho, hc, n, hd⟩, hs⟩ := I.tuple hT
    have hc' : cls = .type "tuple" := hc
    have hd' : data = .seq its.toArray n := hd
    rw [hc', hd'] at ho
    have hn : its = [] := List.eq_nil_of_length_eq_zero r.length.symm
    subst hn
    refine wpAny_binaryOp_repeat_ref (T := "tuple") (U := "int") (by decide) ⟨_, ho, rfl⟩ (fun s' => typeIs_int s' k t) noFill_tuple_mul F.fills_int_mul F.slot_int_rmul repeat_tuple F.slot_int_index.lookup (call_meets F.slot_int_rmul (typeIs_int s k t) F.entry_int_rmul (F.args_int_rmul_2 _ _) (int_rmul_tuple k t l _ n dd sl) ⟨ho, rfl, ⟨_, ho, rfl⟩, call_meets F.slot_tuple_mul ⟨_, ho, rfl⟩ F.entry_tuple_mul (F.args_tuple_mul_2 _ _) (mul_none l _ n dd sl k t (by rw [decide_eq_false (by omega), decide_eq_false (by omega)] <;> rfl) rfl) ⟨ho, ?_⟩⟩)
    exact ⟨.ref l, H, I, rfl, q0 rfl⟩
  · exact op_repT pins s σ H _ _ v u Q I rx ry ⟨l, k, xs, rfl, rfl, hT, hx, h1, h2, hz, q1 hx⟩
end
section
variable {B : Bs} {ρ : Ro} {μ : Mu} {ds : List D}
theorem rd_repE {n : Int} (h2 : 2 ≤ n ∧ n ≤ 1000) (h3 : ds.length ≤ 1000) : RD B (rRepE B.K) ρ μ (.tup ds) (.int n) (fun e => e = .tup (List.replicate n.toNat ds).flatten) := fun τ σ H x y a Q q => by
  obtain ⟨G, g, ⟨p, vs, rfl, e1, k1⟩, hy⟩ := a.two
  have hy' : y = V.int n := hy
  subst hy'
  refine ⟨p, n, vs, rfl, rfl, .inl (.inl (g.sub _ _ e1)), h2.1, h2.2, by rw [k1.length]; exact h3, fun z => ?_, fun z p' hp' => q _ _ _ rfl (g.newTup hp' (k1.rep _))⟩
  have hd : ds = [] := List.eq_nil_of_length_eq_zero (by rw [← k1.length, z]; rfl)
  subst hd
  refine q _ H _ rfl ?_
  have e2 : (List.replicate n.toNat ([] : List D)).flatten = [] := List.flatten_replicate_nil
  rw [e2]
  exact ⟨G, g.push ⟨p, vs, rfl, e1, k1⟩⟩
/-- a list, so many times -/
theorem rd_repL {n : Int} (h2 : 0 ≤ n ∧ n ≤ 1000) (h3 : ds.length ≤ 1000) : RD B rRep ρ μ (.lst ds) (.int n) (fun e => e = .lst (List.replicate n.toNat ds).flatten) := fun τ σ H x y a Q q => by
  obtain ⟨G, g, ⟨p, vs, rfl, e1, k1⟩, hy⟩ := a.two
  have hy' : y = V.int n := hy
  subst hy'
  exact ⟨p, n, vs, rfl, rfl, g.sub _ _ e1, by omega, by omega, Nat.le_trans (Nat.mul_le_mul (show vs.length ≤ 1000 by rw [k1.length]; exact h3) (show n.toNat ≤ 1000 by omega)) (by decide), fun p' hp' => q _ _ _ rfl (g.newLst hp' (k1.rep _))⟩
end
end Cal


/-! Own text: a value of any kind not in a tuple of texts; dict([(i, d)]). -/
namespace Cal
open PySem PySem.Spec PyProof.Rows L2
theorem op_notInX {X : Cx} (hu : X.A.units + 64 < cLine) : OpR X (compareOp .NotIn) (rInX X.K true) := OpR.or op_notIn_seq (by
  intro pins s0 σ0 H x y v u Q I rx ry h
  obtain ⟨d, G, r, p, rfl, hq, e, hd, ho, hr, q⟩ := h
  cases ry
  have hR := Dt.rds I e d ho hd rx
  obtain ⟨us, rv, hT, _⟩ := I.tuple hq
  have hu' : X.A.in1.units < cLine := by show X.A.units + 1 < cLine; omega
  have fin : (∀ b t, SeqAt.EqAt X.A.in1 s0 (.str b t) v false) → wpAny (model X.prog X.w) X.A (compareOp .NotIn v (.ref p)) (EP X pins σ0 Q) X.xe s0 := fun hh => by
    refine SeqAt.notIn_tupleAt (fun _ => false) hT (fun y hy => ?_) ⟨.bl true, H, I, ?_, q⟩
    · obtain ⟨b, t, rfl⟩ := strs_at rv y (by simpa using hy)
      exact hh b t
    · have : us.toArray.any (fun _ => false) = false := by simp
      rw [this]; rfl
  cases d with
  | lst ds => cases hR with | lst k1 k2 k3 k4 => exact fin fun b t => SeqAt.EqAt.str_list b t ⟨_, k1, k2, _, k3⟩ hu'
  | tup ds => cases hR with | tup k1 k2 k3 k4 => exact fin fun b t => SeqAt.EqAt.str_tuple b t ⟨_, k1, k2, _, k3⟩ hu'
  | dk ks => cases hR with | dk k1 k2 k3 k4 k5 k6 => exact fin fun b t => SeqAt.EqAt.str_dict' b t k1 k2 k3 hu'
  | non => cases hr
  | bl b => cases hr
  | int i => cases hr
  | str s => cases hr
  | raw u => cases hr
  | dt u => cases hr
  | obj u x => cases hr)
theorem gd_tup3C {B : Bs} {ρ : Ro} {μ : Mu} {d1 d2 d3 : D} {k l m : Nat} : Gd B (gTup B.K 3 (gCons (gName k) (gCons (gName l) (gCons (gName m) gNil)))) ρ μ (.tup [d1, d2, d3]) (((ρ.set k (some d1)).set l (some d2)).set m (some d3)) [k, l, m] := fun τ σ H v a Q q => by
  obtain ⟨G, g, p, vs, rfl, e, u, r, rfl, hu, w, r', rfl, hw, z, r'', rfl, hz, rfl⟩ := a.top
  refine ⟨p, [u, w, z], rfl, .inl (.inl (g.sub _ _ e)), rfl, u, [w, z], rfl, w, [z], rfl, z, [], rfl, rfl, ?_⟩
  refine q _ (At.set m (At.set (τ := (z, d3) :: τ) l (At.set (τ := (w, d2) :: (z, d3) :: τ) k ⟨G, ((g.push hz).push hw).push hu⟩))) (by rw [List.length_set, List.length_set, List.length_set]) fun i hi => ?_
  rw [List.getElem?_set_ne (fun z => hi (by rw [z]; simp)), List.getElem?_set_ne (fun z => hi (by rw [z]; simp)), List.getElem?_set_ne (fun z => hi (by rw [z]; simp))]
section
variable {B : Bs} {ρ : Ro} {μ : Mu} {d : D} {r : List Str} {s : Str}
theorem rd_notInSX : RD B (rIn B.K true) ρ μ (.str s) (.tup (r.map .str)) (fun e => e = .bl (!decide (s ∈ r))) := fun τ σ H x y a Q q => by
  obtain ⟨G, g, hx, ⟨p, vs, rfl, e1, k1⟩⟩ := a.two
  have hx' : x = V.str s := hx
  have hv := k1.strs
  subst hx'; subst hv
  refine ⟨p, _, rfl, .inr (.inl (.inl (g.sub _ _ e1))), rfl, by rw [List.all_map]; exact List.all_eq_true.mpr fun _ _ => rfl, ?_⟩
  have e : inV (.str s) (r.map V.str) = decide (s ∈ r) := by
    unfold inV
    rw [List.any_map]
    by_cases h : s ∈ r
    · rw [decide_eq_true h]
      exact List.any_eq_true.mpr ⟨s, h, by show (s == s) = true; exact beq_self_eq_true s⟩
    · rw [decide_eq_false h]
      refine List.any_eq_false.mpr fun y hy z => h ?_
      have z' : (y == s) = true := z
      rw [← eq_of_beq z']; exact hy
  show Q (.bl (!inV (.str s) (r.map V.str))) H
  rw [e]
  exact q _ H _ rfl (At.flat ⟨G, g⟩ fun _ => rfl)
theorem rd_notInX (h : Sm d) : RD B (rInX B.K true) ρ μ d (.tup (r.map .str)) (fun e => e = .bl (!inX d r)) := by
  have flat : (∀ G v, Dt B.K G d v → flatV v = true ∧ inV v (r.map V.str) = false) → inX d r = false → RD B (rInX B.K true) ρ μ d (.tup (r.map .str)) (fun e => e = .bl (!inX d r)) := fun hf h2 => by
    rw [h2]
    refine RD.inl fun τ σ H x y a Q q => ?_
    obtain ⟨G, g, hx, ⟨p, vs, rfl, e1, k1⟩⟩ := a.two
    have hv := k1.strs
    subst hv
    obtain ⟨f1, f2⟩ := hf G x hx
    refine ⟨p, _, rfl, .inr (.inl (.inl (g.sub _ _ e1))), f1, by rw [List.all_map]; exact List.all_eq_true.mpr fun _ _ => rfl, ?_⟩
    show Q (.bl (!inV x (r.map V.str))) H
    rw [f2]
    exact q _ H _ rfl (At.flat ⟨G, g⟩ fun _ => rfl)
  have ref : isRf d = true → inX d r = false → RD B (rInX B.K true) ρ μ d (.tup (r.map .str)) (fun e => e = .bl (!inX d r)) := fun h1 h2 => by
    rw [h2]
    refine RD.inr fun τ σ H x y a Q q => ?_
    obtain ⟨G, g, hx, ⟨p, vs, rfl, e1, k1⟩⟩ := a.two
    have hv := k1.strs
    subst hv
    exact ⟨d, G, r, p, rfl, .inl (.inl (g.sub _ _ e1)), g.sub, hx, Sm_ok h, h1, q _ H _ rfl (At.flat ⟨G, g⟩ fun _ => rfl)⟩
  have none : ∀ (z : V), (∀ s, eqV (V.str s) z = false) → inV z (r.map V.str) = false := fun z hz => by
    unfold inV
    rw [List.any_map]
    refine List.any_eq_false.mpr fun y hy w => ?_
    have w : eqV (V.str y) z = true := w
    rw [hz y] at w; cases w
  cases d with
  | non => exact flat (fun G v hv => by rw [show v = V.non from hv]; exact ⟨rfl, none _ fun s => rfl⟩) rfl
  | bl b => exact flat (fun G v hv => by rw [show v = V.bl b from hv]; exact ⟨rfl, none _ fun s => rfl⟩) rfl
  | int i => exact flat (fun G v hv => by rw [show v = V.int i from hv]; exact ⟨rfl, none _ fun s => rfl⟩) rfl
  | str s => exact RD.inl rd_notInSX
  | lst ds => exact ref rfl rfl
  | tup ds => exact ref rfl rfl
  | dk ks => exact ref rfl rfl
  | raw u => exact h.elim
  | dt u => exact h.elim
  | obj u x => exact h.elim
theorem rc_dict1 {i : Int} : RC B (fun xs H Q => ∃ (a : Addr) (ps : List Addr) (kvs : List (Key × V)), xs = [.ref a] ∧ SqL B.K H a (ps.map V.ref) ∧ Paired (fun p kv => SqT B.K H p [kV kv.1, kv.2]) ps kvs ∧
    ∀ p, H p = none → Q (.ref p) (upd H p (.dK (mergeK [] kvs)))) ρ μ [.lst [.tup [.int i, d]]] (fun e => e = .dk [(.inl i, d)]) := fun τ σ H xs hx a Q q => by
  obtain ⟨G, g, k⟩ := a.args hx
  obtain ⟨v, rfl, p, vs, rfl, e, k1⟩ := one_arg k
  obtain ⟨v1, rest, rfl, hv, hr⟩ := k1
  have hr' : rest = [] := hr
  subst hr'
  obtain ⟨pa, us, rfl, e1, k2⟩ := id hv
  obtain ⟨u, r1, rfl, hu, u2, r2, rfl, hu2, hr2⟩ := k2
  have hr2' : r2 = [] := hr2
  subst hr2'
  have hu' : u = V.int i := hu
  subst hu'
  refine ⟨p, [pa], [(.inl i, u2)], rfl, .inl (.inl (g.sub _ _ e)), .cons (.inl (.inl (g.sub _ _ e1))) .nil, fun p3 hp3 => ?_⟩
  have em : mergeK [] [((.inl i : Key), u2)] = [(.inl i, u2)] := by
    rw [mergeK_nd _ [] (by simp), List.nil_append]
  rw [em]
  exact q _ _ _ rfl (AtG.newDk g hp3 ⟨u2, [], rfl, hu2, rfl⟩)
end
/-! ### t * n, n from nought on -/
theorem mul_zero (l : Addr) (its : Array Value) (n : Nat) (dd : Option Addr) (sl : Array (Option Value)) (x : Int) (u : Tok) (c0 : (decide (x < -(2 ^ 63)) || decide (x ≥ 2 ^ 63)) = false) (c1 : (its.isEmpty || x == 1) = false) (c2 : (decide (x ≤ 0) || its.isEmpty) = true) :
    Meets (Builtin.«tuple.__mul__» ⟨[.ref l, .int x u], []⟩) (fun _ R s => s.heap.get? l = some { cls := .type "tuple", dict := dd, data := .seq its n, slots := sl } ∧
      R (.ok (.ret (Value.ref s.heap.objs.size))) { s with heap := s.heap.push { cls := Value.type "tuple", data := Data.seq #[] }, toks := s.toks }) :=
  .of_wp fun pr w A R st hh => by
    obtain ⟨hp, ge, dr, tk, osn⟩ := st
    obtain ⟨gl, hR⟩ := hh
    have f1 := AutoSeq1.idx_int
    wp_walk using wpAny_loadPart' gl
    repeat (first
      | (refine wpAny_ite_false (decide_eq_false (by rw [c0]; exact Bool.false_ne_true)) ?_; wp_walk using wpAny_loadPart' gl)
      | (refine wpAny_ite_false (decide_eq_false (by rw [c1]; exact Bool.false_ne_true)) ?_; wp_walk using wpAny_loadPart' gl)
      | (refine wpAny_ite_true (decide_eq_true c2) ?_; wp_walk using wpAny_loadPart' gl))
    exact ⟨_, rfl, hR⟩
def rRepN (K : PySem.W.Frag) : R2 := fun x y H Q => ∃ l k xs, x = .ref l ∧ y = .int k ∧ SqT K H l xs ∧ 0 ≤ k ∧ k ≤ 1000 ∧ xs ≠ [] ∧ xs.length ≤ 1000 ∧ (k = 1 → Q (.ref l) H) ∧ (k ≠ 1 → ∀ p, H p = none → Q (.ref p) (upd H p (.tup (List.replicate k.toNat xs).flatten)))
theorem op_repN {X : Cx} : OpR X (binaryOp .Mult) (rRepN X.K) := fun pins s σ H x y v u Q I rx ry h => by
  obtain ⟨l, k, xs, rfl, rfl, hT, h0, h2, hx, hz, q0, q1⟩ := h
  by_cases hk2 : 2 ≤ k
  · exact op_repT pins s σ H _ _ v u Q I rx ry ⟨l, k, xs, rfl, rfl, hT, hx, hk2, h2, hz, q1 (by omega)⟩
  · cases rx
    obtain ⟨t, rfl⟩ := ry
    obtain ⟨its, r, ⟨⟨cls, dd, data, sl⟩, ho, hc, n, hd⟩, hs⟩ := I.tuple hT
    have hc' : cls = .type "tuple" := hc
    have hd' : data = .seq its.toArray n := hd
    rw [hc', hd'] at ho
    have c0 : (decide (k < -(2 ^ 63)) || decide (k ≥ 2 ^ 63)) = false := by rw [decide_eq_false (by omega), decide_eq_false (by omega)]; rfl
    by_cases e1 : k = 1
    · subst e1
      refine wpAny_binaryOp_repeat_ref (T := "tuple") (U := "int") (by decide) ⟨_, ho, rfl⟩ (fun s' => typeIs_int s' 1 t) noFill_tuple_mul F.fills_int_mul F.slot_int_rmul repeat_tuple F.slot_int_index.lookup (call_meets F.slot_int_rmul (typeIs_int s 1 t) F.entry_int_rmul (F.args_int_rmul_2 _ _) (int_rmul_tuple 1 t l _ n dd sl) ⟨ho, rfl, ⟨_, ho, rfl⟩, call_meets F.slot_tuple_mul ⟨_, ho, rfl⟩ F.entry_tuple_mul (F.args_tuple_mul_2 _ _) (mul_none l _ n dd sl 1 t c0 (by rw [show ((1 : Int) == 1) = true from rfl, Bool.or_true])) ⟨ho, ?_⟩⟩)
      exact ⟨.ref l, H, I, rfl, q0 rfl⟩
    · have e0 : k = 0 := by omega
      subst e0
      have hi : its.toArray.isEmpty = false := by
        cases its with
        | nil => exact absurd (List.eq_nil_of_length_eq_zero r.length) hx
        | cons a b => rfl
      refine wpAny_binaryOp_repeat_ref (T := "tuple") (U := "int") (by decide) ⟨_, ho, rfl⟩ (fun s' => typeIs_int s' 0 t) noFill_tuple_mul F.fills_int_mul F.slot_int_rmul repeat_tuple F.slot_int_index.lookup (call_meets F.slot_int_rmul (typeIs_int s 0 t) F.entry_int_rmul (F.args_int_rmul_2 _ _) (int_rmul_tuple 0 t l _ n dd sl) ⟨ho, rfl, ⟨_, ho, rfl⟩, call_meets F.slot_tuple_mul ⟨_, ho, rfl⟩ F.entry_tuple_mul (F.args_tuple_mul_2 _ _) (mul_zero l _ n dd sl 0 t c0 (by rw [hi]; rfl) (by rw [decide_eq_true (show (0 : Int) ≤ 0 by decide)]; rfl)) ⟨ho, ?_⟩⟩)
      have q := q1 (by decide) s.heap.objs.size (I.hok.fresh (Nat.le_refl _))
      refine ⟨.ref s.heap.objs.size, upd H s.heap.objs.size (.tup []), I.laid (t' := s.toks) (fun b u e => Heap.get?_push_of_some _ e) (Nat.le_refl _) ?_, rfl, q⟩
      exact ⟨Nat.zero_le _, [], .nil, ⟨_, Heap.get?_push_size _ rfl, rfl, _, rfl⟩⟩
section
variable {B : Bs} {ρ : Ro} {μ : Mu} {ds : List D}
theorem rd_repN {n : Int} (h0 : ds ≠ []) (h2 : 0 ≤ n ∧ n ≤ 1000) (h3 : ds.length ≤ 1000) : RD B (rRepN B.K) ρ μ (.tup ds) (.int n) (fun e => e = .tup (List.replicate n.toNat ds).flatten) := fun τ σ H x y a Q q => by
  obtain ⟨G, g, ⟨p, vs, rfl, e1, k1⟩, hy⟩ := a.two
  have hy' : y = V.int n := hy
  subst hy'
  refine ⟨p, n, vs, rfl, rfl, .inl (.inl (g.sub _ _ e1)), h2.1, h2.2, fun z => h0 (List.eq_nil_of_length_eq_zero (by rw [← k1.length, z]; rfl)), by rw [k1.length]; exact h3, fun z => ?_, fun z p' hp' => q _ _ _ rfl (g.newTup hp' (k1.rep _))⟩
  subst z
  refine q _ H _ rfl ?_
  have e2 : (List.replicate (1 : Int).toNat ds).flatten = ds := by show (List.replicate 1 ds).flatten = ds; simp
  rw [e2]
  exact ⟨G, g.push ⟨p, vs, rfl, e1, k1⟩⟩
end
/-! ### for i, x in enumerate(list told by a property) -/
section
variable {B : Bs} {ρ : Ro} {μ : Mu} {τ : List (V × D)} {σ : L2.St} {H : Hp} {D0 : Ends} {tz : TS}
theorem eiAt_enumL {ds : List D} {vs : List V} (hlen : vs.length = [D.lst ds].length) (a1 : At B ρ μ (vs.zip [.lst ds] ++ τ) σ H) : EiAt B (iEnum B.K fun _ H Q => Q vs H) ρ μ ds.length (fun i => .tup [.int i, ds.getD i .non]) τ σ H := fun Rr q => by
  obtain ⟨G, g, k⟩ := id (a1.args hlen)
  obtain ⟨v, rfl, p, xs, rfl, e1, k1⟩ := one_arg k
  refine ⟨p, xs, rfl, .inl (.inl (g.sub _ _ e1)), ?_⟩
  refine q _ H _ (fun z hz => List.mem_append_right _ hz) a1 fun i ρ' μ' τ' σ' H' hsub a2 => ?_
  obtain ⟨G2, g2⟩ := id a2
  obtain ⟨q1, xs', c1, e3, k3⟩ := g2.temps (V.ref p, .lst ds) (hsub _ (by simp))
  cases c1
  have s1 : SqL B.K H' p xs' := .inl (.inl (g2.sub _ _ e3))
  refine ⟨fun hi => ⟨xs', s1, by rw [k3.length]; omega⟩, fun hi => ?_⟩
  obtain ⟨x, hx, dx⟩ := k3.get (getD_of hi)
  refine ⟨⟨xs', x, s1, hx⟩, fun z H2 hz => ?_⟩
  obtain ⟨T, x1, rfl, nT, rfl, f1⟩ := hz
  have ex : x = x1 := Option.some.inj (hx.symm.trans (f1 _ s1))
  subst ex
  exact g2.newTup nT ⟨_, _, rfl, rfl, x, _, rfl, dx, rfl⟩
theorem y_forEVt {t : TA} {Pd : List D → Prop} {tb : TS} {k l : Nat} (a : At B ρ μ τ σ H) (h : Ea B t ρ μ fun es => ∃ ds, es = [.lst ds] ∧ Pd ds) (Inv : List D → Nat → Ro → Mu → Prop) (h0 : ∀ ds, Pd ds → Inv ds 0 ρ μ)
    (hs : ∀ ds i ρ' μ' τ1 σ' H' (Dn : Ends), Pd ds → i < ds.length → Inv ds i ρ' μ' → At B ((ρ'.set k (some (.int (i : Nat)))).set l (some (ds.getD i .non))) μ' τ1 σ' H' → (∀ ρ2 μ2 σ2 H2, Inv ds (i + 1) ρ2 μ2 → At B ρ2 μ2 τ1 σ2 H2 → Dn.nx σ2 H2) → tb Dn σ' H')
    (hd : ∀ ds ρ' μ' σ' H', Pd ds → Inv ds ds.length ρ' μ' → At B ρ' μ' τ σ' H' → tz D0 σ' H') : tSeq (tFor (iEnum B.K t) (gTup B.K 2 (gCons (gName k) (gCons (gName l) gNil))) tb) tz D0 σ H := h τ σ H a _ fun vs H1 l' hl hlen a1 => by
  obtain ⟨ds, rfl, hP⟩ := hl
  exact x_forAtG (D0 := { D0 with nx := tz D0 }) (wi := iEnum B.K fun _ H Q => Q vs H) (js := [k, l]) (ρf := fun i ρ => (ρ.set k (some (.int (i : Nat)))).set l (some (ds.getD i .non))) (eiAt_enumL hlen a1) (Inv ds) (h0 ds hP) (fun i ρ' μ' hi hI => gd_tup2) (fun i ρ' μ' τ1 σ' H' Dn hi hI a2 h1 => hs ds i ρ' μ' τ1 σ' H' Dn hP hi hI a2 h1) fun ρ' μ' σ' H' hI a2 => hd ds ρ' μ' σ' H' hP hI a2
theorem y_forEV {te : TE} {Pd : List D → Prop} {tb : TS} {k l : Nat} (a : At B ρ μ τ σ H) (h : Ev B te ρ μ fun d => ∃ ds, d = .lst ds ∧ Pd ds) (Inv : List D → Nat → Ro → Mu → Prop) (h0 : ∀ ds, Pd ds → Inv ds 0 ρ μ)
    (hs : ∀ ds i ρ' μ' τ1 σ' H' (Dn : Ends), Pd ds → i < ds.length → Inv ds i ρ' μ' → At B ((ρ'.set k (some (.int (i : Nat)))).set l (some (ds.getD i .non))) μ' τ1 σ' H' → (∀ ρ2 μ2 σ2 H2, Inv ds (i + 1) ρ2 μ2 → At B ρ2 μ2 τ1 σ2 H2 → Dn.nx σ2 H2) → tb Dn σ' H')
    (hd : ∀ ds ρ' μ' σ' H', Pd ds → Inv ds ds.length ρ' μ' → At B ρ' μ' τ σ' H' → tz D0 σ' H') : tSeq (tFor (iEnum B.K (tCons te tNil)) (gTup B.K 2 (gCons (gName k) (gCons (gName l) gNil))) tb) tz D0 σ H :=
  y_forEVt a ((ea1P h).imp fun es ⟨d, e1, ds, e2, hP⟩ => ⟨ds, by rw [e1, e2], hP⟩) Inv h0 hs hd
end
end Cal


namespace Cal
open PySem PySem.Spec PyProof.Rows L2
abbrev s__law_are_counts : Stmt := topS 53
abbrev n__law_are_counts : List Str := ["plan", "place", "thing", "count"]
theorem sc__law_are_counts : FnScope n__law_are_counts ["plan", "place", "thing"] (defScope s__law_are_counts) := ⟨rfl, rfl, rfl, by decide +kernel, rfl, by decide +kernel, by decide +kernel⟩
abbrev s__law_is_update : Stmt := topS 57
abbrev n__law_is_update : List Str := ["world", "plan", "thing"]
theorem sc__law_is_update : FnScope n__law_is_update ["world", "plan", "thing"] (defScope s__law_is_update) := ⟨rfl, rfl, rfl, by decide +kernel, rfl, by decide +kernel, by decide +kernel⟩
/-! ### counts and updates -/
def natD : D → Bool | .int i => decide (0 ≤ i) | _ => false
def countsB (n : Int) : D → Bool
  | .tup es => decide ((es.length : Int) = n) && (List.range es.length).all fun i => natD (es.getD i .non)
  | _ => false
theorem counts_no {n : Int} {d : D} (h : isTup n d = false) : countsB n d = false := by
  cases d with
  | tup es =>
    have h' : decide ((es.length : Int) = n) = false := h
    show (decide _ && _) = false
    rw [h']; rfl
  | _ => rfl
theorem counts_yes {n : Int} {d : D} (h : isTup n d = true) : ∃ es, d = .tup es ∧ countsB n d = (List.range es.length).all fun i => natD (es.getD i .non) := by
  cases d with
  | tup es =>
    have h' : decide ((es.length : Int) = n) = true := h
    refine ⟨es, rfl, ?_⟩
    show (decide _ && _) = _
    rw [h']; rfl
  | _ => cases h
abbrev RowsT := List (List (Int × Int))
/-- how many edges a place counts -/
def nEdges (rows : RowsT) (p : Nat) : Nat := (rows.getD p []).length
def updB (ss : List (List Str)) (rows : RowsT) : D → Bool
  | .tup [.int i, x, c] => (decide (0 ≤ i) && decide (i < (ss.length : Int))) && (inX x (ss.getD i.toNat []) && countsB (nEdges rows i.toNat) c)
  | _ => false
section
variable {P : Program} {w : World} {K : PySem.W.Frag} {mg : Str → Option Value} {base : Heap} {f : Addr} {fd : FuncData}
abbrev BNA21 : List Str := ["all", "isinstance", "len", "str"]
variable (bi : ∀ x, x ∈ BNA21 → mg x = none)
abbrev sp_are_counts_of (K : PySem.W.Frag) : Sp := psp K (fun ds => ∃ d n, ds = [d, .int n] ∧ Sm d) (fun ds e => ∃ d n, ds = [d, .int n] ∧ e = .bl (countsB n d))
include bi in
theorem ok_are_counts_of (F : Fun K "are_counts_of" "are_counts_of" s_are_counts_of f fd) (c_is_tuple_of : C8.Cal P w K mg base 1 "is_tuple_of" (sp_is_tuple_of K) []) (c_is_integer : C8.Cal P w K mg base 1 "is_integer" (sp_is_integer K) []) : FnOk P w K mg base CX0 2 f fd ["thing", "length"] (sp_are_counts_of K) := by
  refine F.ok sc_are_counts_of (fun vs H Q E h => ?_) (fun cdv A outer s H vs Q E hr h => ?_)
  · obtain ⟨G, ds, h1, ⟨d, n, rfl, _⟩, _⟩ := h
    exact h1.length
  · have hu := hu_of hr
    obtain ⟨G, ds, ⟨d, n, rfl, hd⟩, hlen, a, hq⟩ := fsp_start locT n_are_counts_of h
    refine ⟨_, (pss_one (ps_ret (pe_and (C8.pe_c c_is_tuple_of hr (by first | decide | omega) (by rfl) (pa_cons (pv 0) (pa_cons (pv 1) pa_nil))) (pe_one (pe_callB (id := "all") (r := rAll K) (cr_all rfl) (by rfl) (bi "all" (by decide +kernel)) (by decide +kernel) (pa_cons (pe_lc (own := [("item", 2)]) (g := gName 2) (tt := tYes) rfl sc_are_counts_of.nd (pi_tup (pv 0)) (blkOk_by (N := n_are_counts_of) (sc := defScope s_are_counts_of) (by decide +kernel)) (fun _ _ _ _ _ => (pg_name (i := 2) sc_are_counts_of.nd rfl (by first | exact (.inl rfl) | exact (.inr rfl)))) (fun _ _ _ _ _ => pts_nil) (fun _ _ _ _ _ => (pe_and (C8.pe_c c_is_integer hr (by first | decide | omega) (by rfl) (pa_cons (pv 2) pa_nil)) (pe_one (pe_cmpR u_ge (pv 2) pe_int (nomark _)))))) pa_nil)))))), ?_⟩
    have tp : ∀ {ρ : Ro} {μ : Mu}, ρ[0]? = some (some d) → ρ[1]? = some (some (.int n)) → Ed ⟨K, fun _ => True, [], locT, G, H⟩ (tCall (sp_is_tuple_of K) [] C8.E0 (tCons (tVar 0) (tCons (tVar 1) tNil))) ρ μ (.bl (isTup n d)) := fun h0 h1 => ed_p (ead_cons (ed_var h0) (ead_cons (ed_var h1) ea_nil)) ⟨_, _, rfl, hd⟩ (by rintro e ⟨d', n', e1, rfl⟩; cases e1; rfl)
    cases hT : isTup n d with
    | false =>
      refine x_ret a (Ed.is (e := .bl false) (ed_andV (b := true) (tp rfl rfl) fun z => absurd (hT.symm.trans z) (by decide)) (by rw [hT]; rfl)) fun v H' e he a' => hq ⟨d, n, rfl, by rw [he, counts_no hT]⟩ a'
    | true =>
      obtain ⟨es, rfl, hc⟩ := counts_yes hT
      refine x_ret a (Ed.is (ed_andV (tp rfl rfl) fun _ => ed_allF (f := fun i => natD (es.getD i .non)) (ed_lc0 (n := es.length) (ei_tup (ed_var rfl)) (by decide) (Nat.le_trans hd.1 (by decide)) fun i hi cl => ?_)) (by rw [hT, hc]; rfl)) fun v H' e he a' => hq ⟨_, n, rfl, he⟩ a'
      have hs := hd.2.all _ (List.mem_of_getElem? (getD_of hi))
      generalize es.getD i .non = x at hs
      refine Ed.is (d := .bl (isInt x && natD x)) (ed_andV (ed_p (d := .bl (isInt x)) (ead_cons (ed_var rfl) ea_nil) ⟨_, rfl, hs⟩ (by rintro e ⟨d', e1, rfl⟩; cases e1; rfl)) fun z => ?_) (by cases x <;> rfl)
      obtain ⟨k, rfl⟩ := isInt_eq z
      exact ed_op (ed_var rfl) ed_int rd_geI
abbrev sp_are_counts (K : PySem.W.Frag) : Sp := psp K (fun ds => ∃ ss cs rows, ∃ (p : Nat) (d : D), ds = [plD ss cs, planD rows, .int p, d] ∧ PlOk ss cs ∧ PlL ss cs ∧ ss.length + cs.length ≤ 7 ∧ PlanOk ss cs rows ∧ p < ss.length + cs.length ∧ Sm d) (fun ds e => ∃ ss cs rows, ∃ (p : Nat) (d : D), ds = [plD ss cs, planD rows, .int p, d] ∧ e = .bl (countsB (nEdges rows p) d))
theorem planD_inj {a b : RowsT} (h : planD a = planD b) : a = b := (List.map_inj_right fun x y e => (List.map_inj_right fun p q e => pairD_inj e).mp (D.tup.inj e)).mp (D.tup.inj h)
theorem len_at {B : Bs} {ρ : Ro} {μ : Mu} {ta tb : TE} {rows : RowsT} {p : Nat} (hp : p < rows.length) (h1 : Ed B ta ρ μ (planD rows)) (h2 : Ed B tb ρ μ (.int (p : Nat))) : Ed B (tCB (rLenU B.K) (tCons (tOp (rIx B.K) ta tb) tNil)) ρ μ (.int ((nEdges rows p : Nat) : Int)) :=
  Ed.is (ed_lenT (ds := (rows.getD p []).map pD) (ed_op (d1 := planD rows) (d2 := .int (p : Nat)) h1 h2 (rd_ixT (atI_of2 (by omega) (by rw [show ((p : Int)).toNat = p by omega, List.getElem?_map, getD_at (z := []) hp]; rfl))))) (by rw [List.length_map]; rfl)
include bi in
theorem ok_are_counts (F : Fun K "are_counts" "are_counts" s_are_counts f fd) (c_check_plan : C8.Cal P w K mg base 9 "check_plan" (sp_check_plan K) []) (c_check_place : C8.Cal P w K mg base 4 "check_place" (sp_check_place K) []) (c_are_counts_of : C8.Cal P w K mg base 2 "are_counts_of" (sp_are_counts_of K) []) : FnOk P w K mg base CX0 10 f fd ["placement", "plan", "place", "thing"] (sp_are_counts K) := by
  refine F.ok sc_are_counts (fun vs H Q E h => ?_) (fun cdv A outer s H vs Q E hr h => ?_)
  · obtain ⟨G, ds, h1, ⟨ss, cs, rows, p, d, rfl, _⟩, _⟩ := h
    exact h1.length
  · have hu := hu_of hr
    obtain ⟨G, ds, ⟨ss, cs, rows, p, d, rfl, hO, hL, m7, hP, hp, hd⟩, hlen, a, hq⟩ := fsp_start locT n_are_counts h
    refine ⟨_, (pss_cons (ps_expr (C8.pe_c c_check_plan hr (by first | decide | omega) (by rfl) (pa_cons (pv 0) (pa_cons (pv 1) pa_nil))))
      (pss_cons (ps_expr (C8.pe_c c_check_place hr (by first | decide | omega) (by rfl) (pa_cons (pv 0) (pa_cons (pv 2) pa_nil))))
      (pss_one (ps_ret (C8.pe_c c_are_counts_of hr (by first | decide | omega) (by rfl) (pa_cons (pv 3) (pa_cons (pe_callB (id := "len") (r := rLenU K) u_len (by rfl) (bi "len" (by decide +kernel)) (by decide +kernel) (pa_cons (pe_ix (r := rIx K) ix_seq (pv 1) (pv 2) (fun _ _ => rfl)) pa_nil)) pa_nil))))))), ?_⟩
    have hl := hP.len
    refine y_drop a (ed_p (d := .non) (ead_cons (ed_var rfl) (ead_cons (ed_var rfl) ea_nil)) ⟨_, _, _, rfl, hO, hL, sm_plan hP m7, plan_is hP⟩ fun e he => he) fun d0 μ' H1 hd0 a1 => ?_
    obtain ⟨_, rfl⟩ := hd0
    refine y_drop a1 (ed_p (d := .non) (ead_cons (ed_var rfl) (ead_cons (ed_var rfl) ea_nil)) ⟨_, _, _, rfl, hO, ⟨by omega, by omega⟩, by omega⟩ fun e he => he) fun d0 μ' H2 hd0 a2 => ?_
    obtain ⟨_, rfl⟩ := hd0
    refine x_ret a2 (ed_p (d := .bl (countsB (nEdges rows p) d)) (ead_cons (ed_var rfl) (ead_cons (len_at (by omega) (ed_var rfl) (ed_var rfl)) ea_nil)) ⟨_, _, rfl, hd⟩ (by rintro e ⟨d', n', e1, rfl⟩; cases e1; rfl)) fun v H' e he a' => hq ⟨ss, cs, rows, p, d, rfl, he⟩ a'
abbrev sp_is_update_of (K : PySem.W.Frag) : Sp := psp K (fun ds => ∃ ss cs rows d, ds = [plD ss cs, planD rows, d] ∧ PlOk ss cs ∧ ss.length ≤ 7 ∧ PlanOk ss cs rows ∧ Sm d) (fun ds e => ∃ ss cs rows d, ds = [plD ss cs, planD rows, d] ∧ e = .bl (updB ss rows d))
theorem tup3 {d : D} (h : isTup 3 d = true) : ∃ x y z, d = .tup [x, y, z] := by
  cases d with
  | tup es =>
    have h' : (es.length : Int) = 3 := of_decide_eq_true h
    match es, h' with
    | [x, y, z], _ => exact ⟨x, y, z, rfl⟩
    | [], h => cases h
    | [_], h => simp at h
    | [_, _], h => simp at h
    | _ :: _ :: _ :: _ :: _, h => simp at h; omega
  | _ => cases h
theorem upd_no {ss : List (List Str)} {rows : RowsT} {d : D} (h : isTup 3 d = false) : updB ss rows d = false := by
  unfold updB
  split
  · cases h
  · rfl
theorem upd_out {ss : List (List Str)} {rows : RowsT} {x y z : D} (h : isBelow ss.length x = false) : updB ss rows (.tup [x, y, z]) = false := by
  cases x with
  | int i =>
    have h' : (decide (0 ≤ i) && decide (i < (ss.length : Int))) = false := h
    show ((decide (0 ≤ i) && decide (i < (ss.length : Int))) && _) = false
    rw [h']; rfl
  | _ => rfl
theorem below_int {n : Nat} {d : D} (h : isBelow n d = true) : ∃ k : Nat, d = .int (k : Nat) ∧ k < n := by
  cases d with
  | int i =>
    have h' : (decide (0 ≤ i) && decide (i < (n : Int))) = true := h
    rw [Bool.and_eq_true] at h'
    have h0 := of_decide_eq_true h'.1
    have h1 := of_decide_eq_true h'.2
    exact ⟨i.toNat, by congr 1; omega, by omega⟩
  | _ => cases h
theorem upd_in {ss : List (List Str)} {rows : RowsT} {k : Nat} {y z : D} (h : k < ss.length) : updB ss rows (.tup [.int (k : Nat), y, z]) = (inX y (ss.getD k []) && countsB (nEdges rows k) z) := by
  show ((decide (0 ≤ (k : Int)) && decide ((k : Int) < (ss.length : Int))) && (inX y (ss.getD ((k : Int)).toNat []) && countsB (nEdges rows ((k : Int)).toNat) z)) = _
  rw [decide_eq_true (show 0 ≤ (k : Int) by omega), decide_eq_true (show (k : Int) < (ss.length : Int) by omega), show ((k : Int)).toNat = k by omega]; rfl
include bi in
theorem ok_is_update_of (F : Fun K "is_update_of" "is_update_of" s_is_update_of f fd) (c_is_tuple_of : C8.Cal P w K mg base 1 "is_tuple_of" (sp_is_tuple_of K) []) (c_is_site : C8.Cal P w K mg base 3 "is_site" (sp_is_site K) []) (c_kept_at : C8.Cal P w K mg base 1 "kept_at" (sp_kept_at K) []) (c_are_counts_of : C8.Cal P w K mg base 2 "are_counts_of" (sp_are_counts_of K) []) : FnOk P w K mg base CX0 4 f fd ["placement", "plan", "thing"] (sp_is_update_of K) := by
  refine F.ok sc_is_update_of (fun vs H Q E h => ?_) (fun cdv A outer s H vs Q E hr h => ?_)
  · obtain ⟨G, ds, h1, ⟨ss, cs, rows, d, rfl, _⟩, _⟩ := h
    exact h1.length
  · have hu := hu_of hr
    obtain ⟨G, ds, ⟨ss, cs, rows, d, rfl, hO, m7, hP, hd⟩, hlen, a, hq⟩ := fsp_start locT n_is_update_of h
    refine ⟨_, (pss_cons (ps_if (pt_not (pt_val (C8.pe_c c_is_tuple_of hr (by first | decide | omega) (by rfl) (pa_cons (pv 2) (pa_cons pe_int pa_nil))))) (pss_one (ps_ret pe_bl)) pss_nil)
      (pss_cons (ps_asg (pv 2) (pg_tup rfl (pgs_cons (pg_name (i := 3) sc_is_update_of.nd rfl (by first | exact (.inl rfl) | exact (.inr rfl))) (pgs_cons (pg_name (i := 4) sc_is_update_of.nd rfl (by first | exact (.inl rfl) | exact (.inr rfl))) (pgs_cons (pg_name (i := 5) sc_is_update_of.nd rfl (by first | exact (.inl rfl) | exact (.inr rfl))) pgs_nil)))))
      (pss_cons (ps_if (PW.pt (pw_or (pt_not (pt_val (C8.pe_c c_is_site hr (by first | decide | omega) (by rfl) (pa_cons (pv 0) (pa_cons (pv 3) pa_nil))))) (pw_or1 (pt_cmpR (r := rInX K true) (op_notInX hr.units) (pv 4) (C8.pe_c c_kept_at hr (by first | decide | omega) (by rfl) (pa_cons (pv 0) (pa_cons (pv 3) pa_nil))) (by rfl))))) (pss_one (ps_ret pe_bl)) pss_nil)
      (pss_one (ps_ret (C8.pe_c c_are_counts_of hr (by first | decide | omega) (by rfl) (pa_cons (pv 5) (pa_cons (pe_callB (id := "len") (r := rLenU K) u_len (by rfl) (bi "len" (by decide +kernel)) (by decide +kernel) (pa_cons (pe_ix (r := rIx K) ix_seq (pv 1) (pv 3) (fun _ _ => rfl)) pa_nil)) pa_nil)))))))), ?_⟩
    refine y_ifb (b := !isTup 3 d) a (eb_not (eb_B (ed_p (ead_cons (ed_var rfl) (ead_cons ed_int ea_nil)) ⟨_, _, rfl, hd⟩ (by rintro e ⟨d', n', e1, rfl⟩; cases e1; rfl)))) (fun hb H1 a1 => ?_) fun hb H1 a1 => ?_
    · rw [Bool.not_eq_true'] at hb
      exact x_ret a1 ed_bl fun v H' e he a' => hq ⟨ss, cs, rows, d, rfl, by rw [he, upd_no hb]⟩ a'
    · rw [Bool.not_eq_false'] at hb
      obtain ⟨x, y, z, rfl⟩ := tup3 hb
      have sx := hd.2.all x (by simp)
      have sy := hd.2.all y (by simp)
      have sz := hd.2.all z (by simp)
      refine y_asgG a1 (ed_var rfl) gd_tup3C fun σ2 H2 a2 => ?_
      have si : ∀ {ρ : Ro} {μ : Mu}, ρ[0]? = some (some (plD ss cs)) → ρ[3]? = some (some x) → Ed ⟨K, fun _ => True, [], locT, G, H⟩ (tCall (sp_is_site K) [] C8.E0 (tCons (tVar 0) (tCons (tVar 3) tNil))) ρ μ (.bl (isBelow ss.length x)) := fun h0 h3 => ed_p (ead_cons (ed_var h0) (ead_cons (ed_var h3) ea_nil)) ⟨_, _, _, rfl, hO, sx⟩ (by
        rintro e ⟨ss', cs', d', e1, rfl⟩
        obtain ⟨rfl, rfl, rfl⟩ := plD_any e1; rfl)
      cases hB : isBelow ss.length x with
      | false =>
        refine y_ifb (b := !isBelow ss.length x || true) a2 (eb_or (eb_not (eb_B (si rfl rfl))) fun z => by rw [hB] at z; cases z) (fun _ H3 a3 => ?_) fun z => by rw [Bool.or_true] at z; cases z
        exact x_ret a3 ed_bl fun v H' e he a' => hq ⟨ss, cs, rows, _, rfl, by rw [he, upd_out hB]⟩ a'
      | true =>
        obtain ⟨k, rfl, hk⟩ := below_int hB
        have ek : keptS ss ((k : Nat) : Int) = ss.getD k [] := by unfold keptS; rw [show (((k : Nat) : Int)).toNat = k by omega]
        refine y_ifb (b := !isBelow ss.length (.int (k : Nat)) || !inX y (ss.getD k [])) a2 (eb_or (eb_not (eb_B (si rfl rfl))) fun _ => eb_test (ed_op (ed_var rfl) (Ed.is (ed_p (d := tS (keptS ss ((k : Nat) : Int))) (ead_cons (ed_var rfl) (ead_cons (ed_var rfl) ea_nil)) ⟨_, _, _, rfl, hO, by omega⟩ (by
          rintro e ⟨ss', cs', p', e1, rfl⟩
          injection e1 with e1 e2
          injection e2 with e2 _
          rw [(plD_inj e1).1, ← D.int.inj e2])) (by rw [ek])) (rd_notInX sy))) (fun hb2 H3 a3 => ?_) fun hb2 H3 a3 => ?_
        · rw [hB, Bool.not_true, Bool.false_or, Bool.not_eq_true'] at hb2
          exact x_ret a3 ed_bl fun v H' e he a' => hq ⟨ss, cs, rows, _, rfl, by rw [he, upd_in hk, hb2]; rfl⟩ a'
        · rw [hB, Bool.not_true, Bool.false_or, Bool.not_eq_false'] at hb2
          refine x_ret a3 (ed_p (d := .bl (countsB (nEdges rows k) z)) (ead_cons (ed_var rfl) (ead_cons (len_at (by have := hP.len; omega) (ed_var rfl) (ed_var rfl)) ea_nil)) ⟨_, _, rfl, sz⟩ (by rintro e ⟨d', n', e1, rfl⟩; cases e1; rfl)) fun v H' e he a' => hq ⟨ss, cs, rows, _, rfl, by rw [he, upd_in hk, hb2]; rfl⟩ a'
abbrev sp_is_update (K : PySem.W.Frag) : Sp := psp K (fun ds => ∃ ss cs rows d, ds = [plD ss cs, planD rows, d] ∧ PlOk ss cs ∧ PlL ss cs ∧ ss.length + cs.length ≤ 7 ∧ PlanOk ss cs rows ∧ Sm d) (fun ds e => ∃ ss cs rows d, ds = [plD ss cs, planD rows, d] ∧ e = .bl (updB ss rows d))
theorem upd_inj {ss ss' : List (List Str)} {cs cs' : List (List Int)} {rows rows' : RowsT} {d d' : D} (h : [plD ss cs, planD rows, d] = [plD ss' cs', planD rows', d']) : ss = ss' ∧ cs = cs' ∧ rows = rows' ∧ d = d' := by
  injection h with h1 h2
  injection h2 with h2 h3
  injection h3 with h3 _
  exact ⟨(plD_inj h1).1, (plD_inj h1).2, planD_inj h2, h3⟩
include bi in
theorem ok_is_update (F : Fun K "is_update" "is_update" s_is_update f fd) (c_check_plan : C8.Cal P w K mg base 9 "check_plan" (sp_check_plan K) []) (c_is_update_of : C8.Cal P w K mg base 4 "is_update_of" (sp_is_update_of K) []) : FnOk P w K mg base CX0 10 f fd ["placement", "plan", "thing"] (sp_is_update K) := by
  refine F.ok sc_is_update (fun vs H Q E h => ?_) (fun cdv A outer s H vs Q E hr h => ?_)
  · obtain ⟨G, ds, h1, ⟨ss, cs, rows, d, rfl, _⟩, _⟩ := h
    exact h1.length
  · have hu := hu_of hr
    obtain ⟨G, ds, ⟨ss, cs, rows, d, rfl, hO, hL, m7, hP, hd⟩, hlen, a, hq⟩ := fsp_start locT n_is_update h
    refine ⟨_, (pss_cons (ps_expr (C8.pe_c c_check_plan hr (by first | decide | omega) (by rfl) (pa_cons (pv 0) (pa_cons (pv 1) pa_nil))))
      (pss_one (ps_ret (C8.pe_c c_is_update_of hr (by first | decide | omega) (by rfl) (pa_cons (pv 0) (pa_cons (pv 1) (pa_cons (pv 2) pa_nil))))))), ?_⟩
    refine y_drop a (ed_p (d := .non) (ead_cons (ed_var rfl) (ead_cons (ed_var rfl) ea_nil)) ⟨_, _, _, rfl, hO, hL, sm_plan hP m7, plan_is hP⟩ fun e he => he) fun d0 μ' H1 hd0 a1 => ?_
    obtain ⟨_, rfl⟩ := hd0
    exact x_ret a1 (ed_p (d := .bl (updB ss rows d)) (ead_cons (ed_var rfl) (ead_cons (ed_var rfl) (ead_cons (ed_var rfl) ea_nil))) ⟨_, _, _, _, rfl, hO, by omega, hP, hd⟩ (by
      rintro e ⟨ss', cs', rows', d', e1, rfl⟩
      obtain ⟨_, _, rfl, rfl⟩ := upd_inj e1
      rw [(upd_inj e1).1])) fun v H' e he a' => hq ⟨ss, cs, rows, d, rfl, he⟩ a'
abbrev sp__law_are_counts (K : PySem.W.Frag) : Sp := psp K (fun ds => ∃ rows, ∃ (p : Nat) (d : D), ds = [planD rows, .int p, d] ∧ p < rows.length ∧ Sm d) (fun ds e => ∃ rows, ∃ (p : Nat) (d : D), ds = [planD rows, .int p, d] ∧ e = .bl (countsB (nEdges rows p) d))
theorem nat_in {x : D} (h : Sm x) : isIn 0 (10 ^ 60) x = natD x := by
  cases x with
  | int i =>
    have h' : i.natAbs < 10 ^ 60 := h
    show (decide (0 ≤ i) && decide (i ≤ 10 ^ 60)) = decide (0 ≤ i)
    by_cases c : 0 ≤ i
    · rw [decide_eq_true c, Bool.true_and]
      refine decide_eq_true ?_
      have e : (i.natAbs : Int) = i := Int.natAbs_of_nonneg c
      have : (i.natAbs : Int) < ((10 ^ 60 : Nat) : Int) := Int.ofNat_lt.mpr h'
      rw [e] at this
      exact Int.le_of_lt this
    · rw [decide_eq_false c]; rfl
  | _ => rfl
include bi in
theorem ok__law_are_counts (F : Fun K "_law_are_counts" "_law_are_counts" s__law_are_counts f fd) (c__law_is_tuple : C8.Cal P w K mg base 1 "_law_is_tuple" (sp_is_tuple_of K) []) (c__law_is_int : C8.Cal P w K mg base 1 "_law_is_int" (sp__law_is_int K) []) : FnOk P w K mg base CX0 2 f fd ["plan", "place", "thing"] (sp__law_are_counts K) := by
  refine F.ok sc__law_are_counts (fun vs H Q E h => ?_) (fun cdv A outer s H vs Q E hr h => ?_)
  · obtain ⟨G, ds, h1, ⟨rows, p, d, rfl, _⟩, _⟩ := h
    exact h1.length
  · have hu := hu_of hr
    obtain ⟨G, ds, ⟨rows, p, d, rfl, hp, hd⟩, hlen, a, hq⟩ := fsp_start locT n__law_are_counts h
    refine ⟨_, (pss_one (ps_ret (pe_and (C8.pe_c c__law_is_tuple hr (by first | decide | omega) (by rfl) (pa_cons (pv 2) (pa_cons (pe_callB (id := "len") (r := rLenU K) u_len (by rfl) (bi "len" (by decide +kernel)) (by decide +kernel) (pa_cons (pe_ix (r := rIx K) ix_seq (pv 0) (pv 1) (fun _ _ => rfl)) pa_nil)) pa_nil))) (pe_one (pe_cmpR (r := rEqE K) (op_eqE hr.units0) (pe_lc (own := [("count", 3)]) (g := gName 3) rfl sc__law_are_counts.nd (pi_tup (pv 2)) (blkOk_by (N := n__law_are_counts) (sc := defScope s__law_are_counts) (by decide +kernel)) (fun _ _ _ _ _ => (pg_name (i := 3) sc__law_are_counts.nd rfl (by first | exact (.inl rfl) | exact (.inr rfl)))) (fun _ _ _ _ _ => (pts_one (pt_not (pt_val (C8.pe_c c__law_is_int hr (by first | decide | omega) (by rfl) (pa_cons (pv 3) (pa_cons pe_int (pa_cons (pe_op op_pow pe_int pe_int) pa_nil)))))))) (fun _ _ _ _ _ => (pv 3))) (pe_lst pa_nil) (nomark _)))))), ?_⟩
    have tp : ∀ {ρ : Ro} {μ : Mu}, ρ[0]? = some (some (planD rows)) → ρ[1]? = some (some (.int (p : Nat))) → ρ[2]? = some (some d) → Ed ⟨K, fun _ => True, [], locT, G, H⟩ (tCall (sp_is_tuple_of K) [] C8.E0 (tCons (tVar 2) (tCons (tCB (rLenU K) (tCons (tOp (rIx K) (tVar 0) (tVar 1)) tNil)) tNil))) ρ μ (.bl (isTup (nEdges rows p) d)) := fun h0 h1 h2 => ed_p (ead_cons (ed_var h2) (ead_cons (len_at hp (ed_var h0) (ed_var h1)) ea_nil)) ⟨_, _, rfl, hd⟩ (by rintro e ⟨d', n', e1, rfl⟩; cases e1; rfl)
    cases hT : isTup (nEdges rows p) d with
    | false =>
      refine x_ret a (Ed.is (e := .bl false) (ed_andV (b := true) (tp rfl rfl rfl) fun z => absurd (hT.symm.trans z) (by decide)) (by rw [hT]; rfl)) fun v H' e he a' => hq ⟨rows, p, d, rfl, by rw [he, counts_no hT]⟩ a'
    | true =>
      obtain ⟨es, rfl, hc⟩ := counts_yes hT
      refine x_ret a (Ed.is (ed_andV (tp rfl rfl rfl) fun _ => Ed.is (ed_op (ed_lcT (n := es.length) (h := fun i => es.getD i .non) (fun i => !natD (es.getD i .non)) (ei_tup (ed_var rfl)) (by decide) (Nat.le_trans hd.1 (by decide)) (fun i hi cl => ?_) fun i hi _ cl => ed_var rfl) (ed_lst ea_nil (by decide)) rd_eqE) (congrArg D.bl none_left)) (by
        rw [hT, hc]
        congr 1
        rw [Bool.true_and]
        exact List.all_congr rfl fun i => Bool.not_not _)) fun v H' e he a' => hq ⟨rows, p, _, rfl, he⟩ a'
      have hs := hd.2.all _ (List.mem_of_getElem? (getD_of hi))
      refine eb_not (eb_B (Ed.is (ed_p (d := .bl (isIn 0 (10 ^ 60) (es.getD i .non))) (ead_cons (ed_var rfl) (ead_cons ed_int (ead_cons (ed_op ed_int ed_int (rd_pow ⟨by decide, by decide, by decide⟩)) ea_nil))) ⟨_, _, _, rfl, hs⟩ (by rintro e ⟨d', lo, hi', e1, rfl⟩; cases e1; rfl)) (by rw [nat_in hs])))
abbrev sp__law_is_update (K : PySem.W.Frag) : Sp := psp K (fun ds => ∃ ss cs rows d, ds = [worldD ss cs, planD rows, d] ∧ PlL ss cs ∧ ss.length ≤ rows.length ∧ Sm d) (fun ds e => ∃ ss cs rows d, ds = [worldD ss cs, planD rows, d] ∧ e = .bl (updB ss rows d))
theorem in_below {n : Nat} {x : D} : isIn 0 ((n : Int) - 1) x = isBelow n x := by
  cases x with
  | int i =>
    show (decide (0 ≤ i) && decide (i ≤ (n : Int) - 1)) = (decide (0 ≤ i) && decide (i < (n : Int)))
    congr 1
    rw [Bool.eq_iff_iff, decide_eq_true_iff, decide_eq_true_iff]; omega
  | _ => rfl
theorem inX_no {x : D} {r : List Str} (h : isS x = false) : inX x r = false := by cases x <;> first | rfl | cases h
include bi in
theorem ok__law_is_update (F : Fun K "_law_is_update" "_law_is_update" s__law_is_update f fd) (c__law_is_tuple : C8.Cal P w K mg base 1 "_law_is_tuple" (sp_is_tuple_of K) []) (c__law_is_int : C8.Cal P w K mg base 1 "_law_is_int" (sp__law_is_int K) []) (c__law_are_counts : C8.Cal P w K mg base 2 "_law_are_counts" (sp__law_are_counts K) []) : FnOk P w K mg base CX0 3 f fd ["world", "plan", "thing"] (sp__law_is_update K) := by
  refine F.ok sc__law_is_update (fun vs H Q E h => ?_) (fun cdv A outer s H vs Q E hr h => ?_)
  · obtain ⟨G, ds, h1, ⟨ss, cs, rows, d, rfl, _⟩, _⟩ := h
    exact h1.length
  · have hu := hu_of hr
    obtain ⟨G, ds, ⟨ss, cs, rows, d, rfl, hL, hrl, hd⟩, hlen, a, hq⟩ := fsp_start locT n__law_is_update h
    refine ⟨_, (pss_cons (ps_if (PW.pt (pw_or (pt_not (pt_val (C8.pe_c c__law_is_tuple hr (by first | decide | omega) (by rfl) (pa_cons (pv 2) (pa_cons pe_int pa_nil))))) (pw_or (pt_not (pt_val (C8.pe_c c__law_is_int hr (by first | decide | omega) (by rfl) (pa_cons (pe_ix (r := rIx K) ix_seq (pv 2) pe_int (fun _ _ => rfl)) (pa_cons pe_int (pa_cons (pe_op op_sub (pe_dget hu (pv 0) pe_str (fun _ _ => rfl)) pe_int) pa_nil)))))) (pw_or1 (pt_not (pt_val (pe_callB (id := "isinstance") (r := rIsi K) call_isi (by rfl) (bi "isinstance" (by decide +kernel)) (by decide +kernel) (pa_cons (pe_ix (r := rIx K) ix_seq (pv 2) pe_int (fun _ _ => rfl)) (pa_cons (pe_bltn (v := .ty "str") (u := .type "str") (by rfl) (bi "str" (by decide +kernel)) (by decide +kernel) rfl) pa_nil))))))))) (pss_one (ps_ret pe_bl)) pss_nil)
      (pss_one (ps_ret (pe_and (pe_cmpR (r := rIn K false) op_in_seq (pe_ix (r := rIx K) ix_seq (pv 2) pe_int (fun _ _ => rfl)) (pe_ix (r := rIx K) ix_seq (pe_dget hu (pv 0) pe_str (fun _ _ => rfl)) (pe_ix (r := rIx K) ix_seq (pv 2) pe_int (fun _ _ => rfl)) (fun _ _ => rfl)) (by rfl)) (pe_one (C8.pe_c c__law_are_counts hr (by first | decide | omega) (by rfl) (pa_cons (pv 1) (pa_cons (pe_ix (r := rIx K) ix_seq (pv 2) pe_int (fun _ _ => rfl)) (pa_cons (pe_ix (r := rIx K) ix_seq (pv 2) pe_int (fun _ _ => rfl)) pa_nil))))))))), ?_⟩
    have tp : ∀ {ρ : Ro} {μ : Mu}, ρ[2]? = some (some d) → Ed ⟨K, fun _ => True, [], locT, G, H⟩ (tCall (sp_is_tuple_of K) [] C8.E0 (tCons (tVar 2) (tCons (tC (.int 3)) tNil))) ρ μ (.bl (isTup 3 d)) := fun h2 => ed_p (ead_cons (ed_var h2) (ead_cons ed_int ea_nil)) ⟨_, _, rfl, hd⟩ (by rintro e ⟨d', n', e1, rfl⟩; cases e1; rfl)
    cases hT : isTup 3 d with
    | false =>
      refine y_ifb (b := !isTup 3 d || true) a (eb_or (eb_not (eb_B (tp rfl))) fun z => by rw [hT] at z; cases z) (fun _ H1 a1 => ?_) fun z => by rw [Bool.or_true] at z; cases z
      exact x_ret a1 ed_bl fun v H' e he a' => hq ⟨ss, cs, rows, d, rfl, by rw [he, upd_no hT]⟩ a'
    | true =>
      obtain ⟨x, y, z, rfl⟩ := tup3 hT
      have sx := hd.2.all x (by simp)
      have sy := hd.2.all y (by simp)
      have sz := hd.2.all z (by simp)
      have gx : ∀ {ρ : Ro} {μ : Mu}, ρ[2]? = some (some (.tup [x, y, z])) → Ed ⟨K, fun _ => True, [], locT, G, H⟩ (tOp (rIx K) (tVar 2) (tC (.int 0))) ρ μ x := fun h => ed_op (d1 := .tup [x, y, z]) (d2 := .int 0) (ed_var h) ed_int (rd_ixT rfl)
      have gy : ∀ {ρ : Ro} {μ : Mu}, ρ[2]? = some (some (.tup [x, y, z])) → Ed ⟨K, fun _ => True, [], locT, G, H⟩ (tOp (rIx K) (tVar 2) (tC (.int 1))) ρ μ y := fun h => ed_op (d1 := .tup [x, y, z]) (d2 := .int 1) (ed_var h) ed_int (rd_ixT rfl)
      have gz : ∀ {ρ : Ro} {μ : Mu}, ρ[2]? = some (some (.tup [x, y, z])) → Ed ⟨K, fun _ => True, [], locT, G, H⟩ (tOp (rIx K) (tVar 2) (tC (.int 2))) ρ μ z := fun h => ed_op (d1 := .tup [x, y, z]) (d2 := .int 2) (ed_var h) ed_int (rd_ixT rfl)
      refine y_ifb (b := !isTup 3 (.tup [x, y, z]) || (!isBelow ss.length x || !isS y)) a (eb_or (eb_not (eb_B (tp rfl))) fun _ => eb_or (eb_not (eb_B (Ed.is (ed_p (d := .bl (isIn 0 ((ss.length : Int) - 1) x)) (ead_cons (gx rfl) (ead_cons ed_int (ead_cons (ed_op (d1 := .int (ss.length : Nat)) (d2 := .int 1) (ed_dgetK (ed_var rfl) rfl) ed_int rd_sub) ea_nil))) ⟨_, _, _, rfl, sx⟩ (by rintro e ⟨d', lo, hi', e1, rfl⟩; cases e1; rfl)) (by rw [in_below])))) fun _ => eb_not (eb_B (ed_isiS (gy rfl) sy.ty))) (fun hb H1 a1 => ?_) fun hb H1 a1 => ?_
      · refine x_ret a1 ed_bl fun v H' e he a' => hq ⟨ss, cs, rows, _, rfl, ?_⟩ a'
        rw [he]
        have hT' : isTup 3 (.tup [x, y, z]) = true := hT
        rw [hT', Bool.not_true, Bool.false_or] at hb
        cases hB : isBelow ss.length x with
        | false => rw [upd_out hB]
        | true =>
          rw [hB, Bool.not_true, Bool.false_or, Bool.not_eq_true'] at hb
          obtain ⟨k, rfl, hk⟩ := below_int hB
          rw [upd_in hk, inX_no hb]; rfl
      · have hT' : isTup 3 (.tup [x, y, z]) = true := hT
        rw [hT', Bool.not_true, Bool.false_or, Bool.or_eq_false_iff, Bool.not_eq_false', Bool.not_eq_false'] at hb
        obtain ⟨k, rfl, hk⟩ := below_int hb.1
        obtain ⟨s, rfl⟩ := isS_eq hb.2
        refine x_ret a1 (Ed.is (ed_andV (a := decide (s ∈ ss.getD k [])) (b := countsB (nEdges rows k) z) (ed_op (gy rfl) (ed_op (d1 := .tup (ss.map tS)) (d2 := .int (k : Nat)) (ed_dgetK (ed_var rfl) rfl) (gx rfl) (rd_ixT (d := tS (ss.getD k [])) (atI_of2 (by omega) (by rw [show ((k : Int)).toNat = k by omega, List.getElem?_map, getD_at (z := []) hk]; rfl)))) rd_inS) fun _ => ed_p (ead_cons (ed_var rfl) (ead_cons (gx rfl) (ead_cons (gz rfl) ea_nil))) ⟨rows, k, z, rfl, by omega, sz⟩ (by
          rintro e ⟨rows', p', d', e1, rfl⟩
          injection e1 with e1 e2
          injection e2 with e2 e3
          injection e3 with e3 _
          rw [planD_inj e1, Int.ofNat.inj (D.int.inj e2), e3])) (by rw [upd_in hk]; rfl)) fun v H' e he a' => hq ⟨ss, cs, rows, _, rfl, he⟩ a'
end
end Cal



namespace Cal
open PySem PySem.Spec PyProof.Rows L2
abbrev s__law_leaf : Stmt := topS 55
abbrev n__law_leaf : List Str := ["deck", "thing", "odd"]
theorem sc__law_leaf : FnScope n__law_leaf ["deck", "thing"] (defScope s__law_leaf) := ⟨rfl, rfl, rfl, by decide +kernel, rfl, by decide +kernel, by decide +kernel⟩
abbrev s__law_bent : Stmt := topS 56
abbrev n__law_bent : List Str := ["deck", "thing", "deep", "at"]
theorem sc__law_bent : FnScope n__law_bent ["deck", "thing", "deep"] (defScope s__law_bent) := ⟨rfl, rfl, rfl, by decide +kernel, rfl, by decide +kernel, by decide +kernel⟩
/-! ### a part put by another value -/
theorem leafT {ds : List D} (h : ptD (.tup ds) = true) : ThA (12 * wd (.tup ds) + 2000) (dep (.tup ds) + 2) [.lst ds, .tup ds.reverse, .tup (cutD ds (some 1) none), .tup (ds ++ cutD ds (some (-1)) none), .tup (ds ++ [.int 0]), .tup (cutD ds none (some (-1))), .tup [.tup ds], .tup (ds ++ [.tup []])] := by
  have h' : ptA ds = true := by simpa only [ptD] using h
  have hc : ∀ d ∈ ds, cl d = true := fun d hd => pt_cl (ptA_mem h' d hd)
  have hw : wd (.tup ds) = wdA ds + 3 := rfl
  have hd : dep (.tup ds) = depA ds + 1 := rfl
  have cu : ∀ lo hi, wdA (cutD ds lo hi) ≤ wdA ds ∧ depA (cutD ds lo hi) ≤ depA ds ∧ ∀ d ∈ cutD ds lo hi, cl d = true := fun lo hi => ⟨wdA_sub (cutD_sub ds lo hi), depA_sub fun d z => (cutD_sub ds lo hi).subset z, fun d z => hc d ((cutD_sub ds lo hi).subset z)⟩
  rw [hw, hd]
  refine ⟨.lst hc (by omega) (by omega), .tup (fun d z => hc d (List.mem_reverse.mp z)) (by rw [wdA_perm (List.reverse_perm ds)]; omega) (by have := depA_sub (as := ds.reverse) (bs := ds) fun d z => List.mem_reverse.mp z; omega), .tup (cu _ _).2.2 (by have := (cu (some 1) none).1; omega) (by have := (cu (some 1) none).2.1; omega), .tup (fun d z => ?_) (by have := (cu (some (-1)) none).1; rw [wdA_app]; omega) (by have := (cu (some (-1)) none).2.1; rw [depA_app]; omega),
    .tup (fun d z => ?_) (by rw [wdA_app]; show wdA ds + (210 + 2 + 0) + 3 ≤ _; omega) (by rw [depA_app]; show max (depA ds) (max 0 0) + 1 ≤ _; omega), .tup (cu _ _).2.2 (by have := (cu none (some (-1))).1; omega) (by have := (cu none (some (-1))).2.1; omega), .tup (fun d z => by rw [List.mem_singleton.mp z]; exact pt_cl h) (by show wdA ds + 3 + 2 + 0 + 3 ≤ _; omega) (by show max (depA ds + 1) 0 + 1 ≤ _; omega), .tup (fun d z => ?_) (by rw [wdA_app]; show wdA ds + (0 + 3 + 2 + 0) + 3 ≤ _; omega) (by rw [depA_app]; show max (depA ds) (max (0 + 1) 0) + 1 ≤ _; omega), True.intro⟩
  · rcases List.mem_append.mp z with y | y
    · exact hc d y
    · exact (cu _ _).2.2 d y
  · rcases List.mem_append.mp z with y | y
    · exact hc d y
    · rw [List.mem_singleton.mp y]; rfl
  · rcases List.mem_append.mp z with y | y
    · exact hc d y
    · rw [List.mem_singleton.mp y]; rfl
theorem leafS {s : Str} (h : ptD (.str s) = true) : ThA (12 * wd (.str s) + 2000) (dep (.str s) + 2) [.str (s ++ "z"), .str (cutS s none (some (-1))), .str (Txt.upper s), .str (s ++ " "), .lst [.str s], .str (Txt.mul s 11), .str "loop", .str "none"] := by
  obtain ⟨h1, h2⟩ := pt_str h
  have hw : wd (.str s) = 10 * s.length + 2 := rfl
  have hd : dep (.str s) = 0 := rfl
  have hb : ∀ c ∈ s.cps.toList, c < 1114112 := fun c hc => by have := h2 c hc; omega
  have ap : ∀ (t : Str), (∀ c ∈ t.cps.toList, c < 1114112) → t.length ≤ 1 → Th (12 * (10 * s.length + 2) + 2000) (0 + 2) (.str (s ++ t)) := fun t ht hl => .txt (fun c hc => (app_mem hc).elim (hb c) (ht c)) (by rw [strLen_append]; omega)
  rw [hw, hd]
  refine ⟨ap _ (by decide) (by decide), .txt (fun c hc => hb c (cutS_mem hc)) (by have := cutS_len s none (some (-1)); omega), (upper_th (n := 12 * (10 * s.length + 2) + 2000) (k := 0 + 2) (fun c hc => by have := h2 c hc; omega) (by omega)), ap _ (by decide) (by decide), .lst (fun d z => by rw [List.mem_singleton.mp z]; exact pt_cl h) (by show 10 * s.length + 2 + 2 + 0 + 3 ≤ _; omega) (by show max 0 0 + 1 ≤ _; omega), mul_th (m := 11) hb (by omega) (by decide), .txt (by decide) (by show 10 * 4 + 2 ≤ _; omega), .txt (by decide) (by show 10 * 4 + 2 ≤ _; omega), True.intro⟩
theorem leafI {i : Int} (h : ptD (.int i) = true) : ThA (12 * wd (.int i) + 2000) (dep (.int i) + 2) [.int (i + 1), .int (i - 1), .bl (decide (i = 1)), .str (toString i), .int (-i), .tup [.int i], .bl (decide (i = 0))] := by
  have hb := pt_int h
  have hi : ∀ j : Int, j.natAbs < 2000 → Th (12 * wd (.int i) + 2000) (dep (.int i) + 2) (.int j) := fun j hj => .clean (cl_int (Nat.lt_of_lt_of_le hj (by decide))) (by show 210 ≤ 12 * 210 + 2000; decide) (Nat.zero_le _)
  have hl : ∀ b : Bool, Th (12 * wd (.int i) + 2000) (dep (.int i) + 2) (.bl b) := fun b => .clean rfl (by show 5 ≤ 12 * 210 + 2000; decide) (Nat.zero_le _)
  exact ⟨hi _ (by omega), hi _ (by omega), hl _, intS_th (by omega) (by show 200 ≤ 12 * 210 + 2000; decide), hi _ (by omega), .tup (fun d z => by rw [List.mem_singleton.mp z]; exact pt_cl h) (by show 210 + 2 + 0 + 3 ≤ 12 * 210 + 2000; decide) (by show max 0 0 + 1 ≤ 0 + 2; decide), hl _, True.intro⟩
def odds : List D := [.non, .bl true, .bl false, .int 0, .int 1, .int 2, .int (-1), .int 9, .str "", .str "a", .tup [], .lst [], .dk [], .int (10 ^ 39), .tup [.tup []], .tup [.int 0]]
theorem leafO (n k : Nat) : ThA (n + 2000) (k + 2) odds := by
  have c1 : ∀ d, cl d = true → wd d ≤ 2000 → dep d ≤ 2 → Th (n + 2000) (k + 2) d := fun d h1 h2 h3 => .clean h1 (by omega) (by omega)
  refine ⟨c1 _ rfl (by decide) (by decide), c1 _ rfl (by decide) (by decide), c1 _ rfl (by decide) (by decide), c1 _ (cl_int (by decide)) (by decide) (by decide), c1 _ (cl_int (by decide)) (by decide) (by decide), c1 _ (cl_int (by decide)) (by decide) (by decide), c1 _ (cl_int (by decide)) (by decide) (by decide), c1 _ (cl_int (by decide)) (by decide) (by decide), c1 _ (cl_str (by decide)) (by decide) (by decide), c1 _ (cl_str (by decide)) (by decide) (by decide), c1 _ rfl (by decide) (by decide),
    .lst (fun d z => by simp at z) (by show 0 + 3 ≤ _; omega) (by show 0 + 1 ≤ _; omega), ⟨rfl, by show 2 ≤ _; omega, by show 1 ≤ _; omega, .inr rfl⟩, c1 _ (cl_int (by decide +kernel)) (by decide) (by decide), c1 _ rfl (by decide) (by decide), c1 _ rfl (by decide) (by decide), True.intro⟩
section
variable {P : Program} {w : World} {K : PySem.W.Frag} {mg : Str → Option Value} {base : Heap} {f : Addr} {fd : FuncData}
abbrev BN4 : List Str := ["int", "isinstance", "list", "str", "tuple"]
variable (bi : ∀ x, x ∈ BN4 → mg x = none)
abbrev sp__law_leaf (K : PySem.W.Frag) : Sp := dsp K (fun es => ∃ d, es = [d] ∧ ptD d = true ∧ wd d ≤ 100000) (fun es e => ∃ d, es = [d] ∧ Th (12 * wd d + 2000) (dep d + 2) e)
/-- isinstance and a draw -/
theorem et_draw {K : PySem.W.Frag} {dk l : Addr} {G0 H0 : Hp} {ρ : Ro} {μ : Mu} {ta : TE} {b : Bool} {E : XK} {j : Nat} {m : Int} (hm : 1 ≤ m ∧ m ≤ 1000000) (h : Ed (Bd K dk l 64 G0 H0) ta ρ μ (.bl b)) (hj : ρ[j]? = some (some (.raw (.ref dk)))) :
    Et (Bd K dk l 64 G0 H0) (tAnd (tB ta) (tTest (tOp (rI0 fun i j => .bl (decide (j < i))) (tCall (sp__law_draw K) [] E (tCons (tVar j) (tCons (tC (.int m)) tNil))) (tC (.int 0))))) ρ μ (fun c => c = true → b = true) := by
  refine et_and (Pa := fun c => c = b) (eb_B h) (fun e => et_test (P := fun d => ∃ c, d = .bl c) (ev_op (P1 := isIntD) (P2 := fun d => d = .int 0) (ed_d hj (ead_cons ed_int ea_nil) ⟨_, rfl, hm.1, hm.2⟩ (by rintro e ⟨n, r, e1, rfl, _⟩; exact ⟨_, rfl⟩)) ed_int fun d1 d2 ⟨i, e1⟩ e2 => ?_) fun d ⟨c, e1⟩ => ⟨c, e1, fun _ => e.symm⟩) fun _ z => by cases z
  subst e1; subst e2
  exact fun τ σ H x y a Q q => rd_gt τ σ H x y a Q fun v H' d hd a' => q v H' d ⟨_, hd⟩ a'
theorem pt_isI : ∀ {d : D}, ptD d = true → isI d = true → ∃ i, d = .int i
  | .int i, _, _ => ⟨i, rfl⟩
  | .bl _, h, _ => by simp [ptD] at h
  | .str _, _, h => by simp [isI] at h
  | .tup _, _, h => by simp [isI] at h
  | .non, h, _ => by simp [ptD] at h
  | .raw _, h, _ => by simp [ptD] at h
  | .lst _, h, _ => by simp [ptD] at h
  | .dk _, h, _ => by simp [ptD] at h
  | .dt _, h, _ => by simp [ptD] at h
  | .obj _ _, h, _ => by simp [ptD] at h
theorem szL {n : Nat} (h : n ≤ 1000000) : n ≤ sizeLine := Nat.le_trans h (by decide)
theorem odds_ed {B : Bs} {ρ : Ro} {μ : Mu} : Ed B (tLst (tCons (tC .non) (tCons (tC (.bl true)) (tCons (tC (.bl false)) (tCons (tC (.int 0)) (tCons (tC (.int 1)) (tCons (tC (.int 2)) (tCons (tUn (rU fun i => .int (-i)) (tC (.int 1))) (tCons (tC (.int 9)) (tCons (tC (.str "")) (tCons (tC (.str "a")) (tCons (tTup tNil) (tCons (tLst tNil) (tCons tDNewK (tCons (tOp (rI CPow fun i j => .int (i ^ j.toNat)) (tC (.int 10)) (tC (.int 39)))
    (tCons (tTup (tCons (tTup tNil) tNil)) (tCons (tTup (tCons (tC (.int 0)) tNil)) tNil))))))))))))))))) ρ μ (.lst odds) :=
  ed_lst (ead_cons ed_non (ead_cons ed_bl (ead_cons ed_bl (ead_cons ed_int (ead_cons ed_int (ead_cons ed_int (ead_cons (ed_un ed_int ru_neg) (ead_cons ed_int (ead_cons ed_str (ead_cons ed_str (ead_cons (ed_tup ea_nil (by decide)) (ead_cons (ed_lst ea_nil (by decide)) (ead_cons ed_dnew (ead_cons (ed_op ed_int ed_int (rd_pow ⟨by decide, by decide, by decide⟩)) (ead_cons (ed_tup (ead_cons (ed_tup ea_nil (by decide)) ea_nil) (by decide)) (ead_cons (ed_tup (ead_cons ed_int ea_nil) (by decide)) ea_nil)))))))))))))))) (by decide)
include bi in
theorem ok__law_leaf (F : Fun K "_law_leaf" "_law_leaf" s__law_leaf f fd) (c__law_draw : C8.Cal P w K mg base 1 "_law_draw" (sp__law_draw K) []) (c__law_pick : C8.Cal P w K mg base 2 "_law_pick" (sp__law_pick K) []) : FnOk P w K mg base CX0 3 f fd ["deck", "thing"] (sp__law_leaf K) := by
  refine F.ok sc__law_leaf (fun vs H Q E h => ?_) (fun cdv A outer s H vs Q E hr h => ?_)
  · obtain ⟨dk, l, G, ds, h1, ⟨es, rfl, n, rfl, _⟩, _⟩ := h
    exact h1.length
  · have hu := hu_of hr
    obtain ⟨dk, l, G, es, ⟨d, rfl, hp, hw⟩, hlen, a, hq⟩ := dsp_start n__law_leaf h
    refine ⟨_, (pss_cons (ps_asg (pe_lst (pa_cons pe_non (pa_cons pe_bl (pa_cons pe_bl (pa_cons pe_int (pa_cons pe_int (pa_cons pe_int (pa_cons (pe_un u_neg pe_int) (pa_cons pe_int (pa_cons pe_str (pa_cons pe_str (pa_cons (pe_tup pa_nil) (pa_cons (pe_lst pa_nil) (pa_cons pe_dnewK (pa_cons (pe_op op_pow pe_int pe_int) (pa_cons (pe_tup (pa_cons (pe_tup pa_nil) pa_nil)) (pa_cons (pe_tup (pa_cons pe_int pa_nil)) pa_nil))))))))))))))))) (pg_name (i := 2) sc__law_leaf.nd rfl (by first | exact (.inl rfl) | exact (.inr rfl))))
      (pss_cons (ps_if (PW.pt (pw_and (pt_val (pe_callB (id := "isinstance") (r := rIsi K) call_isi (by rfl) (bi "isinstance" (by decide +kernel)) (by decide +kernel) (pa_cons (pv 1) (pa_cons (pe_bltn (v := .ty "tuple") (u := .type "tuple") (by rfl) (bi "tuple" (by decide +kernel)) (by decide +kernel) rfl) pa_nil)))) (pw_and1 (pt_cmpR op_gt (C8.pe_c c__law_draw hr (by first | decide | omega) (by rfl) (pa_cons (pv 0) (pa_cons pe_int pa_nil))) pe_int (nomark _))))) (pss_one (ps_ret (C8.pe_c c__law_pick hr (by first | decide | omega) (by rfl) (pa_cons (pv 0) (pa_cons (pe_lst (pa_cons (pe_callTy (T := "list") (r := rLstOf K) (u_list rfl) (by rfl) (bi "list" (by decide +kernel)) (by decide +kernel) (pa_cons (pv 1) pa_nil)) (pa_cons (pe_revT (pv 1)) (pa_cons (pe_slice (r := rSlU K) u_sl (pv 1) (po_some pe_int) po_none) (pa_cons (pe_op (r := rAddU K) u_add (pv 1) (pe_slice (r := rSlU K) u_sl (pv 1) (po_some (pe_un u_neg pe_int)) po_none)) (pa_cons (pe_op (r := rAddU K) u_add (pv 1) (pe_tup (pa_cons pe_int pa_nil))) (pa_cons (pe_slice (r := rSlU K) u_sl (pv 1) po_none (po_some (pe_un u_neg pe_int))) (pa_cons (pe_tup (pa_cons (pv 1) pa_nil)) (pa_cons (pe_op (r := rAddU K) u_add (pv 1) (pe_tup (pa_cons (pe_tup pa_nil) pa_nil))) pa_nil))))))))) pa_nil))))) pss_nil)
      (pss_cons (ps_if (PW.pt (pw_and (pt_val (pe_callB (id := "isinstance") (r := rIsi K) call_isi (by rfl) (bi "isinstance" (by decide +kernel)) (by decide +kernel) (pa_cons (pv 1) (pa_cons (pe_bltn (v := .ty "str") (u := .type "str") (by rfl) (bi "str" (by decide +kernel)) (by decide +kernel) rfl) pa_nil)))) (pw_and1 (pt_cmpR op_gt (C8.pe_c c__law_draw hr (by first | decide | omega) (by rfl) (pa_cons (pv 0) (pa_cons pe_int pa_nil))) pe_int (nomark _))))) (pss_one (ps_ret (C8.pe_c c__law_pick hr (by first | decide | omega) (by rfl) (pa_cons (pv 0) (pa_cons (pe_lst (pa_cons (pe_op (r := rAddU K) u_add (pv 1) pe_str) (pa_cons (pe_slice (r := rSlU K) u_sl (pv 1) po_none (po_some (pe_un u_neg pe_int))) (pa_cons (pe_upper (pv 1)) (pa_cons (pe_op (r := rAddU K) u_add (pv 1) pe_str) (pa_cons (pe_lst (pa_cons (pv 1) pa_nil)) (pa_cons (pe_op u_mul2 (pv 1) pe_int) (pa_cons pe_str (pa_cons pe_str pa_nil))))))))) pa_nil))))) pss_nil)
      (pss_cons (ps_if (PW.pt (pw_and (pt_val (pe_callB (id := "isinstance") (r := rIsi K) call_isi (by rfl) (bi "isinstance" (by decide +kernel)) (by decide +kernel) (pa_cons (pv 1) (pa_cons (pe_bltn (v := .ty "int") (u := .type "int") (by rfl) (bi "int" (by decide +kernel)) (by decide +kernel) rfl) pa_nil)))) (pw_and1 (pt_cmpR op_gt (C8.pe_c c__law_draw hr (by first | decide | omega) (by rfl) (pa_cons (pv 0) (pa_cons pe_int pa_nil))) pe_int (nomark _))))) (pss_one (ps_ret (C8.pe_c c__law_pick hr (by first | decide | omega) (by rfl) (pa_cons (pv 0) (pa_cons (pe_lst (pa_cons (pe_op (r := rAddU K) u_add (pv 1) pe_int) (pa_cons (pe_op op_sub (pv 1) pe_int) (pa_cons (pe_cmpR (r := rEqD K) (u_eq hr.units) (pv 1) pe_int (nomark _)) (pa_cons (pe_callTy (T := "str") call_str_int (by rfl) (bi "str" (by decide +kernel)) (by decide +kernel) (pa_cons (pv 1) pa_nil)) (pa_cons (pe_un u_neg (pv 1)) (pa_cons (pe_tup (pa_cons (pv 1) pa_nil)) (pa_cons (pe_cmpR (r := rEqD K) (u_eq hr.units) (pv 1) pe_int (nomark _)) pa_nil)))))))) pa_nil))))) pss_nil)
      (pss_one (ps_ret (C8.pe_c c__law_pick hr (by first | decide | omega) (by rfl) (pa_cons (pv 0) (pa_cons (pv 2) pa_nil))))))))), ?_⟩
    refine y_set a odds_ed fun σ1 H1 a1 => ?_
    refine y_if a1 (et_draw (m := 5) ⟨by decide, by decide⟩ (ed_isiT (ed_var rfl) (pt_ty hp)) rfl) (fun hb H2 a2 => ?_) fun _ H2 a2 => ?_
    · obtain ⟨ds, rfl⟩ := isT_eq (hb rfl)
      have hw' : wdA ds + 3 ≤ 100000 := hw
      have hl := wdA_len ds
      have hc : ∀ lo hi, (cutD ds lo hi).length ≤ ds.length := fun lo hi => (cutD_sub ds lo hi).length_le
      refine x_ret a2 (ed_d (P := Th (12 * wd (.tup ds) + 2000) (dep (.tup ds) + 2)) rfl (ead_cons (ed_lst (ead_cons (ed_lstT (ed_var rfl)) (ead_cons (ed_rev (ed_var rfl)) (ead_cons (ed_slT (ed_var rfl) (eo_some ed_int) eo_none) (ead_cons (ed_op (ed_var rfl) (ed_slT (ed_var rfl) (eo_some (ed_un ed_int ru_neg)) eo_none) (rd_addT (szL (by have := hc (some (-1)) none; omega)))) (ead_cons (ed_op (ed_var rfl) (ed_tup (ead_cons ed_int ea_nil) (by decide)) (rd_addT (szL (by show ds.length + 1 ≤ _; omega)))) (ead_cons (ed_slT (ed_var rfl) eo_none (eo_some (ed_un ed_int ru_neg))) (ead_cons (ed_tup (ead_cons (ed_var rfl) ea_nil) (by show 1 ≤ _; decide))
        (ead_cons (ed_op (ed_var rfl) (ed_tup (ead_cons (ed_tup ea_nil (by decide)) ea_nil) (by decide)) (rd_addT (szL (by show ds.length + 1 ≤ _; omega)))) ea_nil)))))))) (by show 8 ≤ _; decide)) ea_nil) ⟨_, rfl, by simp, by show 8 ≤ _; decide⟩ (by rintro e ⟨ds', e1, hm⟩; cases e1; exact (leafT hp).mem e hm)) fun v H' e he a' => hq ⟨_, rfl, he⟩ a'
    · refine y_if a2 (et_draw (m := 5) ⟨by decide, by decide⟩ (ed_isiS (ed_var rfl) (pt_ty hp)) rfl) (fun hb H3 a3 => ?_) fun _ H3 a3 => ?_
      · obtain ⟨s, rfl⟩ := isS_eq (hb rfl)
        have hl := (pt_str hp).1
        refine x_ret a3 (ed_d (P := Th (12 * wd (.str s) + 2000) (dep (.str s) + 2)) rfl (ead_cons (ed_lst (ead_cons (ed_op (ed_var rfl) ed_str (rd_addS (szL (by show s.length + 1 ≤ _; omega)))) (ead_cons (ed_slS (ed_var rfl) eo_none (eo_some (ed_un ed_int ru_neg)) (szL (by omega))) (ead_cons (ed_upper (ed_var rfl) (by omega)) (ead_cons (ed_op (ed_var rfl) ed_str (rd_addS (szL (by show s.length + 1 ≤ _; omega)))) (ead_cons (ed_lst (ead_cons (ed_var rfl) ea_nil) (by show 1 ≤ _; decide)) (ead_cons (ed_op (ed_var rfl) ed_int (rd_mulS2 (mul_ok hl))) (ead_cons ed_str (ead_cons ed_str ea_nil)))))))) (by show 8 ≤ _; decide)) ea_nil) ⟨_, rfl, by simp, by show 8 ≤ _; decide⟩ (by rintro e ⟨ds', e1, hm⟩; cases e1; exact (leafS hp).mem e hm)) fun v H' e he a' => hq ⟨_, rfl, he⟩ a'
      · refine y_if a3 (et_draw (m := 5) ⟨by decide, by decide⟩ (ed_isiI (ed_var rfl) (pt_ty hp)) rfl) (fun hb H4 a4 => ?_) fun _ H4 a4 => ?_
        · obtain ⟨i, rfl⟩ := pt_isI hp (hb rfl)
          have hi := pt_int hp
          refine x_ret a4 (ed_d (P := Th (12 * wd (.int i) + 2000) (dep (.int i) + 2)) rfl (ead_cons (ed_lst (ead_cons (ed_op (ed_var rfl) ed_int rd_addI) (ead_cons (ed_op (ed_var rfl) ed_int rd_sub) (ead_cons (ed_op (ed_var rfl) ed_int rd_eqI) (ead_cons (ed_cb (ead_cons (ed_var rfl) ea_nil) (rc_strI (by omega))) (ead_cons (ed_un (ed_var rfl) ru_neg) (ead_cons (ed_tup (ead_cons (ed_var rfl) ea_nil) (by show 1 ≤ _; decide)) (ead_cons (ed_op (ed_var rfl) ed_int rd_eqI) ea_nil))))))) (by show 7 ≤ _; decide)) ea_nil) ⟨_, rfl, by simp, by show 7 ≤ _; decide⟩ (by rintro e ⟨ds', e1, hm⟩; cases e1; exact (leafI hp).mem e hm)) fun v H' e he a' => hq ⟨_, rfl, he⟩ a'
        · refine x_ret a4 (ed_d (P := Th (12 * wd d + 2000) (dep d + 2)) rfl (ead_cons (ed_var rfl) ea_nil) ⟨_, rfl, by unfold odds; simp, by show 16 ≤ _; decide⟩ (by rintro e ⟨ds', e1, hm⟩; cases e1; exact (leafO _ _).mem e hm)) fun v H' e he a' => hq ⟨_, rfl, he⟩ a'
end
end Cal


namespace Cal
open PySem PySem.Spec PyProof.Rows L2
theorem split_at {ds : List D} {i : Nat} (h : i < ds.length) : ds = ds.take i ++ [ds.getD i .non] ++ ds.drop (i + 1) := by
  have e := List.getElem_cons_drop h
  have e2 : ds.getD i .non = ds[i] := by rw [List.getD_eq_getElem?_getD, List.getElem?_eq_getElem h]; rfl
  rw [e2, List.append_assoc, List.singleton_append, e, List.take_append_drop]
theorem put_th {ds : List D} {i m : Nat} {j : Nat} {e : D} {n k : Nat} (h : i < ds.length) (hc : ∀ d ∈ ds, cl d = true) (he : Th m j e) (hw : wdA ds + m ≤ n + wd (ds.getD i .non)) (hn : 3 + wdA ds + m ≤ n + wd (ds.getD i .non)) (hk : max (depA ds) j + 1 ≤ k) : Th n k (.tup (ds.take i ++ [e] ++ ds.drop (i + 1))) := by
  have hs := split_at h
  have h1 : wdA ds = wdA (ds.take i) + (wd (ds.getD i .non) + 2) + wdA (ds.drop (i + 1)) := by
    conv => lhs; rw [hs]
    rw [wdA_app, wdA_app]
    show wdA (ds.take i) + (wd (ds.getD i .non) + 2 + 0) + wdA (ds.drop (i + 1)) = _
    omega
  have h2 := depA_sub (as := ds.take i) (bs := ds) fun d z => (List.take_sublist i ds).subset z
  have h3 := depA_sub (as := ds.drop (i + 1)) (bs := ds) fun d z => (List.drop_sublist (i + 1) ds).subset z
  exact .put (fun d z => hc d ((List.take_sublist i ds).subset z)) (fun d z => hc d ((List.drop_sublist (i + 1) ds).subset z)) he (by omega) (by omega)
section
variable {P : Program} {w : World} {K : PySem.W.Frag} {mg : Str → Option Value} {base : Heap} {f : Addr} {fd : FuncData}
abbrev BN5 : List Str := ["isinstance", "len", "tuple"]
variable (bi : ∀ x, x ∈ BN5 → mg x = none)
abbrev sp__law_bent (n : Nat) (K : PySem.W.Frag) : Sp := dsp K (fun es => ∃ (d : D) (k : Int), es = [d, .int k] ∧ ptD d = true ∧ wd d ≤ 100000 ∧ dep d ≤ 60 ∧ dep d < n) (fun es e => ∃ (d : D) (k : Int), es = [d, .int k] ∧ Th (12 * wd d + 2000) (dep d + 2) e)
include bi in
theorem bent_step {n : Nat} (F : Fun K "_law_bent" "_law_bent" s__law_bent f fd) (c__law_draw : C8.Cal P w K mg base 1 "_law_draw" (sp__law_draw K) []) (c__law_leaf : C8.Cal P w K mg base 3 "_law_leaf" (sp__law_leaf K) []) (c__law_bent : C8.Cal P w K mg base (4 + n) "_law_bent" (sp__law_bent n K) []) :
    FnOk P w K mg base CX0 (4 + (n + 1)) f fd ["deck", "thing", "deep"] (sp__law_bent (n + 1) K) := by
  refine F.ok sc__law_bent (fun vs H Q E h => ?_) (fun cdv A outer s H vs Q E hr h => ?_)
  · obtain ⟨dk, l, G, ds, h1, ⟨es, rfl, d, k, rfl, _⟩, _⟩ := h
    exact h1.length
  · have hr : Room (4 + n) _ := hr
    have hu := hu_of hr
    obtain ⟨dk, l, G, es, ⟨d, k, rfl, hp, hw, hd6, hd⟩, hlen, a, hq⟩ := dsp_start n__law_bent h
    refine ⟨_, (pss_cons (ps_if (PW.pt (pw_and (pt_val (pe_callB (id := "isinstance") (r := rIsi K) call_isi (by rfl) (bi "isinstance" (by decide +kernel)) (by decide +kernel) (pa_cons (pv 1) (pa_cons (pe_bltn (v := .ty "tuple") (u := .type "tuple") (by rfl) (bi "tuple" (by decide +kernel)) (by decide +kernel) rfl) pa_nil)))) (pw_and (pt_cmpR (r := rNeD K) (u_ne hr.units) (pv 1) (pe_tup pa_nil) (nomark _)) (pw_and1 (PW.pt (pw_or (pt_cmpR op_gt (pv 2) pe_int (nomark _)) (pw_or1 (pt_cmpR op_gt (C8.pe_c c__law_draw hr (by first | decide | omega) (by rfl) (pa_cons (pv 0) (pa_cons pe_int pa_nil))) pe_int (nomark _))))))))) (pss_cons (ps_asg (C8.pe_c c__law_draw hr (by first | decide | omega) (by rfl) (pa_cons (pv 0) (pa_cons (pe_callB (id := "len") (r := rLenU K) u_len (by rfl) (bi "len" (by decide +kernel)) (by decide +kernel) (pa_cons (pv 1) pa_nil)) pa_nil))) (pg_name (i := 3) sc__law_bent.nd rfl (by first | exact (.inl rfl) | exact (.inr rfl))))
      (pss_one (ps_ret (pe_op (r := rAddU K) u_add (pe_op (r := rAddU K) u_add (pe_slice (r := rSlU K) u_sl (pv 1) po_none (po_some (pv 3))) (pe_tup (pa_cons (C8.pe_c c__law_bent hr (by first | decide | omega) (by rfl) (pa_cons (pv 0) (pa_cons (pe_ix (r := rIx K) ix_seq (pv 1) (pv 3) (fun _ _ => rfl)) (pa_cons (pe_op op_sub (pv 2) pe_int) pa_nil)))) pa_nil))) (pe_slice (r := rSlU K) u_sl (pv 1) (po_some (pe_op (r := rAddU K) u_add (pv 3) pe_int)) po_none))))) pss_nil)
      (pss_one (ps_ret (C8.pe_c c__law_leaf hr (by first | decide | omega) (by rfl) (pa_cons (pv 0) (pa_cons (pv 1) pa_nil)))))), ?_⟩
    refine y_if (Pb := fun c => c = true → isT d = true ∧ eqD d (.tup []) = false) a (et_and (Pa := fun c => c = isT d) (eb_B (ed_isiT (ed_var rfl) (pt_ty hp))) (fun e1 => et_and (Pa := fun c => c = !eqD d (.tup [])) (eb_test (ed_op (ed_var rfl) (ed_tup ea_nil (by decide)) (rd_neD (pt_plain d hp) rfl (by omega) (by decide)))) (fun e2 => et_or (Pa := fun _ => True) (et_test (P := fun d => ∃ b, d = .bl b) (Ed.ev (ed_op (ed_var rfl) ed_int rd_gt) ⟨_, rfl⟩) fun d ⟨b, e⟩ => ⟨b, e, True.intro⟩)
      (fun _ => et_test (P := fun d => ∃ c, d = .bl c) (ev_op (P1 := isIntD) (P2 := fun d => d = .int 0) (ed_d rfl (ead_cons ed_int ea_nil) ⟨_, rfl, by decide, by decide⟩ (by rintro e ⟨n, r, e1, rfl, _⟩; exact ⟨_, rfl⟩)) ed_int fun d1 d2 ⟨i, e1⟩ e2 => by
        subst e1; subst e2
        exact fun τ σ H x y a Q q => rd_gt τ σ H x y a Q fun v H' d hd a' => q v H' d ⟨_, hd⟩ a') fun d ⟨c, e⟩ => ⟨c, e, fun _ => ⟨e1.symm, by simpa using e2.symm⟩⟩) fun _ _ => ⟨e1.symm, by simpa using e2.symm⟩) fun _ z => by cases z) fun _ z => by cases z) (fun hb H1 a1 => ?_) fun _ H1 a1 => ?_
    · obtain ⟨h1, h2⟩ := hb rfl
      obtain ⟨ds, rfl⟩ := isT_eq h1
      have hc : ∀ d ∈ ds, cl d = true := cl_tup.mp (pt_cl hp)
      have hp' : ptA ds = true := by simpa only [ptD] using hp
      have hw' : wdA ds + 3 ≤ 100000 := hw
      have hd' : depA ds + 1 < n + 1 := hd
      have hd7 : depA ds + 1 ≤ 60 := hd6
      have hl := wdA_len ds
      have hne : ds ≠ [] := fun e => by rw [e] at h2; revert h2; decide
      have hpos : 0 < ds.length := List.length_pos_iff.mpr hne
      refine y_setV (P := fun e => ∃ r : Int, e = .int r ∧ 0 ≤ r ∧ r < ds.length) a1 (ed_d rfl (ead_cons (ed_lenT (ed_var rfl)) ea_nil) ⟨_, rfl, by omega, by omega⟩ (by rintro e ⟨n, r, e1, rfl, g1, g2⟩; cases e1; exact ⟨r, rfl, g1, g2⟩)) fun d2 σ2 H2 he2 a2 => ?_
      obtain ⟨r, rfl, r1, r2⟩ := he2
      have hr' : r.toNat < ds.length := by omega
      have hm : ds.getD r.toNat .non ∈ ds := List.mem_of_getElem? (getD_of hr')
      have hmw := wdA_mem hm
      have hmd := depA_mem hm
      have hdl : (ds.drop (r.toNat + 1)).length ≤ ds.length := (List.drop_sublist _ _).length_le
      have htl : (ds.take r.toNat).length ≤ ds.length := (List.take_sublist _ _).length_le
      refine x_ret a2 (ev_op (P := Th (12 * wd (.tup ds) + 2000) (dep (.tup ds) + 2)) (P1 := fun e => ∃ b, e = .tup (ds.take r.toNat ++ [b]) ∧ Th (12 * wd (ds.getD r.toNat .non) + 2000) (dep (ds.getD r.toNat .non) + 2) b) (P2 := fun e => e = .tup (ds.drop (r.toNat + 1))) (ev_op (P1 := fun e => e = .tup (ds.take r.toNat)) (P2 := fun e => ∃ b, e = .tup [b] ∧ Th (12 * wd (ds.getD r.toNat .non) + 2000) (dep (ds.getD r.toNat .non) + 2) b)
        (Ed.is (ed_slT (ed_var rfl) eo_none (eo_some (ed_var rfl))) (by rw [cutD_take ds r1])) (ev_tup (ea1P (ed_d (P := Th (12 * wd (ds.getD r.toNat .non) + 2000) (dep (ds.getD r.toNat .non) + 2)) rfl (ead_cons (ed_op (ed_var rfl) (ed_var rfl) (rd_ixT (atI_of r1 (getD_of hr')))) (ead_cons (ed_op (ed_var rfl) ed_int rd_sub) ea_nil)) ⟨_, _, rfl, ptA_mem hp' _ hm, by omega, by omega, by omega⟩ (by rintro e ⟨d', k', e1, ht⟩; cases e1; exact ht))) fun ds ⟨b, e, hb⟩ => ⟨by rw [e]; show 1 ≤ sizeLine; decide, b, by rw [e], hb⟩) fun d1 d2 e1 ⟨b, e2, hb⟩ => ?_)
        (Ed.is (ed_slT (ed_var rfl) (eo_some (ed_op (ed_var rfl) ed_int rd_addI)) eo_none) (by rw [cutD_drop ds (by omega), show (r + 1).toNat = r.toNat + 1 by omega])) fun d1 d2 ⟨b, e1, hb⟩ e2 => ?_) fun v H' d hd a' => hq ⟨_, _, rfl, hd⟩ a'
      · rw [e1, e2]
        exact (rd_addT (szL (by show (ds.take r.toNat).length + 1 ≤ _; omega))).imp fun e he => ⟨b, he, hb⟩
      · rw [e1, e2]
        refine (rd_addT (szL (by rw [List.length_append]; show (ds.take r.toNat).length + 1 + _ ≤ _; omega))).imp fun e he => ?_
        rw [he]
        have e1 : wd (.tup ds) = wdA ds + 3 := rfl
        have e2 : dep (.tup ds) = depA ds + 1 := rfl
        exact put_th hr' hc hb (by omega) (by omega) (by omega)
    · exact x_ret a1 (ed_d (P := Th (12 * wd d + 2000) (dep d + 2)) rfl (ead_cons (ed_var rfl) ea_nil) ⟨_, rfl, hp, hw⟩ (by rintro e ⟨d', e1, h⟩; cases e1; exact h)) fun v H' e he a' => hq ⟨_, _, rfl, he⟩ a'
theorem ok__law_bent (bi : ∀ x, x ∈ BN5 → mg x = none) (F : Fun K "_law_bent" "_law_bent" s__law_bent f fd) (hm : mg "_law_bent" = some (.ref f)) (hb : Binds K fd ["deck", "thing", "deep"] []) (c__law_draw : C8.Cal P w K mg base 1 "_law_draw" (sp__law_draw K) []) (c__law_leaf : C8.Cal P w K mg base 3 "_law_leaf" (sp__law_leaf K) []) : ∀ n, FnOk P w K mg base CX0 (4 + n) f fd ["deck", "thing", "deep"] (sp__law_bent n K)
  | 0 => ⟨fun vs H Q E h => (by obtain ⟨dk, l, G, ds, h1, ⟨es, rfl, d, k, rfl, _, _, _, z⟩, _⟩ := h; exact absurd z (Nat.not_lt_zero _)), fun A outer s H args us vs Q E hr e0 hb hv h => (by obtain ⟨dk, l, G, ds, h1, ⟨es, rfl, d, k, rfl, _, _, _, z⟩, _⟩ := h; exact absurd z (Nat.not_lt_zero _))⟩
  | n + 1 => bent_step bi F c__law_draw c__law_leaf ⟨f, fd, _, [], ok__law_bent bi F hm hb c__law_draw c__law_leaf n, hm, F.kp, hb, .nil⟩
end
end Cal


namespace Cal
open PySem PySem.Spec PyProof.Rows L2
abbrev s__law_any_counts : Stmt := topS 54
abbrev n__law_any_counts : List Str := ["deck", "plan", "place", "most", "edge"]
theorem sc__law_any_counts : FnScope n__law_any_counts ["deck", "plan", "place", "most"] (defScope s__law_any_counts) := ⟨rfl, rfl, rfl, by decide +kernel, rfl, by decide +kernel, by decide +kernel⟩
abbrev s__law_near_counts : Stmt := topS 58
abbrev n__law_near_counts : List Str := ["deck", "counts", "some"]
theorem sc__law_near_counts : FnScope n__law_near_counts ["deck", "counts"] (defScope s__law_near_counts) := ⟨rfl, rfl, rfl, by decide +kernel, rfl, by decide +kernel, by decide +kernel⟩
/-- a value that may be shown: lists and dicts are allowed -/
structure Tk (n k : Nat) (d : D) : Prop where
  ok : okD d = true
  w : wd d ≤ n
  dp : dep d ≤ k
theorem Tk.mono {n k n' k' : Nat} {d : D} (h : Tk n k d) (a : n ≤ n') (b : k ≤ k') : Tk n' k' d := ⟨h.ok, Nat.le_trans h.w a, Nat.le_trans h.dp b⟩
theorem Tk.th {n k : Nat} {d : D} (h : Th n k d) : Tk n k d := ⟨h.ok, h.w, h.dp⟩
/-- flat small values -/
def Fl (d : D) : Prop := okD d = true ∧ wd d ≤ 210 ∧ dep d = 0
def FlA (ds : List D) : Prop := ∀ d ∈ ds, Fl d
theorem FlA.app {as bs : List D} (h : FlA as) (k : FlA bs) : FlA (as ++ bs) := fun d hd => (List.mem_append.mp hd).elim (h d) (k d)
theorem FlA.cut {as : List D} (h : FlA as) (lo hi : Option Int) : FlA (cutD as lo hi) := fun d hd => h d ((cutD_sub as lo hi).subset hd)
theorem FlA.rev {as : List D} (h : FlA as) : FlA as.reverse := fun d hd => h d (List.mem_reverse.mp hd)
theorem FlA.one {d : D} (h : Fl d) : FlA [d] := fun e he => by rw [List.mem_singleton.mp he]; exact h
theorem fl_int {i : Int} (h : i.natAbs < 1000) : Fl (.int i) := ⟨(cl_iff.mp (cl_int (Nat.lt_of_lt_of_le h (by decide)))).1, by show 210 ≤ 210; decide, rfl⟩
theorem fl_bl (b : Bool) : Fl (.bl b) := by cases b <;> exact ⟨rfl, by decide, rfl⟩
theorem tkA_fl {ds : List D} (h : FlA ds) (hl : ds.length ≤ 60) : okA ds = true ∧ wdA ds ≤ 12720 ∧ depA ds = 0 := by
  have h1 := wdA_le (ds := ds) fun d hd => (h d hd).2.1
  have h2 : depA ds ≤ 0 := depA_le fun d hd => Nat.le_of_eq (h d hd).2.2
  exact ⟨okA_all fun d hd => (h d hd).1, by omega, by omega⟩
theorem tk_fl {ds : List D} (h : FlA ds) (hl : ds.length ≤ 60) : Tk 20000 10 (.tup ds) := by
  obtain ⟨h1, h2, h3⟩ := tkA_fl h hl
  exact ⟨h1, by show wdA ds + 3 ≤ _; omega, by show depA ds + 1 ≤ _; omega⟩
theorem tk_flL {ds : List D} (h : FlA ds) (hl : ds.length ≤ 60) : Tk 20000 10 (.lst ds) := by
  obtain ⟨h1, h2, h3⟩ := tkA_fl h hl
  exact ⟨h1, by show wdA ds + 3 ≤ _; omega, by show depA ds + 1 ≤ _; omega⟩
theorem tk_fl1 {ds : List D} (h : FlA ds) (hl : ds.length ≤ 60) : Tk 20000 10 (.tup [.tup ds]) := by
  obtain ⟨h1, h2, h3⟩ := tkA_fl h hl
  exact ⟨by show (okA ds && true) = true; rw [h1]; rfl, by show (wdA ds + 3) + 2 + 0 + 3 ≤ _; omega, by show max (depA ds + 1) 0 + 1 ≤ _; omega⟩
theorem tk_flD {ds : List D} (h : FlA ds) (hl : ds.length ≤ 60) : Tk 20000 10 (.dk [(.inl 0, .tup ds)]) := by
  obtain ⟨h1, h2, h3⟩ := tkA_fl h hl
  refine ⟨?_, by show (210 + (wdA ds + 3) + 4 + 0) + 2 ≤ _; omega, by show max (depA ds + 1) 0 + 1 ≤ _; omega⟩
  show (okKey (.inl 0) && okA ds && true) = true
  rw [h1, show okKey (.inl 0) = true by decide +kernel]; rfl
/-- counts that are drawn -/
def CntOk (v : List Int) : Prop := v.length ≤ 49 ∧ ∀ x ∈ v, 0 ≤ x ∧ x < 1000
theorem CntOk.fl {v : List Int} (h : CntOk v) : FlA (v.map .int) := fun d hd => by
  obtain ⟨i, hi, rfl⟩ := List.mem_map.mp hd
  have := h.2 i hi
  exact fl_int (by omega)
section
variable {P : Program} {w : World} {K : PySem.W.Frag} {mg : Str → Option Value} {base : Heap} {f : Addr} {fd : FuncData}
abbrev BNN21 : List Str := ["dict", "len", "list", "tuple"]
variable (bi : ∀ x, x ∈ BNN21 → mg x = none)
abbrev sp__law_any_counts (K : PySem.W.Frag) : Sp := dsp K (fun es => ∃ (rows : RowsT) (p : Nat) (m : Int), es = [planD rows, .int p, .int m] ∧ p < rows.length ∧ nEdges rows p ≤ 49 ∧ 0 ≤ m ∧ m < 900) (fun es e => ∃ (rows : RowsT) (p : Nat) (m : Int), es = [planD rows, .int p, .int m] ∧ ∃ v : List Int, e = tI v ∧ v.length = nEdges rows p ∧ CntOk v)
include bi in
theorem ok__law_any_counts (F : Fun K "_law_any_counts" "_law_any_counts" s__law_any_counts f fd) (c__law_draw : C8.Cal P w K mg base 1 "_law_draw" (sp__law_draw K) []) : FnOk P w K mg base CX0 2 f fd ["deck", "plan", "place", "most"] (sp__law_any_counts K) := by
  refine F.ok sc__law_any_counts (fun vs H Q E h => ?_) (fun cdv A outer s H vs Q E hr h => ?_)
  · obtain ⟨dk, l, G, ds, h1, ⟨es, rfl, rows, p, m, rfl, _⟩, _⟩ := h
    exact h1.length
  · have hu := hu_of hr
    obtain ⟨dk, l, G, es, ⟨rows, p, m, rfl, hp, hn, hm0, hm1⟩, hlen, a, hq⟩ := dsp_start n__law_any_counts h
    refine ⟨_, (pss_one (ps_ret (pe_callTy (T := "tuple") (r := rTupOf K) u_tuple (by rfl) (bi "tuple" (by decide +kernel)) (by decide +kernel) (pa_cons (pe_lc (own := [("edge", 4)]) (g := gName 4) (tt := tYes) rfl sc__law_any_counts.nd (pi_tup (pe_ix (r := rIx K) ix_seq (pv 1) (pv 2) (fun _ _ => rfl))) (blkOk_by (N := n__law_any_counts) (sc := defScope s__law_any_counts) (by decide +kernel)) (fun _ _ _ _ _ => (pg_name (i := 4) sc__law_any_counts.nd rfl (by first | exact (.inl rfl) | exact (.inr rfl)))) (fun _ _ _ _ _ => pts_nil) (fun _ _ _ _ _ => (C8.pe_c c__law_draw hr (by first | decide | omega) (by rfl) (pa_cons (pv 0) (pa_cons (pe_op (r := rAddU K) u_add (pv 3) pe_int) pa_nil))))) pa_nil)))), ?_⟩
    have ln : ((rows.getD p []).map pD).length = nEdges rows p := by rw [List.length_map]; rfl
    refine x_ret a (P := fun e => ∃ v : List Int, e = tI v ∧ v.length = nEdges rows p ∧ CntOk v) (ev_cb (ea1P (P := fun d => ∃ v : List Int, d = .lst (v.map .int) ∧ v.length = nEdges rows p ∧ CntOk v) (ev_lc0 (n := ((rows.getD p []).map pD).length) (ei_tup (ed_op (d1 := planD rows) (d2 := .int (p : Nat)) (ed_var rfl) (ed_var rfl) (rd_ixT (atI_of2 (by omega) (by rw [show ((p : Int)).toNat = p by omega, List.getElem?_map, getD_at (z := []) hp]; rfl))))) (by decide) (by omega) (fun _ d => ∃ x : Int, d = .int x ∧ 0 ≤ x ∧ x < 1000) (fun i hi cl => ed_d rfl (ead_cons (ed_op (ed_var rfl) ed_int rd_addI) ea_nil) ⟨_, rfl, by omega, by omega⟩ (by rintro e ⟨n, r, e1, rfl, h1, h2⟩; cases e1; exact ⟨r, rfl, h1, by omega⟩)) fun ds hl hd => ?_)) fun ds ⟨d, e1, v, e2, h1, h2⟩ => ?_) fun v' H' e he a' => hq ⟨rows, p, m, rfl, he⟩ a'
    · obtain ⟨as, e1, e2, e3⟩ := ge_all (P := fun _ => True) (f := D.int) hl hd
      exact ⟨as, by rw [e1], by rw [e2, ln], by omega, e3⟩
    · rw [e1, e2]
      exact rc_tupL.imp fun d hd => ⟨v, hd, h1, h2⟩
abbrev sp__law_near_counts (K : PySem.W.Frag) : Sp := dsp K (fun es => ∃ v : List Int, es = [tI v] ∧ CntOk v) (fun es e => Tk 20000 10 e)
include bi in
theorem ok__law_near_counts (F : Fun K "_law_near_counts" "_law_near_counts" s__law_near_counts f fd) (c__law_pick : C8.Cal P w K mg base 2 "_law_pick" (sp__law_pick K) []) : FnOk P w K mg base CX0 3 f fd ["deck", "counts"] (sp__law_near_counts K) := by
  refine F.ok sc__law_near_counts (fun vs H Q E h => ?_) (fun cdv A outer s H vs Q E hr h => ?_)
  · obtain ⟨dk, l, G, ds, h1, ⟨es, rfl, v, rfl, _⟩, _⟩ := h
    exact h1.length
  · have hu := hu_of hr
    obtain ⟨dk, l, G, es, ⟨v, rfl, hv⟩, hlen, a, hq⟩ := dsp_start n__law_near_counts h
    refine ⟨_, (pss_cons (ps_asg (pe_lst (pa_cons (pe_op (r := rAddU K) u_add (pv 1) (pe_tup (pa_cons pe_int pa_nil))) (pa_cons (pe_slice (r := rSlU K) u_sl (pv 1) po_none (po_some (pe_un u_neg pe_int))) (pa_cons (pe_callTy (T := "list") (r := rLstOf K) (u_list rfl) (by rfl) (bi "list" (by decide +kernel)) (by decide +kernel) (pa_cons (pv 1) pa_nil)) (pa_cons (pe_op (r := rAddU K) u_add (pe_slice (r := rSlU K) u_sl (pv 1) po_none (po_some (pe_un u_neg pe_int))) (pe_tup (pa_cons (pe_un u_neg pe_int) pa_nil))) (pa_cons (pe_op (r := rAddU K) u_add (pe_slice (r := rSlU K) u_sl (pv 1) po_none (po_some (pe_un u_neg pe_int))) (pe_tup (pa_cons pe_bl pa_nil))) (pa_cons (pe_op (r := rRepN K) op_repN (pe_tup (pa_cons pe_bl pa_nil)) (pe_callB (id := "len") (r := rLenU K) u_len (by rfl) (bi "len" (by decide +kernel)) (by decide +kernel) (pa_cons (pv 1) pa_nil))) (pa_cons pe_non (pa_cons (pe_tup pa_nil) (pa_cons pe_int pa_nil)))))))))) (pg_name (i := 2) sc__law_near_counts.nd rfl (by first | exact (.inl rfl) | exact (.inr rfl))))
      (pss_one (ps_ret (C8.pe_c c__law_pick hr (by first | decide | omega) (by rfl) (pa_cons (pv 0) (pa_cons (pe_op (r := rAddU K) u_add (pv 2) (pe_lst (pa_cons (pe_op (r := rAddU K) u_add (pe_slice (r := rSlU K) u_sl (pv 1) po_none (po_some (pe_un u_neg pe_int))) (pe_tup (pa_cons (pe_op op_pow pe_int pe_int) pa_nil))) (pa_cons (pe_tup (pa_cons (pv 1) pa_nil)) (pa_cons (pe_op (r := rAddU K) u_add (pe_slice (r := rSlU K) u_sl (pv 1) po_none (po_some (pe_un u_neg pe_int))) (pe_tup (pa_cons pe_str pa_nil))) (pa_cons (pe_revT (pv 1)) (pa_cons (pe_callTy (T := "dict") (call_dictP rfl) (by rfl) (bi "dict" (by decide +kernel)) (by decide +kernel) (pa_cons (pe_lst (pa_cons (pe_tup (pa_cons pe_int (pa_cons (pv 1) pa_nil))) pa_nil)) pa_nil)) pa_nil))))))) pa_nil)))))), ?_⟩
    have hfl := hv.fl
    have rl : (v.map D.int).length ≤ 49 := by rw [List.length_map]; exact hv.1
    have rl0 : (v.map D.int).length = v.length := List.length_map ..
    generalize hr' : v.map D.int = r at hfl rl rl0
    have e0 : tI v = .tup r := by rw [← hr']
    rw [e0] at a
    have cl : ∀ lo hi, (cutD r lo hi).length ≤ 49 := fun lo hi => Nat.le_trans (cutD_sub r lo hi).length_le rl
    have c1 := cl none (some (-1))
    have R : ∀ {ρ : Ro} {μ : Mu}, ρ[1]? = some (some (.tup r)) → Ed (Bd K dk l 64 G H) (tVar 1) ρ μ (.tup r) := fun h => ed_var h
    have C : ∀ {ρ : Ro} {μ : Mu}, ρ[1]? = some (some (.tup r)) → Ed (Bd K dk l 64 G H) (tSl (rSlU K) (tVar 1) tNoPart (tPart (tUn (rU fun i => .int (-i)) (tC (.int 1))))) ρ μ (.tup (cutD r none (some (-1)))) := fun h => ed_slT (ed_var h) eo_none (eo_some (ed_un ed_int ru_neg))
    have sz : ∀ {n : Nat}, n ≤ 1000 → n ≤ sizeLine := fun h => Nat.le_trans h (by decide)
    have one : ∀ {ρ : Ro} {μ : Mu} {te : TE} {x : D}, ρ[1]? = some (some (.tup r)) → Ed (Bd K dk l 64 G H) te ρ μ x → Fl x → Ev (Bd K dk l 64 G H) (tOp (rAddU K) (tSl (rSlU K) (tVar 1) tNoPart (tPart (tUn (rU fun i => .int (-i)) (tC (.int 1))))) (tTup (tCons te tNil))) ρ μ (Tk 20000 10) := fun {ρ μ te x} h hx hf => Ed.ev (ed_op (d1 := .tup (cutD r none (some (-1)))) (d2 := .tup [x]) (C h) (ed_tup (ead_cons hx ea_nil) (by show 1 ≤ _; decide)) (rd_addT (sz (by show _ + 1 ≤ _; omega)))) (tk_fl ((hfl.cut _ _).app (.one hf)) (by rw [List.length_append]; show _ + 1 ≤ _; omega))
    refine y_setV (P := fun d => ∃ ds, d = .lst ds ∧ (∀ d ∈ ds, Tk 20000 10 d) ∧ ds.length = 9) a (ev_lst (Ps := fun ds => (∀ d ∈ ds, Tk 20000 10 d) ∧ ds.length = 9) (ea_consQ (Ed.ev (ed_op (d1 := .tup r) (d2 := .tup [.int 0]) (R rfl) (ed_tup (ead_cons ed_int ea_nil) (by show 1 ≤ _; decide)) (rd_addT (sz (by show _ + 1 ≤ _; omega)))) (tk_fl (hfl.app (.one (fl_int (by decide)))) (by rw [List.length_append]; show _ + 1 ≤ _; omega)))
      (ea_consQ (Ed.ev (C rfl) (tk_fl (hfl.cut _ _) (by omega)))
      (ea_consQ (Ed.ev (ed_lstT (R rfl)) (tk_flL hfl (by omega)))
      (ea_consQ (one rfl (ed_un ed_int ru_neg) (fl_int (by decide)))
      (ea_consQ (one rfl ed_bl (fl_bl true))
      (ea_consQ (Ed.ev (ed_op (d1 := .tup [.bl false]) (d2 := .int (r.length : Nat)) (ed_tup (ead_cons ed_bl ea_nil) (by show 1 ≤ _; decide)) (ed_lenT (R rfl)) (rd_repN (by simp) ⟨by omega, by omega⟩ (by show 1 ≤ _; decide))) (tk_fl (fun d hd => by
          obtain ⟨x, hx, hd⟩ := List.mem_flatten.mp hd
          rw [(List.mem_replicate.mp hx).2] at hd
          rw [List.mem_singleton.mp hd]; exact fl_bl false) (by rw [List.length_flatten, List.map_replicate, List.sum_replicate_nat]; show _ * 1 ≤ 60; omega)))
      (ea_consQ (Ed.ev ed_non ⟨rfl, by decide, by decide⟩)
      (ea_consQ (Ed.ev (ed_tup (ds := []) ea_nil (by decide)) ⟨rfl, by decide, by decide⟩)
      (ea_consQ (Ed.ev ed_int ⟨by decide +kernel, by decide, by decide⟩) ea_nilQ))))))))) fun ds h => ⟨sz (by omega), ds, rfl, h⟩) fun d σ1 H1 hd a1 => ?_
    obtain ⟨ds1, rfl, h1, l1⟩ := hd
    refine x_ret a1 (P := Tk 20000 10) (ev_dN (Ps := fun es => ∃ ds, es = [.lst ds] ∧ (∀ d ∈ ds, Tk 20000 10 d) ∧ ds.length = 14) rfl ((ea1P (P := fun d => ∃ ds, d = .lst ds ∧ (∀ d ∈ ds, Tk 20000 10 d) ∧ ds.length = 14) (ev_op (P1 := fun d => d = .lst ds1) (P2 := fun d => ∃ ds, d = .lst ds ∧ (∀ d ∈ ds, Tk 20000 10 d) ∧ ds.length = 5) (ed_var rfl) (ev_lst (Ps := fun ds => (∀ d ∈ ds, Tk 20000 10 d) ∧ ds.length = 5) (ea_consQ (one rfl (ed_op ed_int ed_int (rd_pow ⟨by decide, by decide, by decide⟩)) ⟨by decide +kernel, by decide, by decide⟩)
      (ea_consQ (Ed.ev (ed_tup (ds := [.tup r]) (ead_cons (R rfl) ea_nil) (by show 1 ≤ _; decide)) (tk_fl1 hfl (by omega)))
      (ea_consQ (one rfl ed_str ⟨by decide +kernel, by decide +kernel, rfl⟩)
      (ea_consQ (Ed.ev (ed_rev (R rfl)) (tk_fl hfl.rev (by rw [List.length_reverse]; omega)))
      (ea_consQ (Ed.ev (ed_cb (ead_cons (d := .lst [.tup [.int 0, .tup r]]) (ed_lst (ead_cons (ed_tup (ead_cons ed_int (ead_cons (R rfl) ea_nil)) (by show 2 ≤ sizeLine; decide)) ea_nil) (by show 1 ≤ sizeLine; decide)) ea_nil) rc_dict1) (tk_flD hfl (by omega))) ea_nilQ))))) fun ds h => ⟨sz (by omega), ds, rfl, h⟩) fun d1 d2 e1 ⟨ds2, e2, h2, l2⟩ => by
        subst e1; subst e2
        exact (rd_addL (sz (by omega))).imp fun d hd => ⟨_, hd, fun z hz => (List.mem_append.mp hz).elim (h1 z) (h2 z), by rw [List.length_append]; omega⟩)).imp fun es ⟨d, e1, ds, e2, h⟩ => ⟨ds, by rw [e1, e2], h⟩) (fun es ⟨ds, e1, h, l⟩ => ⟨ds, e1, (fun z => by rw [z] at l; cases l), by omega⟩) fun es e ⟨ds, e1, h, l⟩ ⟨ds', e2, hm⟩ => by
          rw [e1] at e2
          cases e2
          exact h e hm) fun v' H' e he a' => hq he a'
end
end Cal


namespace Cal
open PySem PySem.Spec PyProof.Rows L2
abbrev sp__law_deck (K : PySem.W.Frag) : Sp := fun vs H Q E => ∃ (a : Addr) (ns : List Int), vs = [.ref a] ∧ SqL K H a (ns.map V.int) ∧ ns.length ≤ 63 ∧ ∀ dk l H', Same H H' → H dk = none → H l = none → dk ≠ l → DkI dk l 64 H' → Q (.ref dk) H'
/-- the tuples of a heap -/
def tupsOf (H : Hp) : Hp := fun b => match H b with | some (.tup vs) => some (.tup vs) | _ => none
theorem tupsOf_sub {H : Hp} : Same (tupsOf H) H := fun b o e => by
  unfold tupsOf at e
  split at e
  · rename_i vs h; rw [h]; exact e
  · cases e
theorem tupsOf_is {H : Hp} {b : Addr} {o : HO} (e : tupsOf H b = some o) : ∃ vs, o = .tup vs := by
  unfold tupsOf at e
  split at e
  · exact ⟨_, (Option.some.inj e).symm⟩
  · cases e
theorem tupsOf_tup {H : Hp} {b : Addr} {vs : List V} (e : H b = some (.tup vs)) : tupsOf H b = some (.tup vs) := by
  unfold tupsOf; rw [e]
abbrev Bz (K : PySem.W.Frag) (H : Hp) : Bs := ⟨K, fun _ => True, [], fun _ _ _ _ => True.intro, tupsOf H, H⟩
theorem At.zero {K : PySem.W.Frag} {H : Hp} {ρ : Ro} {σ : L2.St} (hl : ρ.length = σ.length) (h : ∀ (i : Nat) (d : D), ρ[i]? = some (some d) → ∃ v, σ[i]? = some (some v) ∧ d = .raw v) : At (Bz K H) ρ [] [] σ H :=
  ⟨tupsOf H, tupsOf_sub, True.intro, fun b hb => (nomatch hb), fun b vs e => tupsOf_tup e, fun b o e _ => e, fun b o e => .inr e, hl, fun i d e => let ⟨v, h1, h2⟩ := h i d e; ⟨v, h1, by rw [h2]; rfl⟩, fun q hq => (nomatch hq), List.nodup_nil, fun q hq => (nomatch hq)⟩
theorem At.same {K : PySem.W.Frag} {H H' : Hp} {ρ : Ro} {μ : Mu} {τ : List (V × D)} {σ : L2.St} (a : At (Bz K H) ρ μ τ σ H') : Same H H' := by
  obtain ⟨G, g⟩ := a
  exact fun b o e => g.base b o e fun z => nomatch z
section
variable {K : PySem.W.Frag} {H0 : Hp} {ρ : Ro} {μ : Mu} {a : Addr} {ns : List Int} {te : TE} {j : Nat} {B : Bs} {ds : List D}
theorem ed_cutScript (hS : SqL K H0 a (ns.map V.int)) (hl : ns.length ≤ 63) (h : ρ[j]? = some (some (.raw (.ref a)))) : Ed (Bz K H0) (tSl (rSlU K) (tVar j) tNoPart (tPart (tC (.int 63)))) ρ μ (.lst (ns.map D.int)) := Ev.mk fun τ σ H A Q q => by
  obtain ⟨v, h1, h2⟩ := A.var h
  obtain ⟨G, g, hv⟩ := h2.top
  rw [show v = V.ref a from hv] at h1
  refine ⟨_, h1, 63, rfl, .inr (.inl ⟨a, ns.map V.int, rfl, (At.same A).seq hS, fun p hp => q _ _ _ rfl (g.newLst hp ?_)⟩)⟩
  have e : cutV (ns.map V.int) none (some 63) = ns.map V.int := by
    unfold cutV
    rw [show HT.sIx (ns.map V.int).length (ns.map V.int).length (some 63) = min 63 (ns.map V.int).length from HT.sIx_nat _ _ 63, HT.sIx_none, List.drop_zero, Nat.sub_zero, Nat.min_eq_right (by rw [List.length_map]; exact hl), List.take_length]
  rw [e]
  exact DtA.of_ints ns
theorem rc_lstL : RC B (rLstOf B.K) ρ μ [.lst ds] (fun e => e = .lst ds) := fun τ σ H xs hl a Q q => by
  obtain ⟨G, g, h⟩ := a.args hl
  obtain ⟨v, rfl, p, vs, rfl, e, k⟩ := one_arg h
  exact .inl ⟨p, vs, rfl, .inl (.inl (.inl (g.sub _ _ e))), fun l hl => q _ _ _ rfl (g.newLst hl k)⟩
theorem ed_revI (h : Ed B te ρ μ (.lst (ns.map D.int))) : Ed B (tRevL B.K te) ρ μ (.lst (ns.reverse.map D.int)) := Ev.mk fun τ σ H a Q q => h.go a fun v H1 d hd a1 => by
  subst hd
  obtain ⟨G, g, p, vs, rfl, e, k⟩ := id a1.top
  refine ⟨p, vs, rfl, .inl (.inl (g.sub _ _ e)), fun p' hp' => q _ _ _ rfl (g.newLst hp' ?_)⟩
  rw [k.ints, ← List.map_reverse]
  exact DtA.of_ints ns.reverse
end
section
variable {P : Program} {w : World} {K : PySem.W.Frag} {mg : Str → Option Value} {base : Heap} {f : Addr} {fd : FuncData}
abbrev BN7 : List Str := ["int", "list"]
variable (bi : ∀ x, x ∈ BN7 → mg x = none)
include bi in
theorem ok__law_deck (F : Fun K "_law_deck" "_law_deck" s__law_deck f fd) : FnOk P w K mg base CX0 1 f fd ["script"] (sp__law_deck K) := by
  refine F.ok sc__law_deck (fun vs H Q E h => ?_) (fun cdv A outer s H vs Q E hr h => ?_)
  · obtain ⟨a, ns, rfl, _⟩ := h
    rfl
  · have hu := hu_of hr
    obtain ⟨a, ns, rfl, hS, hl, hq⟩ := h
    refine ⟨_, (pss_cons (ps_asg pe_int (pg_name (i := 1) sc__law_deck.nd rfl (by first | exact (.inl rfl) | exact (.inr rfl))))
      (pss_cons (ps_for PassesOwn.never rfl (pi_list (pe_slice (r := rSlU K) u_sl (pv 0) po_none (po_some pe_int))) (pg_name (i := 2) sc__law_deck.nd rfl (by first | exact (.inl rfl) | exact (.inr rfl)))
        (pss_one (ps_asg (pe_op op_mod (pe_callTy (T := "int") call_int1 (by rfl) (bi "int" (by decide +kernel)) (by decide +kernel) (pa_cons (pe_op (r := rAddU K) u_add (pe_op (r := rAddU K) u_add (pe_op u_mul2 (pv 1) pe_int) (pe_op op_mod (pe_callTy (T := "int") call_int1 (by rfl) (bi "int" (by decide +kernel)) (by decide +kernel) (pa_cons (pv 2) pa_nil)) pe_int)) pe_int) pa_nil)) pe_int) (pg_name (i := 1) sc__law_deck.nd rfl (by first | exact (.inl rfl) | exact (.inr rfl))))))
      (pss_one (ps_ret (pe_disp (pps_cons pe_str (pe_revL (pe_callTy (T := "list") (r := rLstOf K) (u_list rfl) (by rfl) (bi "list" (by decide +kernel)) (by decide +kernel) (pa_cons (pe_slice (r := rSlU K) u_sl (pv 0) po_none (po_some pe_int)) pa_nil))) (pps_cons pe_str (pv 1) (pps_cons pe_str pe_int pps_nil))) (by rfl) (by rfl) (fun z => by cases z) (by decide)))))), ?_⟩
    have a0 : At (Bz K H) [some (.raw (.ref a)), none, none] [] [] (start n__law_deck [.ref a]) H := At.zero rfl fun i d e => by
      match i, e with
      | 0, e => exact ⟨.ref a, rfl, (Option.some.inj (Option.some.inj e)).symm⟩
      | 1, e => cases e
      | 2, e => cases e
    refine y_set a0 ed_int fun σ1 H1 a1 => ?_
    refine y_forN a1 (ei_lst (ed_cutScript hS hl rfl)) (fun i ρ μ => ∃ (m : Int) (c : Option D), ρ = [some (.raw (.ref a)), some (.int m), c] ∧ μ = []) ⟨_, none, rfl, rfl⟩ (fun i ρ' μ' τ1 σ2 H2 Dn hi hI a2 hnx hct hbk hrt => ?_) fun ρ' μ' σ2 H2 hI a2 => ?_
    · obtain ⟨m, c, rfl, rfl⟩ := hI
      have hi' : i < ns.length := by simpa using hi
      have ex : (ns.map D.int).getD i .non = .int ns[i] := by
        rw [List.getD_eq_getElem?_getD, List.getElem?_map, List.getElem?_eq_getElem hi']; rfl
      rw [ex] at a2
      refine x_set a2 (ed_op (ed_cb (ead_cons (ed_op (ed_op (ed_op (ed_var rfl) ed_int (rd_mulI2 (.inr ⟨by decide, by decide⟩))) (ed_op (ed_cb (ead_cons (ed_var rfl) ea_nil) rc_intI) ed_int (rd_mod (by decide))) rd_addI) ed_int rd_addI) ea_nil) rc_intI) ed_int (rd_mod (by decide))) fun σ3 H3 a3 => hnx _ _ _ _ ⟨_, _, rfl, rfl⟩ a3
    · obtain ⟨m, c, rfl, rfl⟩ := hI
      -- the object: left, mixed, draws
      intro p hp
      obtain ⟨a3, _⟩ := At.newCell (c := .dk []) (o := .dK []) a2 hp fun G _ => ⟨[], upd_same, rfl⟩
      have hpn : H p = none := by
        cases e : H p with
        | none => rfl
        | some o => rw [At.same a2 p o e] at hp; cases hp
      simp only [tPairs]
      simp only [tC]
      show tRevL K (tCB (rLstOf K) (tCons (tSl (rSlU K) (tVar 0) tNoPart (tPart (tC (.int 63)))) tNil)) σ2 (upd H2 p (HO.dK [])) _
      refine (ed_revI (B := Bz K H) (ed_cb (ead_cons (ed_cutScript (j := 0) hS hl rfl) ea_nil) rc_lstL)).go a3 fun v H3 d hd a4 => ?_
      subst hd
      obtain ⟨v2, g1, g2⟩ := At.var (i := 1) a4 rfl
      obtain ⟨G, g, hv2⟩ := id g2.top
      rw [show v2 = V.int m from hv2] at g1
      obtain ⟨G4, g4, l, vs, rfl, e4, k4⟩ := id a4.top
      have hvs := k4.ints
      subst hvs
      obtain ⟨n1, n2, n3, kvs, c1, c2⟩ := g4.cells _ (List.mem_cons_self ..)
      have hk : kvs = [] := c2
      subst hk
      have hl4 : H l = none := by
        rcases g4.ext l _ e4 with z | z
        · exact z
        · obtain ⟨vs', z'⟩ := tupsOf_is z
          cases z'
      have hne : p ≠ l := fun z => by
        have n1' : G4 p = none := n1
        rw [z, e4] at n1'; cases n1'
      show tVar 1 σ2 H3 _
      refine ⟨_, g1, ⟨c1, [(kL, .ref l), (kM, .int m), (kD, .int 0)], rfl, by show 3 ≤ 15; decide, ?_⟩⟩
      refine hq p l _ (fun b o e => ?_) hpn hl4 hne ⟨ns.reverse, m, 0, ?_, ?_, by rw [List.length_reverse]; omega⟩
      · rw [upd_ne (fun z => by rw [z, hpn] at e; cases e)]
        exact At.same a4 b o e
      · rw [upd_same, dkv_merge]
      · rw [upd_ne hne.symm]
        exact g4.sub _ _ e4
end
end Cal


namespace Cal
open PySem PySem.Spec PyProof.Rows L2
abbrev s_law : Stmt := topS 59
abbrev n_law : List Str := ["script", "deck", "turn", "placement", "world", "plan", "place", "sites", "site", "counts", "at", "thing", "go", "told", "update", "far", "some", "text"]
theorem sc_law : FnScope n_law ["script"] (defScope s_law) := ⟨rfl, rfl, rfl, by decide +kernel, rfl, by decide +kernel, by decide +kernel⟩
/-! ### a drawn placement is made of parts -/
theorem At.deck {K : PySem.W.Frag} {dk l : Addr} {H : Hp} {ρ : Ro} {σ : L2.St} (hl : ρ.length = σ.length) (h : ∀ (i : Nat) (d : D), ρ[i]? = some (some d) → ∃ v, σ[i]? = some (some v) ∧ d = .raw v) (hI : DkI dk l 64 H) : At (Bd K dk l 64 (tupsOf H) H) ρ [] [] σ H :=
  ⟨tupsOf H, tupsOf_sub, hI, fun b hb => ⟨(by
    cases e : tupsOf H b with
    | none => rfl
    | some o =>
      obtain ⟨vs, rfl⟩ := tupsOf_is e
      exact absurd (tupsOf_sub b _ e) ((DkI.ent hI b hb).2 vs)), DkI.ent hI b hb⟩, fun b vs e => tupsOf_tup e, fun b o e _ => e, fun b o e => .inr e, hl, fun i d e => let ⟨v, h1, h2⟩ := h i d e; ⟨v, h1, by rw [h2]; rfl⟩, fun q hq => (nomatch hq), List.nodup_nil, fun q hq => (nomatch hq)⟩
theorem drawn_all {e : D} (h : Drawn e) : ∃ (ss : List (List Str)) (cs : List (List Int)), e = plD ss cs ∧ PlL ss cs ∧ PlOk ss cs ∧ (2 ≤ ss.length ∧ ss.length ≤ 5) ∧ ss.length + cs.length ≤ 6 ∧ (∀ k ∈ ss, Names k ∧ k.length ≤ 20) ∧ ∃ k ∈ ss, k ≠ [] := by
  obtain ⟨⟨s, c, r, hp, ⟨s1, s2⟩, ⟨c1, c2⟩, h6, hr⟩, hn⟩ := h
  obtain ⟨ss, cs, e1, hL, hO, l1, l2, hN⟩ := pl_all hp ⟨by omega, by omega⟩ (by omega) (by omega)
  refine ⟨ss, cs, e1, hL, hO, ⟨by omega, by omega⟩, by omega, fun k hk => ⟨(hN k hk).2, ?_⟩, ?_⟩
  · obtain ⟨kept, vis, e3, _, _, h4, _⟩ := hp
    rw [e1] at e3
    have e4 := D.tup.inj e3
    injection e4 with e4 _
    have e5 : ss = kept := (List.map_inj_right fun a b e => (List.map_inj_right fun x y e => D.str.inj e).mp (D.tup.inj e)).mp (D.tup.inj e4)
    have := (h4 k (e5 ▸ hk)).2.2
    omega
  · obtain ⟨kept, x, e3, k, hk, hne⟩ := hn
    rw [e1] at e3
    have e4 := D.tup.inj e3
    injection e4 with e4 _
    have e5 : ss = kept := (List.map_inj_right fun a b e => (List.map_inj_right fun x y e => D.str.inj e).mp (D.tup.inj e)).mp (D.tup.inj e4)
    exact ⟨k, e5 ▸ hk, hne⟩
theorem ones {α : Type} : (List.replicate 18 (none : Option α)).length = 18 := rfl
section
variable {B : Bs} {ρ : Ro} {μ : Mu} {te : TE} {d : D} {n k : Nat}
theorem rp_tk (h : Tk n k d) (hn : n ≤ 1000000) (hk : k ≤ 20) (e : Ed B te ρ μ d) : Ed B (tCB (rRp B.K) (tCons te tNil)) ρ μ (.str (py d).shown) := ed_cb (ead_cons e ea_nil) fun τ σ H xs hl a Q q => by
  obtain ⟨G, g, h1⟩ := a.args hl
  obtain ⟨v, rfl, hv⟩ := one_arg h1
  exact ⟨v, d, G, rfl, g.sub, hv, h.ok, Nat.le_trans h.w hn, Nat.le_trans h.dp hk, q _ _ _ rfl (At.flat ⟨G, g⟩ fun _ => rfl)⟩
end
theorem tk_bl (b : Bool) : Tk 200000 14 (.bl b) := by cases b <;> exact ⟨rfl, by decide, by decide⟩
theorem eqT_nil9 (ds : List D) : eqD (.tup ds) (.tup []) = ds.isEmpty := by cases ds <;> rfl
theorem plain_row {r : List Str} (h : ∀ s ∈ r, PyData.strOk s = true) : plain (tS r) = true ∧ dep (tS r) ≤ 64 := by
  refine ⟨?_, ?_⟩
  · show plainA (r.map .str) = true
    induction r with
    | nil => rfl
    | cons x t ih =>
      show (plain (.str x) && plainA (t.map .str)) = true
      rw [ih fun s hs => h s (List.mem_cons_of_mem _ hs), show plain (.str x) = true from h x (List.mem_cons_self ..)]; rfl
  · have : depA (r.map D.str) ≤ 0 := depA_le fun d hd => by
      obtain ⟨x, _, rfl⟩ := List.mem_map.mp hd
      exact Nat.le_refl _
    show depA (r.map D.str) + 1 ≤ 64
    omega
/-- an update that is drawn -/
structure UpdOk (ss : List (List Str)) (rows : RowsT) (k : Nat) (x : Str) (v : List Int) : Prop where
  hk : k < ss.length
  k7 : k < 7
  hx : x ∈ ss.getD k []
  nm : NameS x
  cnt : CntOk v
def updD (k : Nat) (x : Str) (v : List Int) : D := .tup [.int (k : Nat), .str x, tI v]
theorem wd_tI {v : List Int} (h : v.length ≤ 49) : wd (tI v) ≤ 10391 ∧ dep (tI v) = 1 := by
  have h1 : wdA (v.map .int) ≤ (v.map D.int).length * (210 + 2) := wdA_le fun d hd => by
    obtain ⟨x, _, rfl⟩ := List.mem_map.mp hd
    show 210 ≤ 210; decide
  rw [List.length_map] at h1
  exact ⟨by show wdA (v.map .int) + 3 ≤ _; omega, by show depA (v.map .int) + 1 = 1; rw [depA_ints]⟩
theorem pt_name {x : Str} (h : NameS x) : ptD (.str x) = true := by
  obtain ⟨_, h2, h3⟩ := h
  show (decide (x.length ≤ 10) && x.cps.toList.all fun c => decide (97 ≤ c) && decide (c ≤ 122)) = true
  have h2' : x.length ≤ 10 := h2
  rw [decide_eq_true h2', Bool.true_and]
  exact List.all_eq_true.mpr fun c hc => by
    have := h3 c hc
    rw [decide_eq_true this.1, decide_eq_true this.2]; rfl
theorem pt_int' {i : Int} (h0 : 0 ≤ i) (h1 : i < 1000) : ptD (.int i) = true := by
  show (decide (0 ≤ i) && decide (i < 1000)) = true
  rw [decide_eq_true h0, decide_eq_true h1]; rfl
theorem pt_cnt {v : List Int} (h : CntOk v) : ptD (tI v) = true := ptA_all fun d hd => by
  obtain ⟨i, hi, rfl⟩ := List.mem_map.mp hd
  have := h.2 i hi
  exact pt_int' this.1 this.2
theorem ok_name {x : Str} (h : NameS x) : okD (.str x) = true ∧ wd (.str x) ≤ 102 := ⟨(cl_iff.mp (pt_cl (pt_name h))).1, by have : x.length ≤ 10 := h.2.1; show 10 * x.length + 2 ≤ 102; omega⟩
theorem UpdOk.pt {ss : List (List Str)} {rows : RowsT} {k : Nat} {x : Str} {v : List Int} (h : UpdOk ss rows k x v) : ptD (updD k x v) = true ∧ wd (updD k x v) ≤ 11000 ∧ dep (updD k x v) = 2 := by
  obtain ⟨w1, d1⟩ := wd_tI h.cnt.1
  have w2 := (ok_name h.nm).2
  have k7 := h.k7
  refine ⟨ptA_all fun d hd => ?_, by show 210 + 2 + (wd (.str x) + 2 + (wd (tI v) + 2 + 0)) + 3 ≤ _; omega, by show max 0 (max 0 (max (dep (tI v)) 0)) + 1 = 2; rw [d1]; rfl⟩
  simp only [List.mem_cons, List.not_mem_nil, or_false] at hd
  rcases hd with rfl | rfl | rfl
  · exact pt_int' (by omega) (by omega)
  · exact pt_name h.nm
  · exact pt_cnt h.cnt
theorem tk3 {i : Int} {x : Str} {d : D} (hi : i.natAbs < 1000) (hx : okD (.str x) = true ∧ wd (.str x) ≤ 200) (hd : Tk 20000 10 d) : Tk 200000 14 (.tup [.int i, .str x, d]) := by
  have h1 := (fl_int hi).1
  have w := hd.w
  have dp := hd.dp
  refine ⟨?_, by show 210 + 2 + (wd (.str x) + 2 + (wd d + 2 + 0)) + 3 ≤ _; have := hx.2; omega, by show max 0 (max 0 (max (dep d) 0)) + 1 ≤ 14; omega⟩
  show (okD (.int i) && (okD (.str x) && (okD d && true))) = true
  rw [h1, hx.1, hd.ok]; rfl
theorem tk_cnt {v : List Int} (h : CntOk v) : Tk 20000 10 (tI v) := tk_fl h.fl (by rw [List.length_map]; have := h.1; omega)
section
variable {P : Program} {w : World} {K : PySem.W.Frag} {mg : Str → Option Value} {base : Heap} {f : Addr} {fd : FuncData}
abbrev BNlaw21 : List Str := ["enumerate", "len", "list", "range", "repr"]
variable (bi : ∀ x, x ∈ BNlaw21 → mg x = none)
abbrev sp__law_pick2 (K : PySem.W.Frag) : Sp := dsp K (fun es => ∃ ds, (es = [.lst ds] ∨ es = [.tup ds]) ∧ ds ≠ [] ∧ ds.length ≤ 1000000) (fun es e => ∃ ds, (es = [.lst ds] ∨ es = [.tup ds]) ∧ e ∈ ds)
theorem rd_ixTP {B : Bs} {ρ : Ro} {μ : Mu} {ds : List D} {i : Int} {P : D → Prop} (h : 0 ≤ i ∧ i < ds.length) (hP : ∀ d ∈ ds, P d) : RD B (rIx B.K) ρ μ (.tup ds) (.int i) P := by
  have hl : i.toNat < ds.length := by omega
  exact (rd_ixT (d := ds.getD i.toNat .non) (atI_of2 h.1 (getD_at hl))).imp fun d hd => by rw [hd]; exact hP _ (getD_in hl)
include bi in
theorem ok__law_pick2 (F : Fun K "_law_pick" "_law_pick" s__law_pick f fd) (c__law_draw : C8.Cal P w K mg base 1 "_law_draw" (sp__law_draw K) []) : FnOk P w K mg base CX0 2 f fd ["deck", "some"] (sp__law_pick2 K) := by
  refine F.ok sc__law_pick (fun vs H Q E h => ?_) (fun cdv A outer s H vs Q E hr h => ?_)
  · obtain ⟨dk, l, G, ds, h1, ⟨es, rfl, n, hn, _⟩, _⟩ := h
    rw [h1.length]
    rcases hn with rfl | rfl <;> rfl
  · have hu := hu_of hr
    obtain ⟨dk, l, G, es, ⟨ds, hes, hn1, hn2⟩, hlen, a, hq⟩ := dsp_start n__law_pick h
    refine ⟨_, (pss_one (ps_ret (pe_ix (r := rIx K) ix_seq (pv 1) (C8.pe_c c__law_draw hr (by first | decide | omega) (by rfl) (pa_cons (pv 0) (pa_cons (pe_callB (id := "len") (r := rLenU K) u_len (by rfl) (bi "len" (by decide +kernel)) (by decide +kernel) (pa_cons (pv 1) pa_nil)) pa_nil))) (fun _ _ => rfl)))), ?_⟩
    have hp : 0 < ds.length := List.length_pos_iff.mpr hn1
    rcases hes with rfl | rfl
    · refine x_ret a (ev_op (P1 := fun d => d = .lst ds) (P2 := fun d => ∃ r : Int, d = .int r ∧ 0 ≤ r ∧ r < ds.length) (P := fun e => e ∈ ds) (ed_var rfl) (ed_d rfl (ead_cons (ed_lenL (ed_var rfl)) ea_nil) ⟨_, rfl, by omega, by omega⟩ (by rintro e ⟨n, r, e1, rfl, h1, h2⟩; cases e1; exact ⟨r, rfl, h1, h2⟩)) fun d1 d2 e1 ⟨r, e2, h1, h2⟩ => ?_) fun v H' d' hd' a' => hq ⟨ds, .inl rfl, hd'⟩ a'
      subst e1; subst e2
      exact rd_ixLP ⟨h1, h2⟩ fun d hd => hd
    · refine x_ret a (ev_op (P1 := fun d => d = .tup ds) (P2 := fun d => ∃ r : Int, d = .int r ∧ 0 ≤ r ∧ r < ds.length) (P := fun e => e ∈ ds) (ed_var rfl) (ed_d rfl (ead_cons (ed_lenT (ed_var rfl)) ea_nil) ⟨_, rfl, by omega, by omega⟩ (by rintro e ⟨n, r, e1, rfl, h1, h2⟩; cases e1; exact ⟨r, rfl, h1, h2⟩)) fun d1 d2 e1 ⟨r, e2, h1, h2⟩ => ?_) fun v H' d' hd' a' => hq ⟨ds, .inr rfl, hd'⟩ a'
      subst e1; subst e2
      exact rd_ixTP ⟨h1, h2⟩ fun d hd => hd
include bi in
theorem run_law {s₁ : Shared} {H : Hp} {a : Addr} {ns : List Int} (F : Fun K "law" "law" s_law f fd) (hb : BindsTo s₁ fd ⟨[.ref a], []⟩ [("script", .ref a)]) (hl : ns.length ≤ 63) (e0 : Env0 P w K mg base callerA [] s₁ H) (hS : SqL K H a (ns.map V.int))
    (c__law_deck : C8.Cal P w K mg base 1 "_law_deck" (sp__law_deck K) []) (c__law_draw : C8.Cal P w K mg base 1 "_law_draw" (sp__law_draw K) []) (c__law_pick : C8.Cal P w K mg base 2 "_law_pick" (sp__law_pick2 K) []) (c__law_drawn : C8.Cal P w K mg base 5 "_law_drawn" (sp__law_drawn K) [])
    (c__law_map : C8.Cal P w K mg base 1 "_law_map" (sp__law_map K) []) (c__law_plan : C8.Cal P w K mg base 2 "_law_plan" (sp__law_plan K) []) (c__law_any_counts : C8.Cal P w K mg base 2 "_law_any_counts" (sp__law_any_counts K) []) (c__law_near_counts : C8.Cal P w K mg base 3 "_law_near_counts" (sp__law_near_counts K) []) (c__law_bent : C8.Cal P w K mg base 15 "_law_bent" (sp__law_bent 11 K) [])
    (c__law_are_counts : C8.Cal P w K mg base 2 "_law_are_counts" (sp__law_are_counts K) []) (c__law_is_update : C8.Cal P w K mg base 3 "_law_is_update" (sp__law_is_update K) []) (c_are_counts : C8.Cal P w K mg base 10 "are_counts" (sp_are_counts K) []) (k_are_counts : CalW P w K mg base 10 "are_counts" ["thing", "place", "plan", "placement"] (fun vs zs => vs ++ zs.reverse) (sp_are_counts K)) (c_is_update : C8.Cal P w K mg base 10 "is_update" (sp_is_update K) []) (k_is_update : CalW P w K mg base 10 "is_update" ["thing", "plan", "placement"] (fun vs zs => vs ++ zs.reverse) (sp_is_update K)) :
    codeAny (model P w) callerA (.call (.ref f) ⟨[.ref a], []⟩) (CR CX0 [] P w H s₁ (fun v _ => v = .bl true) fun _ _ _ => False) s₁ := by
  obtain ⟨oc, od, kV, doc, pm, an, cdv, ct, osl, rfl, lk, hcd⟩ := F.ex
  refine run_of (k := 20) (ps := ["script"]) (us := [.ref a]) (vs := [.ref a]) lk hcd sc_law rfl ⟨rfl, by decide, by decide⟩ e0 hb (.cons rfl .nil) ?_
  have hr : Room 20 (callerA.deeper (envOfC "law" (defScope s_law) s₁.heap.objs.size f cdv)) := Room.deeper (k := 20) ⟨rfl, by decide, by decide⟩ _
  have hg : (callerA.deeper (envOfC "law" (defScope s_law) s₁.heap.objs.size f cdv)).guards = some [] := rfl
  have hu := hu_of hr
  suffices hh : ∃ t, PSs (cxOf CX0 P w K mg base n_law "law" (defScope s_law) f cdv callerA [] s₁ H fun _ _ _ => False).nox (defBody s_law) t ∧ t { nx := fun _ _ => V.non = .bl true, rt := fun v _ => v = .bl true } (start n_law [.ref a]) H from let ⟨t, h1, h2⟩ := hh; ⟨t, h1.nox, h2⟩
  refine ⟨_, (pss_cons (ps_asg (C8.pe_c c__law_deck hr (by first | decide | omega) (by rfl) (pa_cons (pv 0) pa_nil)) (pg_name (i := 1) sc_law.nd rfl (by first | exact (.inl rfl) | exact (.inr rfl))))
      (pss_cons (ps_for PassesOwn.never rfl (pi_range1 (by rfl) (bi "range" (by decide +kernel)) (pa_cons pe_int pa_nil)) (pg_name (i := 2) sc_law.nd rfl (by first | exact (.inl rfl) | exact (.inr rfl)))
        (pss_cons (ps_asg (C8.pe_c c__law_drawn hr (by first | decide | omega) (by rfl) (pa_cons (pv 1) pa_nil)) (pg_name (i := 3) sc_law.nd rfl (by first | exact (.inl rfl) | exact (.inr rfl))))
      (pss_cons (ps_asg (C8.pe_c c__law_map hr (by first | decide | omega) (by rfl) (pa_cons (pv 3) pa_nil)) (pg_name (i := 4) sc_law.nd rfl (by first | exact (.inl rfl) | exact (.inr rfl))))
      (pss_cons (ps_asg (C8.pe_c c__law_plan hr (by first | decide | omega) (by rfl) (pa_cons (pv 1) (pa_cons (pv 4) pa_nil))) (pg_name (i := 5) sc_law.nd rfl (by first | exact (.inl rfl) | exact (.inr rfl))))
      (pss_cons (ps_par (i := 6) (j := 7) (by rfl) sc_law.nd rfl rfl (by decide) rfl rfl (pa_cons (C8.pe_c c__law_draw hr (by first | decide | omega) (by rfl) (pa_cons (pv 1) (pa_cons (pe_dget hu (pv 4) pe_str (fun _ _ => rfl)) pa_nil))) (pa_cons (pe_lc (own := [("site", 8)]) (g := gName 8) rfl sc_law.nd (pi_range1 (by rfl) (bi "range" (by decide +kernel)) (pa_cons (pe_dget hu (pv 4) pe_str (fun _ _ => rfl)) pa_nil)) (blkOk_by (N := n_law) (sc := defScope s_law) (by decide +kernel)) (fun _ _ _ _ _ => (pg_name (i := 8) sc_law.nd rfl (by first | exact (.inl rfl) | exact (.inr rfl)))) (fun _ _ _ _ _ => (pts_one (pt_cmpR (r := rNeD K) (u_ne hr.units) (pe_ix (r := rIx K) ix_seq (pe_ix (r := rIx K) ix_seq (pv 3) pe_int (fun _ _ => rfl)) (pv 8) (fun _ _ => rfl)) (pe_tup pa_nil) (nomark _)))) (fun _ _ _ _ _ => (pv 8))) pa_nil)) (by rfl))
      (pss_cons (ps_asg (C8.pe_c c__law_any_counts hr (by first | decide | omega) (by rfl) (pa_cons (pv 1) (pa_cons (pv 5) (pa_cons (pv 6) (pa_cons pe_int pa_nil))))) (pg_name (i := 9) sc_law.nd rfl (by first | exact (.inl rfl) | exact (.inr rfl))))
      (pss_cons (ps_for PassesOwn.never rfl (pi_enum (by rfl) (bi "enumerate" (by decide +kernel)) (pa_cons (pe_op (r := rAddU K) u_add (pe_lst (pa_cons (pv 9) pa_nil)) (pe_lc (own := [("go", 12)]) (g := gName 12) (tt := tYes) rfl sc_law.nd (pi_range1 (by rfl) (bi "range" (by decide +kernel)) (pa_cons pe_int pa_nil)) (blkOk_by (N := n_law) (sc := defScope s_law) (by decide +kernel)) (fun _ _ _ _ _ => (pg_name (i := 12) sc_law.nd rfl (by first | exact (.inl rfl) | exact (.inr rfl)))) (fun _ _ _ _ _ => pts_nil) (fun _ _ _ _ _ => (C8.pe_c c__law_near_counts hr (by first | decide | omega) (by rfl) (pa_cons (pv 1) (pa_cons (pv 9) pa_nil)))))) pa_nil)) (pg_tup rfl (pgs_cons (pg_name (i := 10) sc_law.nd rfl (by first | exact (.inl rfl) | exact (.inr rfl))) (pgs_cons (pg_name (i := 11) sc_law.nd rfl (by first | exact (.inl rfl) | exact (.inr rfl))) pgs_nil)))
        (pss_cons (ps_asg (pe_ifExp (pt_cmpR op_gt (pv 10) pe_int (nomark _)) (C8.pe_c c_are_counts hr (by first | decide | omega) (by rfl) (pa_cons (pv 3) (pa_cons (pv 5) (pa_cons (pv 6) (pa_cons (pv 11) pa_nil))))) (pe_ck k_are_counts hr (by first | decide | omega) (by rfl) (pk_cons (pv 11) (pk_cons (pv 6) (pk_cons (pv 5) (pk_cons (pv 3) pk_nil)))))) (pg_name (i := 13) sc_law.nd rfl (by first | exact (.inl rfl) | exact (.inr rfl))))
      (pss_one (ps_if (pt_cmpR op_neS (pe_callB (id := "repr") (r := rRp K) (u_repr hg hr.units) (by rfl) (bi "repr" (by decide +kernel)) (by decide +kernel) (pa_cons (pv 13) pa_nil)) (pe_callB (id := "repr") (r := rRp K) (u_repr hg hr.units) (by rfl) (bi "repr" (by decide +kernel)) (by decide +kernel) (pa_cons (C8.pe_c c__law_are_counts hr (by first | decide | omega) (by rfl) (pa_cons (pv 5) (pa_cons (pv 6) (pa_cons (pv 11) pa_nil)))) pa_nil)) (nomark _)) (pss_one (ps_ret pe_bl)) pss_nil))))
      (pss_cons (ps_asg (C8.pe_c c__law_pick hr (by first | decide | omega) (by rfl) (pa_cons (pv 1) (pa_cons (pv 7) pa_nil))) (pg_name (i := 8) sc_law.nd rfl (by first | exact (.inl rfl) | exact (.inr rfl))))
      (pss_cons (ps_asg (pe_tup (pa_cons (pv 8) (pa_cons (C8.pe_c c__law_pick hr (by first | decide | omega) (by rfl) (pa_cons (pv 1) (pa_cons (pe_ix (r := rIx K) ix_seq (pe_ix (r := rIx K) ix_seq (pv 3) pe_int (fun _ _ => rfl)) (pv 8) (fun _ _ => rfl)) pa_nil))) (pa_cons (C8.pe_c c__law_any_counts hr (by first | decide | omega) (by rfl) (pa_cons (pv 1) (pa_cons (pv 5) (pa_cons (pv 8) (pa_cons pe_int pa_nil))))) pa_nil)))) (pg_name (i := 14) sc_law.nd rfl (by first | exact (.inl rfl) | exact (.inr rfl))))
      (pss_cons (ps_asg (C8.pe_c c__law_draw hr (by first | decide | omega) (by rfl) (pa_cons (pv 1) (pa_cons (pe_dget hu (pv 4) pe_str (fun _ _ => rfl)) pa_nil))) (pg_name (i := 15) sc_law.nd rfl (by first | exact (.inl rfl) | exact (.inr rfl))))
      (pss_cons (ps_asg (pe_lst (pa_cons (pv 14) (pa_cons (pe_tup (pa_cons (pv 15) (pa_cons (pe_ix (r := rIx K) ix_seq (pv 14) pe_int (fun _ _ => rfl)) (pa_cons (pe_ix (r := rIx K) ix_seq (pv 14) pe_int (fun _ _ => rfl)) pa_nil)))) (pa_cons (pe_tup (pa_cons (pv 8) (pa_cons (pe_op (r := rAddU K) u_add (pe_ix (r := rIx K) ix_seq (pv 14) pe_int (fun _ _ => rfl)) pe_str) (pa_cons (pe_ix (r := rIx K) ix_seq (pv 14) pe_int (fun _ _ => rfl)) pa_nil)))) (pa_cons (pe_tup (pa_cons (pv 8) (pa_cons (pe_ix (r := rIx K) ix_seq (pv 14) pe_int (fun _ _ => rfl)) (pa_cons (C8.pe_c c__law_near_counts hr (by first | decide | omega) (by rfl) (pa_cons (pv 1) (pa_cons (pe_ix (r := rIx K) ix_seq (pv 14) pe_int (fun _ _ => rfl)) pa_nil))) pa_nil)))) pa_nil))))) (pg_name (i := 16) sc_law.nd rfl (by first | exact (.inl rfl) | exact (.inr rfl))))
      (pss_cons (ps_asg (pe_op (r := rAddU K) u_add (pv 16) (pe_lst (pa_cons (pe_tup (pa_cons (pv 8) (pa_cons (C8.pe_c c__law_pick hr (by first | decide | omega) (by rfl) (pa_cons (pv 1) (pa_cons (pe_ix (r := rIx K) ix_seq (pe_ix (r := rIx K) ix_seq (pv 3) pe_int (fun _ _ => rfl)) (C8.pe_c c__law_pick hr (by first | decide | omega) (by rfl) (pa_cons (pv 1) (pa_cons (pv 7) pa_nil))) (fun _ _ => rfl)) pa_nil))) (pa_cons (pe_ix (r := rIx K) ix_seq (pv 14) pe_int (fun _ _ => rfl)) pa_nil)))) (pa_cons (pe_op (r := rAddU K) u_add (pv 14) (pe_tup (pa_cons pe_int pa_nil))) (pa_cons (pe_slice (r := rSlU K) u_sl (pv 14) po_none (po_some pe_int)) (pa_cons (pe_callTy (T := "list") (r := rLstOf K) (u_list rfl) (by rfl) (bi "list" (by decide +kernel)) (by decide +kernel) (pa_cons (pv 14) pa_nil)) (pa_cons pe_non pa_nil))))))) (pg_name (i := 16) sc_law.nd rfl (by first | exact (.inl rfl) | exact (.inr rfl))))
      (pss_cons (ps_asg (pe_op (r := rAddU K) u_add (pv 16) (pe_lc (own := [("go", 12)]) (g := gName 12) (tt := tYes) rfl sc_law.nd (pi_range1 (by rfl) (bi "range" (by decide +kernel)) (pa_cons pe_int pa_nil)) (blkOk_by (N := n_law) (sc := defScope s_law) (by decide +kernel)) (fun _ _ _ _ _ => (pg_name (i := 12) sc_law.nd rfl (by first | exact (.inl rfl) | exact (.inr rfl)))) (fun _ _ _ _ _ => pts_nil) (fun _ _ _ _ _ => (C8.pe_c c__law_bent hr (by first | decide | omega) (by rfl) (pa_cons (pv 1) (pa_cons (pv 14) (pa_cons (C8.pe_c c__law_draw hr (by first | decide | omega) (by rfl) (pa_cons (pv 1) (pa_cons pe_int pa_nil))) pa_nil))))))) (pg_name (i := 16) sc_law.nd rfl (by first | exact (.inl rfl) | exact (.inr rfl))))
      (pss_one (ps_for PassesOwn.never rfl (pi_enum (by rfl) (bi "enumerate" (by decide +kernel)) (pa_cons (pv 16) pa_nil)) (pg_tup rfl (pgs_cons (pg_name (i := 10) sc_law.nd rfl (by first | exact (.inl rfl) | exact (.inr rfl))) (pgs_cons (pg_name (i := 11) sc_law.nd rfl (by first | exact (.inl rfl) | exact (.inr rfl))) pgs_nil)))
        (pss_cons (ps_asg (pe_callB (id := "repr") (r := rRp K) (u_repr hg hr.units) (by rfl) (bi "repr" (by decide +kernel)) (by decide +kernel) (pa_cons (pv 11) pa_nil)) (pg_name (i := 17) sc_law.nd rfl (by first | exact (.inl rfl) | exact (.inr rfl))))
      (pss_cons (ps_asg (pe_ifExp (pt_cmpR op_gt (pv 10) pe_int (nomark _)) (C8.pe_c c_is_update hr (by first | decide | omega) (by rfl) (pa_cons (pv 3) (pa_cons (pv 5) (pa_cons (pv 11) pa_nil)))) (pe_ck k_is_update hr (by first | decide | omega) (by rfl) (pk_cons (pv 11) (pk_cons (pv 5) (pk_cons (pv 3) pk_nil))))) (pg_name (i := 13) sc_law.nd rfl (by first | exact (.inl rfl) | exact (.inr rfl))))
      (pss_one (ps_if (PW.pt (pw_or (pt_cmpR op_neS (pe_callB (id := "repr") (r := rRp K) (u_repr hg hr.units) (by rfl) (bi "repr" (by decide +kernel)) (by decide +kernel) (pa_cons (pv 13) pa_nil)) (pe_callB (id := "repr") (r := rRp K) (u_repr hg hr.units) (by rfl) (bi "repr" (by decide +kernel)) (by decide +kernel) (pa_cons (C8.pe_c c__law_is_update hr (by first | decide | omega) (by rfl) (pa_cons (pv 4) (pa_cons (pv 5) (pa_cons (pv 11) pa_nil)))) pa_nil)) (nomark _)) (pw_or1 (pt_cmpR op_neS (pe_callB (id := "repr") (r := rRp K) (u_repr hg hr.units) (by rfl) (bi "repr" (by decide +kernel)) (by decide +kernel) (pa_cons (pv 11) pa_nil)) (pv 17) (nomark _))))) (pss_one (ps_ret pe_bl)) pss_nil)))))))))))))))))))
      (pss_one (ps_ret pe_bl)))), ?_⟩
  -- the deck
  refine ⟨.ref a, rfl, a, ns, rfl, hS, hl, fun dk l H1 hs hdk hll hne hI => ?_⟩
  have a1 : At (Bd K dk l 64 (tupsOf H1) H1) [none, some (.raw (.ref dk)), none, none, none, none, none, none, none, none, none, none, none, none, none, none, none, none] [] [] ((start n_law [.ref a]).set 1 (some (.ref dk))) H1 := At.deck rfl (fun i d e => by
    match i, e with
    | 0, e => cases e
    | 1, e => exact ⟨.ref dk, rfl, (Option.some.inj (Option.some.inj e)).symm⟩
    | i + 2, e =>
      have : ([none, none, none, none, none, none, none, none, none, none, none, none, none, none, none, none] : Ro)[i]? = some (some d) := by simpa using e
      have := List.mem_of_getElem? this
      simp at this) hI
  have same : ∀ {s : Str}, (s != s) = false := fun {s} => by rw [bne_self_eq_false]
  refine y_forN a1 (ei_rng1 (ead_cons ed_int ea_nil) ⟨by decide, by decide⟩) (fun i ρ μ => ∃ x2 x3 x4 x5 x6 x7 x8 x9 x10 x11 x12 x13 x14 x15 x16 x17 : Option D, ρ = [none, some (.raw (.ref dk)), x2, x3, x4, x5, x6, x7, x8, x9, x10, x11, x12, x13, x14, x15, x16, x17] ∧ μ = []) ⟨_, _, _, _, _, _, _, _, _, _, _, _, _, _, _, _, rfl, rfl⟩ (fun turn ρ' μ' τ1 σ2 H2 Dn hturn hI a2 hnx hct hbk hrt => ?_) fun ρ' μ' σ2 H2 hI a2 => ?_
  · obtain ⟨x2, x3, x4, x5, x6, x7, x8, x9, x10, x11, x12, x13, x14, x15, x16, x17, rfl, rfl⟩ := hI
    -- placement, world, plan
    refine y_setV (P := Drawn) a2 (ed_d rfl ea_nil rfl fun e he => he) fun d σ3 H3 hd a3 => ?_
    obtain ⟨ss, cs, rfl, hL, hO, ⟨s2, s5⟩, m6, hN, hne⟩ := drawn_all hd
    refine y_set (d := worldD ss cs) a3 (ed_p (ead_cons (ed_var rfl) ea_nil) ⟨_, _, rfl, hL⟩ (by rintro e ⟨ss', cs', e1, rfl⟩; obtain ⟨rfl, rfl⟩ := plD_zero e1; rfl)) fun σ4 H4 a4 => ?_
    refine y_setV (P := fun d => ∃ rows, d = planD rows ∧ PlanOk ss cs rows) a4 (ed_d rfl (ead_cons (ed_var rfl) ea_nil) ⟨_, _, rfl, hL⟩ (by
      rintro e ⟨ss', cs', rows, e1, e2, h⟩
      injection e1 with e1 _
      obtain ⟨rfl, rfl⟩ := world_inj e1
      exact ⟨rows, e2, h⟩)) fun d σ5 H5 hd a5 => ?_
    obtain ⟨rows, rfl, hP⟩ := hd
    have hrl := hP.len
    have nE : ∀ p, p < rows.length → nEdges rows p ≤ 49 := fun p hp => by
      have := (hP.sub _ (getD_in (z := []) hp)).length_le
      have := epairs_49 (ss := ss) (by omega)
      show (rows.getD p []).length ≤ 49
      omega
    have many : ∀ {ρ : Ro} {μ : Mu}, ρ[4]? = some (some (worldD ss cs)) → Ed (Bd K dk l 64 (tupsOf H1) H1) (tDGet (tVar 4) (tC (.str "many"))) ρ μ (.int ((ss.length + cs.length : Nat) : Int)) := fun h => Ed.is (ed_dgetK (d := .int (ss.length + cs.length)) (ed_var h) rfl) (by rw [Int.natCast_add])
    have rowE : ∀ {ρ : Ro} {μ : Mu} {te : TE} {k : Nat}, k < ss.length → ρ[3]? = some (some (plD ss cs)) → Ed (Bd K dk l 64 (tupsOf H1) H1) te ρ μ (.int (k : Nat)) → Ed (Bd K dk l 64 (tupsOf H1) H1) (tOp (rIx K) (tOp (rIx K) (tVar 3) (tC (.int 0))) te) ρ μ (tS (ss.getD k [])) := fun {ρ μ te k} hk h3 he => ed_op (d1 := .tup (ss.map tS)) (d2 := .int (k : Nat)) (ed_op (d1 := plD ss cs) (d2 := .int 0) (ed_var h3) ed_int (rd_ixT rfl)) he (rd_ixT (atI_of2 (by omega) (by rw [show ((k : Int)).toNat = k by omega, List.getElem?_map, getD_at (z := []) hk]; rfl)))
    have strK : ∀ {k : Nat}, k < ss.length → ∀ s ∈ ss.getD k [], PyData.strOk s = true := fun hk s hs => ((hL.names _ (getD_in (z := []) hk)).2 s hs).1
    -- place, sites
    refine y_par (Ps := fun d1 d2 => (∃ p : Nat, d1 = .int (p : Nat) ∧ p < ss.length + cs.length) ∧ d2 = .lst (((List.range ss.length).filter fun q => !(ss.getD q []).isEmpty).map fun q : Nat => D.int (q : Int))) a5 (ea_cons (P := fun d => ∃ p : Nat, d = .int (p : Nat) ∧ p < ss.length + cs.length) (ed_d rfl (ead_cons (many rfl) ea_nil) ⟨_, rfl, by omega, by omega⟩ (by rintro e ⟨n, r, e1, rfl, h1, h2⟩; cases e1; exact ⟨r.toNat, by congr 1; omega, by omega⟩)) fun d1 h1 => (ea1P (P := fun d => d = .lst (((List.range ss.length).filter fun q => !(ss.getD q []).isEmpty).map fun q : Nat => D.int (q : Int))) (ed_lcT (n := ss.length) (h := fun q : Nat => D.int (q : Int)) (fun q => !(ss.getD q []).isEmpty) (ei_rng1 (i := (ss.length : Int)) (ead_cons (ed_dgetK (ed_var rfl) rfl) ea_nil) ⟨by omega, by omega⟩) (by decide) (by omega) (fun q hq cl => eb_test (Ed.is (ed_op (rowE hq rfl (ed_var rfl)) (ed_tup (ds := []) ea_nil (by decide)) (rd_neD (plain_row (strK hq)).1 rfl (plain_row (strK hq)).2 (by decide))) (by
        rw [eqT_nil9]
        cases ss.getD q [] <;> rfl))) fun q hq _ cl => ed_var rfl)).imp fun ds ⟨d2, e2, h2⟩ => ⟨d1, d2, by rw [e2], h1, h2⟩) fun d1 d2 σ6 H6 ⟨⟨p, e1, hp⟩, e2⟩ a6 => ?_
    subst e1
    generalize hsi : ((List.range ss.length).filter fun q => !(ss.getD q []).isEmpty).map (fun q : Nat => D.int (q : Int)) = sites at e2
    subst e2
    have sitesE : ∀ d ∈ sites, ∃ k : Nat, d = .int (k : Nat) ∧ k < ss.length ∧ ss.getD k [] ≠ [] := fun d hd => by
      rw [← hsi] at hd
      obtain ⟨k, hk, rfl⟩ := List.mem_map.mp hd
      obtain ⟨k1, k2⟩ := List.mem_filter.mp hk
      exact ⟨k, rfl, List.mem_range.mp k1, fun z => by rw [z] at k2; cases k2⟩
    have sitesL : sites.length ≤ 5 := by
      rw [← hsi, List.length_map]
      have := List.length_filter_le (fun q => !(ss.getD q []).isEmpty) (List.range ss.length)
      rw [List.length_range] at this; omega
    have sitesN : sites ≠ [] := fun z => by
      obtain ⟨r, hr, hrn⟩ := hne
      obtain ⟨k, hk⟩ := List.mem_iff_getElem?.mp hr
      have hkl := (List.getElem?_eq_some_iff.mp hk).1
      have hm : D.int ((k : Nat) : Int) ∈ sites := by
        rw [← hsi]
        refine List.mem_map.mpr ⟨k, List.mem_filter.mpr ⟨List.mem_range.mpr hkl, ?_⟩, rfl⟩
        rw [List.getD_eq_getElem?_getD, hk]
        cases r with
        | nil => exact absurd rfl hrn
        | cons x t => rfl
      rw [z] at hm; cases hm
    have cntP : ∀ {q : Nat} (e : D), (∃ (rows' : RowsT) (p' : Nat) (m : Int), ([planD rows, .int (q : Nat), .int 9] : List D) = [planD rows', .int p', .int m] ∧ ∃ v : List Int, e = tI v ∧ v.length = nEdges rows' p' ∧ CntOk v) → ∃ v : List Int, e = tI v ∧ CntOk v := by
      rintro q e ⟨rows', p', m, _, v, h1, _, h2⟩
      exact ⟨v, h1, h2⟩
    -- counts
    refine y_setV (P := fun d => ∃ v : List Int, d = tI v ∧ CntOk v) a6 (ed_d rfl (ead_cons (ed_var rfl) (ead_cons (ed_var rfl) (ead_cons ed_int ea_nil))) ⟨_, _, _, rfl, by omega, nE _ (by omega), by decide, by decide⟩ cntP) fun d σ7 H7 hd a7 => ?_
    obtain ⟨v, rfl, hv⟩ := hd
    -- for at, thing in enumerate([counts] + ..)
    have nearE : ∀ {ρ : Ro} {μ : Mu} {te : TE} {v : List Int}, ρ[1]? = some (some (.raw (.ref dk))) → CntOk v → Ed (Bd K dk l 64 (tupsOf H1) H1) te ρ μ (tI v) → Ev (Bd K dk l 64 (tupsOf H1) H1) (tCall (sp__law_near_counts K) [] C8.E0 (tCons (tVar 1) (tCons te tNil))) ρ μ (Tk 20000 10) := fun h hv he => ed_d h (ead_cons he ea_nil) ⟨_, rfl, hv⟩ (by rintro e h; exact h)
    refine y_forEV (Pd := fun ds => (∀ d ∈ ds, Tk 20000 10 d) ∧ ds.length ≤ 10) (k := 10) (l := 11) a7 (ev_op (P1 := fun d => d = .lst [tI v]) (P2 := fun d => ∃ ds, d = .lst ds ∧ (∀ d ∈ ds, Tk 20000 10 d) ∧ ds.length = 4) (ed_lst (ead_cons (ed_var rfl) ea_nil) (by show 1 ≤ _; decide)) (ev_lc0 (n := 4) (ei_rng1 (i := 4) (ead_cons ed_int ea_nil) ⟨by decide, by decide⟩) (by decide) (by decide) (fun _ d => Tk 20000 10 d) (fun i hi cl => nearE rfl hv (ed_var rfl)) fun ds h1 h2 => ⟨ds, rfl, fun t ht => by
        obtain ⟨i, hi⟩ := List.mem_iff_getElem?.mp ht
        exact h2 i t hi, h1⟩) fun d1 d2 e1 ⟨ds, e2, h1, h2⟩ => by
      subst e1; subst e2
      exact (rd_addL (szL (by show 1 + ds.length ≤ _; omega))).imp fun d hd => ⟨_, hd, fun z hz => (List.mem_append.mp hz).elim (fun y => by rw [List.mem_singleton.mp y]; exact tk_cnt hv) (h1 z), by rw [List.length_append]; show 1 + _ ≤ _; omega⟩)
      (fun ds t ρ μ => ∃ x8 x10 x11 x12 x13 x14 x15 x16 x17 : Option D, ρ = [none, some (.raw (.ref dk)), some (.int (turn : Nat)), some (plD ss cs), some (worldD ss cs), some (planD rows), some (.int (p : Nat)), some (.lst sites), x8, some (tI v), x10, x11, x12, x13, x14, x15, x16, x17] ∧ μ = []) (fun ds hds => ⟨_, _, _, _, _, _, _, _, _, rfl, rfl⟩) (fun ds t ρ' μ' τ2 σ8 H8 Dn2 hds ht hI a8 hnx2 => ?_) fun ds ρ' μ' σ8 H8 hds hI a8 => ?_
    · obtain ⟨x8, x10, x11, x12, x13, x14, x15, x16, x17, rfl, rfl⟩ := hI
      have htk := hds.1 _ (getD_in (z := D.non) ht)
      generalize ds.getD t .non = thing at a8 htk
      have hsm : Sm thing := sm_of htk.ok (Nat.le_trans htk.w (by decide))
      have post : ∀ e : D, (∃ ss' cs' rows', ∃ (p' : Nat) (d : D), ([plD ss cs, planD rows, .int (p : Nat), thing] : List D) = [plD ss' cs', planD rows', .int p', d] ∧ e = .bl (countsB (nEdges rows' p') d)) → e = .bl (countsB (nEdges rows p) thing) := by
        rintro e ⟨ss', cs', rows', p', d, e1, rfl⟩
        injection e1 with _ e1
        injection e1 with e1 e2
        injection e2 with e2 e3
        injection e3 with e3 _
        rw [planD_inj e1, Int.ofNat.inj (D.int.inj e2), e3]
      have pre : ∃ ss' cs' rows', ∃ (p' : Nat) (d : D), ([plD ss cs, planD rows, .int (p : Nat), thing] : List D) = [plD ss' cs', planD rows', .int p', d] ∧ PlOk ss' cs' ∧ PlL ss' cs' ∧ ss'.length + cs'.length ≤ 7 ∧ PlanOk ss' cs' rows' ∧ p' < ss'.length + cs'.length ∧ Sm d := ⟨ss, cs, rows, p, thing, rfl, hO, hL, by omega, hP, hp, hsm⟩
      refine y_set (d := .bl (countsB (nEdges rows p) thing)) a8 (ed_if (b := decide ((0 : Int) < (t : Int))) (eb_test (ed_op (ed_var rfl) ed_int rd_gt)) (fun _ => ed_p (ead_cons (ed_var rfl) (ead_cons (ed_var rfl) (ead_cons (ed_var rfl) (ead_cons (ed_var rfl) ea_nil)))) pre post) fun _ => ed_pwR (ds := [plD ss cs, planD rows, .int (p : Nat), thing]) (fun _ => rfl) (ead_cons (ed_var rfl) (ead_cons (ed_var rfl) (ead_cons (ed_var rfl) (ead_cons (ed_var rfl) ea_nil)))) rfl pre post) fun σ9 H9 a9 => ?_
      refine x_ifb (b := false) a9 (eb_test (Ed.is (ed_op (rp_tk (tk_bl _) (by decide) (by decide) (ed_var rfl)) (rp_tk (tk_bl _) (by decide) (by decide) (ed_p (d := .bl (countsB (nEdges rows p) thing)) (ead_cons (ed_var rfl) (ead_cons (ed_var rfl) (ead_cons (ed_var rfl) ea_nil))) ⟨_, _, _, rfl, by omega, hsm⟩ (by
        rintro e ⟨rows', p', d, e1, rfl⟩
        injection e1 with e1 e2
        injection e2 with e2 e3
        injection e3 with e3 _
        rw [planD_inj e1, Int.ofNat.inj (D.int.inj e2), e3]))) rd_neS) (congrArg D.bl same))) (fun z => by cases z) fun _ H10 a10 => x_next (hnx2 _ _ _ _ ⟨_, _, _, _, _, _, _, _, _, rfl, rfl⟩ a10)
    obtain ⟨x8, x10, x11, x12, x13, x14, x15, x16, x17, rfl, rfl⟩ := hI
    -- site
    have pickS : ∀ {ρ : Ro} {μ : Mu}, ρ[1]? = some (some (.raw (.ref dk))) → ρ[7]? = some (some (.lst sites)) → Ev (Bd K dk l 64 (tupsOf H1) H1) (tCall (sp__law_pick2 K) [] C8.E0 (tCons (tVar 1) (tCons (tVar 7) tNil))) ρ μ (fun d => ∃ k : Nat, d = .int (k : Nat) ∧ k < ss.length ∧ ss.getD k [] ≠ []) := fun h1 h7 => ed_d h1 (ead_cons (ed_var h7) ea_nil) ⟨sites, .inl rfl, sitesN, by omega⟩ (by
      rintro e ⟨ds', e1, hm⟩
      rcases e1 with e1 | e1
      · cases e1; exact sitesE e hm
      · cases e1)
    have pickR : ∀ {ρ : Ro} {μ : Mu} {te : TE} {k : Nat}, ρ[1]? = some (some (.raw (.ref dk))) → k < ss.length → ss.getD k [] ≠ [] → Ed (Bd K dk l 64 (tupsOf H1) H1) te ρ μ (tS (ss.getD k [])) → Ev (Bd K dk l 64 (tupsOf H1) H1) (tCall (sp__law_pick2 K) [] C8.E0 (tCons (tVar 1) (tCons te tNil))) ρ μ (fun d => ∃ x : Str, d = .str x ∧ x ∈ ss.getD k [] ∧ NameS x) := fun {ρ μ te k} h1 hk hkn he => ed_d h1 (ead_cons he ea_nil) ⟨(ss.getD k []).map .str, .inr rfl, fun z => hkn (List.map_eq_nil_iff.mp z), by rw [List.length_map]; have := (hN _ (getD_in (z := []) hk)).2; omega⟩ (by
      rintro e ⟨ds', e1, hm⟩
      rcases e1 with e1 | e1
      · cases e1
      · cases e1
        obtain ⟨x, hx, rfl⟩ := List.mem_map.mp hm
        exact ⟨x, rfl, hx, (hN _ (getD_in (z := []) hk)).1.1 x hx⟩)
    refine y_setV (P := fun d => ∃ k : Nat, d = .int (k : Nat) ∧ k < ss.length ∧ ss.getD k [] ≠ []) a8 (pickS rfl rfl) fun d σ9 H9 hd a9 => ?_
    obtain ⟨k, rfl, hk, hkn⟩ := hd
    -- update
    refine y_setV (P := fun d => ∃ (x : Str) (u : List Int), d = updD k x u ∧ UpdOk ss rows k x u) a9 (ev_tup (Ps := fun ds => ∃ (x : Str) (u : List Int), ds = [.int (k : Nat), .str x, tI u] ∧ UpdOk ss rows k x u) (ea_cons (P := fun d => d = .int (k : Nat)) (ed_var rfl) fun d1 e1 => (ea_cons (P := fun d => ∃ x : Str, d = .str x ∧ x ∈ ss.getD k [] ∧ NameS x) (Ps := fun ds => ∃ (x : Str) (u : List Int), ds = [.str x, tI u] ∧ UpdOk ss rows k x u) (pickR rfl hk hkn (rowE hk rfl (ed_var rfl))) fun d2 ⟨x, e2, hx, hxn⟩ => (ea1P (P := fun d => ∃ u : List Int, d = tI u ∧ CntOk u) (ed_d rfl (ead_cons (ed_var rfl) (ead_cons (ed_var rfl) (ead_cons ed_int ea_nil))) ⟨_, _, _, rfl, by omega, nE _ (by omega), by decide, by decide⟩ cntP)).imp fun ds ⟨d3, e3, u, e4, hu'⟩ => ⟨x, u, by rw [e3, e2, e4], ⟨hk, by omega, hx, hxn, hu'⟩⟩).imp fun ds ⟨x, u, e, h⟩ => ⟨x, u, by rw [e, e1], h⟩) fun ds ⟨x, u, e, h⟩ => ⟨by rw [e]; show 3 ≤ sizeLine; decide, x, u, by rw [e]; rfl, h⟩) fun d σ10 H10 hd a10 => ?_
    obtain ⟨x, u, rfl, hU⟩ := hd
    obtain ⟨upt, uw, ud⟩ := hU.pt
    -- far
    refine y_setV (P := fun d => ∃ q : Nat, d = .int (q : Nat) ∧ q < ss.length + cs.length) a10 (ed_d rfl (ead_cons (many rfl) ea_nil) ⟨_, rfl, by omega, by omega⟩ (by rintro e ⟨n, r, e1, rfl, h1, h2⟩; cases e1; exact ⟨r.toNat, by congr 1; omega, by omega⟩)) fun d σ11 H11 hd a11 => ?_
    obtain ⟨far, rfl, hfar⟩ := hd
    have u1 : ∀ {ρ : Ro} {μ : Mu}, ρ[14]? = some (some (updD k x u)) → Ed (Bd K dk l 64 (tupsOf H1) H1) (tOp (rIx K) (tVar 14) (tC (.int 1))) ρ μ (.str x) := fun h => ed_op (d1 := updD k x u) (d2 := .int 1) (ed_var h) ed_int (rd_ixT rfl)
    have u2 : ∀ {ρ : Ro} {μ : Mu}, ρ[14]? = some (some (updD k x u)) → Ed (Bd K dk l 64 (tupsOf H1) H1) (tOp (rIx K) (tVar 14) (tC (.int 2))) ρ μ (tI u) := fun h => ed_op (d1 := updD k x u) (d2 := .int 2) (ed_var h) ed_int (rd_ixT rfl)
    have okx := ok_name hU.nm
    have okx2 : okD (.str x) = true ∧ wd (.str x) ≤ 200 := ⟨okx.1, by have := okx.2; omega⟩
    have uTk : Tk 200000 14 (updD k x u) := ⟨(cl_iff.mp (pt_cl upt)).1, by omega, by omega⟩
    -- some
    refine y_setV (P := fun d => ∃ ds, d = .lst ds ∧ (∀ d ∈ ds, Tk 200000 14 d) ∧ ds.length = 4) a11 (ev_lst (Ps := fun ds => (∀ d ∈ ds, Tk 200000 14 d) ∧ ds.length = 4) (ea_consQ (Ed.ev (ed_var rfl) uTk)
      (ea_consQ (Ed.ev (ed_tup (ead_cons (ed_var rfl) (ead_cons (u1 rfl) (ead_cons (u2 rfl) ea_nil))) (by show 3 ≤ sizeLine; decide)) (tk3 (by omega) okx2 (tk_cnt hU.cnt)))
      (ea_consQ (Ed.ev (ed_tup (ead_cons (ed_var rfl) (ead_cons (ed_op (u1 rfl) ed_str (rd_addS (szL (by have : x.length ≤ 10 := hU.nm.2.1; show x.length + 1 ≤ _; omega)))) (ead_cons (u2 rfl) ea_nil))) (by show 3 ≤ sizeLine; decide)) (tk3 (by omega) ⟨(cl_iff.mp (cl_str fun c hc => (app_mem hc).elim (fun z => by have := hU.nm.2.2 c z; omega) ((by decide +kernel : ∀ c ∈ ("q" : Str).cps.toList, c < 1114112) c))).1, by
          have : x.length ≤ 10 := hU.nm.2.1
          show 10 * (x ++ "q").length + 2 ≤ 200
          rw [strLen_append]; show 10 * (x.length + 1) + 2 ≤ 200; omega⟩ (tk_cnt hU.cnt)))
      (ea_consQ (ev_tup (Ps := fun ds => ∃ d, ds = [.int (k : Nat), .str x, d] ∧ Tk 20000 10 d) (ea_cons (P := fun d => d = .int (k : Nat)) (ed_var rfl) fun d1 e1 => (ea_cons (P := fun d => d = .str x) (Ps := fun ds => ∃ d, ds = [.str x, d] ∧ Tk 20000 10 d) (u1 rfl) fun d2 e2 => (ea1P (nearE rfl hU.cnt (u2 rfl))).imp fun ds ⟨d3, e3, h3⟩ => ⟨d3, by rw [e3, e2], h3⟩).imp fun ds ⟨d3, e3, h3⟩ => ⟨d3, by rw [e3, e1], h3⟩) fun ds ⟨d3, e3, h3⟩ => ⟨by rw [e3]; show 3 ≤ sizeLine; decide, by rw [e3]; exact tk3 (by omega) okx2 h3⟩) ea_nilQ)))) fun ds h => ⟨szL (by omega), ds, rfl, h⟩) fun d σ12 H12 hd a12 => ?_
    obtain ⟨ds1, rfl, t1, l1⟩ := hd
    have cutT : ∀ d : D, d = .tup (cutD [.int (k : Nat), .str x, tI u] none (some 2)) → Tk 200000 14 d := fun d e => by
      rw [e, cutD_take _ (by decide)]
      refine ⟨?_, ?_, by show max 0 (max 0 0) + 1 ≤ 14; decide⟩
      · show (okD (.int (k : Nat)) && (okD (.str x) && true)) = true
        rw [(fl_int (i := (k : Nat)) (by omega)).1, okx.1]; rfl
      · show 210 + 2 + (wd (.str x) + 2 + 0) + 3 ≤ _
        have := okx.2; omega
    refine y_setV (P := fun d => ∃ ds, d = .lst ds ∧ (∀ d ∈ ds, Tk 200000 14 d) ∧ ds.length = 9) a12 (ev_op (P1 := fun d => d = .lst ds1) (P2 := fun d => ∃ ds, d = .lst ds ∧ (∀ d ∈ ds, Tk 200000 14 d) ∧ ds.length = 5) (ed_var rfl) (ev_lst (Ps := fun ds => (∀ d ∈ ds, Tk 200000 14 d) ∧ ds.length = 5) (ea_consQ (ev_tup (Ps := fun ds => ∃ y : Str, ds = [.int (k : Nat), .str y, tI u] ∧ NameS y) (ea_cons (P := fun d => d = .int (k : Nat)) (ed_var rfl) fun d1 e1 => (ea_cons (P := fun d => ∃ y : Str, d = .str y ∧ NameS y) (Ps := fun ds => ∃ y : Str, ds = [.str y, tI u] ∧ NameS y) (ev_dN (Ps := fun es => ∃ q : Nat, es = [tS (ss.getD q [])] ∧ q < ss.length ∧ ss.getD q [] ≠ []) rfl ((ea1P (P := fun d => ∃ q : Nat, d = tS (ss.getD q []) ∧ q < ss.length ∧ ss.getD q [] ≠ []) (ev_op (P1 := fun d => d = .tup (ss.map tS)) (P2 := fun d => ∃ q : Nat, d = .int (q : Nat) ∧ q < ss.length ∧ ss.getD q [] ≠ []) (ed_op (d1 := plD ss cs) (d2 := .int 0) (ed_var rfl) ed_int (rd_ixT rfl)) (pickS rfl rfl) fun e1 e2 h1 ⟨q, h2, h3, h4⟩ => by
            subst h1; subst h2
            exact (rd_ixT (d := tS (ss.getD q [])) (atI_of2 (by omega) (by rw [show ((q : Int)).toNat = q by omega, List.getElem?_map, getD_at (z := []) h3]; rfl))).imp fun d hd => ⟨q, hd, h3, h4⟩)).imp fun es ⟨d, e1, q, e2, h⟩ => ⟨q, by rw [e1, e2], h⟩) (fun es ⟨q, e1, h1, h2⟩ => ⟨(ss.getD q []).map .str, .inr e1, fun z => h2 (List.map_eq_nil_iff.mp z), by rw [List.length_map]; have := (hN _ (getD_in (z := []) h1)).2; omega⟩) fun es e ⟨q, e1, h1, h2⟩ ⟨ds', e2, hm⟩ => by
              rw [e1] at e2
              rcases e2 with e2 | e2
              · cases e2
              · cases e2
                obtain ⟨y, hy, rfl⟩ := List.mem_map.mp hm
                exact ⟨y, rfl, (hN _ (getD_in (z := []) h1)).1.1 y hy⟩) fun d2 ⟨y, e2, hy⟩ => (ead_cons (u2 rfl) ea_nil).imp fun ds e3 => ⟨y, by rw [e3, e2], hy⟩).imp fun ds ⟨y, e, hy⟩ => ⟨y, by rw [e, e1], hy⟩) fun ds ⟨y, e, hy⟩ => ⟨by rw [e]; show 3 ≤ sizeLine; decide, by rw [e]; have := ok_name hy; exact tk3 (by omega) ⟨this.1, by have := this.2; omega⟩ (tk_cnt hU.cnt)⟩)
      (ea_consQ (Ed.ev (ed_op (d1 := updD k x u) (d2 := .tup [.int 0]) (ed_var rfl) (ed_tup (ead_cons ed_int ea_nil) (by show 1 ≤ _; decide)) (rd_addT (szL (by show 3 + 1 ≤ _; decide)))) (by
          obtain ⟨w1, d1⟩ := wd_tI hU.cnt.1
          have hok := (cl_iff.mp (pt_cl upt)).1
          refine ⟨?_, ?_, ?_⟩
          · show okA ([D.int (k : Nat), .str x, tI u] ++ [.int 0]) = true
            rw [okA_app, show okA [D.int (k : Nat), .str x, tI u] = true from hok]; rfl
          · show wdA ([D.int (k : Nat), .str x, tI u] ++ [.int 0]) + 3 ≤ _
            have : wdA [D.int (k : Nat), .str x, tI u] + 3 ≤ 11000 := uw
            rw [wdA_app]; show _ + (210 + 2 + 0) + 3 ≤ _; omega
          · show depA ([D.int (k : Nat), .str x, tI u] ++ [.int 0]) + 1 ≤ _
            have : depA [D.int (k : Nat), .str x, tI u] + 1 = 2 := ud
            rw [depA_app]; show max _ (max 0 0) + 1 ≤ _; omega))
      (ea_consQ (Ed.ev (ed_slT (ds := [.int (k : Nat), .str x, tI u]) (ed_var rfl) eo_none (eo_some ed_int)) (cutT _ rfl))
      (ea_consQ (Ed.ev (ed_lstT (ds := [.int (k : Nat), .str x, tI u]) (ed_var rfl)) (⟨uTk.ok, uTk.w, uTk.dp⟩ : Tk 200000 14 (.lst [.int (k : Nat), .str x, tI u])))
      (ea_consQ (Ed.ev ed_non ⟨rfl, by decide, by decide⟩) ea_nilQ))))) fun ds h => ⟨szL (by omega), ds, rfl, h⟩) fun d1 d2 e1 ⟨ds2, e2, h1, h2⟩ => by
        subst e1; subst e2
        exact (rd_addL (szL (by omega))).imp fun d hd => ⟨_, hd, fun z hz => (List.mem_append.mp hz).elim (t1 z) (h1 z), by rw [List.length_append]; omega⟩) fun d σ13 H13 hd a13 => ?_
    obtain ⟨ds3, rfl, t3, l3⟩ := hd
    refine y_setV (P := fun d => ∃ ds, d = .lst ds ∧ (∀ d ∈ ds, Tk 200000 14 d) ∧ ds.length = 13) a13 (ev_op (P1 := fun d => d = .lst ds3) (P2 := fun d => ∃ ds, d = .lst ds ∧ (∀ d ∈ ds, Tk 200000 14 d) ∧ ds.length = 4) (ed_var rfl) (ev_lc0 (n := 4) (ei_rng1 (i := 4) (ead_cons ed_int ea_nil) ⟨by decide, by decide⟩) (by decide) (by decide) (fun _ d => Tk 200000 14 d) (fun i hi cl => ev_d (Ps := fun es => ∃ q : Int, es = [updD k x u, .int q]) (ea_deck rfl (ea_cons (P := fun d => d = updD k x u) (ed_var rfl) fun d1 e1 => (ea1P (P := isIntD) (ed_d rfl (ead_cons ed_int ea_nil) ⟨_, rfl, by decide, by decide⟩ (by rintro e ⟨n, r, e1, rfl, _⟩; exact ⟨_, rfl⟩))).imp fun ds ⟨d2, e2, q, e3⟩ => ⟨q, by rw [e2, e1, e3]⟩)) (fun es ⟨q, e1⟩ => ⟨_, q, e1, upt, by omega, by omega, by omega⟩) fun es e ⟨q, e1⟩ ⟨d', q', e2, h⟩ => by
          rw [e1] at e2
          cases e2
          exact (Tk.th h).mono (by omega) (by omega)) fun ds h1 h2 => ⟨ds, rfl, fun t ht => by
        obtain ⟨i, hi⟩ := List.mem_iff_getElem?.mp ht
        exact h2 i t hi, h1⟩) fun d1 d2 e1 ⟨ds2, e2, h1, h2⟩ => by
        subst e1; subst e2
        exact (rd_addL (szL (by omega))).imp fun d hd => ⟨_, hd, fun z hz => (List.mem_append.mp hz).elim (t3 z) (h1 z), by rw [List.length_append]; omega⟩) fun d σ14 H14 hd a14 => ?_
    obtain ⟨ds4, rfl, t4, l4⟩ := hd
    refine x_forG (js := [10, 11]) (ρf := fun t ρ => (ρ.set 10 (some (.int (t : Nat)))).set 11 (some (ds4.getD t .non))) a14 (ei_enumL (ead_cons (ed_var rfl) ea_nil)) (fun t ρ μ => ∃ x10 x11 x13 x17 : Option D, ρ = [none, some (.raw (.ref dk)), some (.int (turn : Nat)), some (plD ss cs), some (worldD ss cs), some (planD rows), some (.int (p : Nat)), some (.lst sites), some (.int (k : Nat)), some (tI v), x10, x11, x12, x13, some (updD k x u), some (.int (far : Nat)), some (.lst ds4), x17] ∧ μ = []) ⟨_, _, _, _, rfl, rfl⟩ (fun t ρ' μ' ht hI => gd_tup2) (fun t ρ' μ' τ3 σ15 H15 Dn3 ht hI a15 hnx3 => ?_) fun ρ' μ' σ15 H15 hI a15 => ?_
    · obtain ⟨x10, x11, x13, x17, rfl, rfl⟩ := hI
      have htk := t4 _ (getD_in (z := D.non) ht)
      generalize ds4.getD t .non = thing at a15 htk
      have hsm : Sm thing := sm_of htk.ok (Nat.le_trans htk.w (by decide))
      refine y_set (d := .str (py thing).shown) a15 (rp_tk htk (by decide) (by decide) (ed_var rfl)) fun σ16 H16 a16 => ?_
      have post : ∀ e : D, (∃ ss' cs' rows' d, ([plD ss cs, planD rows, thing] : List D) = [plD ss' cs', planD rows', d] ∧ e = .bl (updB ss' rows' d)) → e = .bl (updB ss rows thing) := by
        rintro e ⟨ss', cs', rows', d, e1, rfl⟩
        obtain ⟨rfl, _, rfl, rfl⟩ := upd_inj e1
        rfl
      have pre : ∃ ss' cs' rows' d, ([plD ss cs, planD rows, thing] : List D) = [plD ss' cs', planD rows', d] ∧ PlOk ss' cs' ∧ PlL ss' cs' ∧ ss'.length + cs'.length ≤ 7 ∧ PlanOk ss' cs' rows' ∧ Sm d := ⟨ss, cs, rows, thing, rfl, hO, hL, by omega, hP, hsm⟩
      refine y_set (d := .bl (updB ss rows thing)) a16 (ed_if (b := decide ((0 : Int) < (t : Int))) (eb_test (ed_op (ed_var rfl) ed_int rd_gt)) (fun _ => ed_p (ead_cons (ed_var rfl) (ead_cons (ed_var rfl) (ead_cons (ed_var rfl) ea_nil))) pre post) fun _ => ed_pwR (ds := [plD ss cs, planD rows, thing]) (fun _ => rfl) (ead_cons (ed_var rfl) (ead_cons (ed_var rfl) (ead_cons (ed_var rfl) ea_nil))) rfl pre post) fun σ17 H17 a17 => ?_
      refine x_ifb (b := false || false) a17 (eb_or (eb_test (Ed.is (ed_op (rp_tk (tk_bl _) (by decide) (by decide) (ed_var rfl)) (rp_tk (tk_bl _) (by decide) (by decide) (ed_p (d := .bl (updB ss rows thing)) (ead_cons (ed_var rfl) (ead_cons (ed_var rfl) (ead_cons (ed_var rfl) ea_nil))) ⟨_, _, _, _, rfl, hL, by omega, hsm⟩ (by
        rintro e ⟨ss', cs', rows', d, e1, rfl⟩
        injection e1 with e1 e2
        injection e2 with e2 e3
        injection e3 with e3 _
        rw [(world_inj e1).1, planD_inj e2, e3]))) rd_neS) (congrArg D.bl same))) fun _ => eb_test (Ed.is (ed_op (rp_tk htk (by decide) (by decide) (ed_var rfl)) (ed_var rfl) rd_neS) (congrArg D.bl same))) (fun z => by cases z) fun _ H18 a18 => x_next (hnx3 _ _ _ _ ⟨_, _, _, _, rfl, rfl⟩ a18)
    · obtain ⟨x10, x11, x13, x17, rfl, rfl⟩ := hI
      exact hnx _ _ _ _ ⟨_, _, _, _, _, _, _, _, _, _, _, _, _, _, _, _, rfl, rfl⟩ a15
  · obtain ⟨x2, x3, x4, x5, x6, x7, x8, x9, x10, x11, x12, x13, x14, x15, x16, x17, rfl, rfl⟩ := hI
    exact x_ret a2 ed_bl fun v H3 d hd a3 => by
      subst hd
      obtain ⟨G, g, hv⟩ := a3.top
      exact hv
end
end Cal


namespace Cal
open PySem PySem.Spec PyProof.Rows L2
section
abbrev BA : List Str := ["all", "bool", "dict", "enumerate", "int", "isinstance", "len", "list", "max", "min", "range", "repr", "set", "sorted", "str", "tuple", "zip"]
theorem all_mk {P : Program} {w : World} {K : PySem.W.Frag} {h : Heap} {mg : Str → Option Value} {fa : Addr} (X : K.In h) (G : h.Ns mainGlobals mg) (hfa : mg "law" = some (.ref fa))
    {f0 : Addr} {od0 an0 : Option Addr} {sl0 : Array (Option Value)} {oc0 kV0 dc0 pm0 cd0 ct0 : Value}
    (a0 : PySem.W.nsIn K mainGlobals "_law_deck" = some (some (.ref f0))) (l0 : K.lookup f0 = some ⟨oc0, od0, .func (PySem.W.fnOf "_law_deck" "_law_deck" (defArgs s__law_deck) (defBody s__law_deck) (defScope s__law_deck) .none kV0 dc0 pm0 an0 cd0 ct0), sl0⟩) (c0 : PySem.W.codeIn K cd0 "_law_deck" = true) (k0 : PySem.W.keepIn K (.ref f0) = true)
    {f1 : Addr} {od1 an1 : Option Addr} {sl1 : Array (Option Value)} {oc1 kV1 dc1 pm1 cd1 ct1 : Value}
    (a1 : PySem.W.nsIn K mainGlobals "_law_draw" = some (some (.ref f1))) (l1 : K.lookup f1 = some ⟨oc1, od1, .func (PySem.W.fnOf "_law_draw" "_law_draw" (defArgs s__law_draw) (defBody s__law_draw) (defScope s__law_draw) .none kV1 dc1 pm1 an1 cd1 ct1), sl1⟩) (c1 : PySem.W.codeIn K cd1 "_law_draw" = true) (k1 : PySem.W.keepIn K (.ref f1) = true)
    {f2 : Addr} {od2 an2 : Option Addr} {sl2 : Array (Option Value)} {oc2 kV2 dc2 pm2 cd2 ct2 : Value}
    (a2 : PySem.W.nsIn K mainGlobals "_law_pick" = some (some (.ref f2))) (l2 : K.lookup f2 = some ⟨oc2, od2, .func (PySem.W.fnOf "_law_pick" "_law_pick" (defArgs s__law_pick) (defBody s__law_pick) (defScope s__law_pick) .none kV2 dc2 pm2 an2 cd2 ct2), sl2⟩) (c2 : PySem.W.codeIn K cd2 "_law_pick" = true) (k2 : PySem.W.keepIn K (.ref f2) = true)
    {f3 : Addr} {od3 an3 : Option Addr} {sl3 : Array (Option Value)} {oc3 kV3 dc3 pm3 cd3 ct3 : Value}
    (a3 : PySem.W.nsIn K mainGlobals "_law_names" = some (some (.ref f3))) (l3 : K.lookup f3 = some ⟨oc3, od3, .func (PySem.W.fnOf "_law_names" "_law_names" (defArgs s__law_names) (defBody s__law_names) (defScope s__law_names) .none kV3 dc3 pm3 an3 cd3 ct3), sl3⟩) (c3 : PySem.W.codeIn K cd3 "_law_names" = true) (k3 : PySem.W.keepIn K (.ref f3) = true)
    {f4 : Addr} {od4 an4 : Option Addr} {sl4 : Array (Option Value)} {oc4 kV4 dc4 pm4 cd4 ct4 : Value}
    (a4 : PySem.W.nsIn K mainGlobals "_law_some" = some (some (.ref f4))) (l4 : K.lookup f4 = some ⟨oc4, od4, .func (PySem.W.fnOf "_law_some" "_law_some" (defArgs s__law_some) (defBody s__law_some) (defScope s__law_some) .none kV4 dc4 pm4 an4 cd4 ct4), sl4⟩) (c4 : PySem.W.codeIn K cd4 "_law_some" = true) (k4 : PySem.W.keepIn K (.ref f4) = true)
    {f5 : Addr} {od5 an5 : Option Addr} {sl5 : Array (Option Value)} {oc5 kV5 dc5 pm5 cd5 ct5 : Value}
    (a5 : PySem.W.nsIn K mainGlobals "_law_ring" = some (some (.ref f5))) (l5 : K.lookup f5 = some ⟨oc5, od5, .func (PySem.W.fnOf "_law_ring" "_law_ring" (defArgs s__law_ring) (defBody s__law_ring) (defScope s__law_ring) .none kV5 dc5 pm5 an5 cd5 ct5), sl5⟩) (c5 : PySem.W.codeIn K cd5 "_law_ring" = true) (k5 : PySem.W.keepIn K (.ref f5) = true)
    {f6 : Addr} {od6 an6 : Option Addr} {sl6 : Array (Option Value)} {oc6 kV6 dc6 pm6 cd6 ct6 : Value}
    (a6 : PySem.W.nsIn K mainGlobals "_law_tree" = some (some (.ref f6))) (l6 : K.lookup f6 = some ⟨oc6, od6, .func (PySem.W.fnOf "_law_tree" "_law_tree" (defArgs s__law_tree) (defBody s__law_tree) (defScope s__law_tree) .none kV6 dc6 pm6 an6 cd6 ct6), sl6⟩) (c6 : PySem.W.codeIn K cd6 "_law_tree" = true) (k6 : PySem.W.keepIn K (.ref f6) = true)
    {f7 : Addr} {od7 an7 : Option Addr} {sl7 : Array (Option Value)} {oc7 kV7 dc7 pm7 cd7 ct7 : Value}
    (a7 : PySem.W.nsIn K mainGlobals "_law_placement" = some (some (.ref f7))) (l7 : K.lookup f7 = some ⟨oc7, od7, .func (PySem.W.fnOf "_law_placement" "_law_placement" (defArgs s__law_placement) (defBody s__law_placement) (defScope s__law_placement) .none kV7 dc7 pm7 an7 cd7 ct7), sl7⟩) (c7 : PySem.W.codeIn K cd7 "_law_placement" = true) (k7 : PySem.W.keepIn K (.ref f7) = true)
    {f8 : Addr} {od8 an8 : Option Addr} {sl8 : Array (Option Value)} {oc8 kV8 dc8 pm8 cd8 ct8 : Value}
    (a8 : PySem.W.nsIn K mainGlobals "_law_drawn" = some (some (.ref f8))) (l8 : K.lookup f8 = some ⟨oc8, od8, .func (PySem.W.fnOf "_law_drawn" "_law_drawn" (defArgs s__law_drawn) (defBody s__law_drawn) (defScope s__law_drawn) .none kV8 dc8 pm8 an8 cd8 ct8), sl8⟩) (c8 : PySem.W.codeIn K cd8 "_law_drawn" = true) (k8 : PySem.W.keepIn K (.ref f8) = true)
    {f9 : Addr} {od9 an9 : Option Addr} {sl9 : Array (Option Value)} {oc9 kV9 dc9 pm9 cd9 ct9 : Value}
    (a9 : PySem.W.nsIn K mainGlobals "_law_map" = some (some (.ref f9))) (l9 : K.lookup f9 = some ⟨oc9, od9, .func (PySem.W.fnOf "_law_map" "_law_map" (defArgs s__law_map) (defBody s__law_map) (defScope s__law_map) .none kV9 dc9 pm9 an9 cd9 ct9), sl9⟩) (c9 : PySem.W.codeIn K cd9 "_law_map" = true) (k9 : PySem.W.keepIn K (.ref f9) = true)
    {f10 : Addr} {od10 an10 : Option Addr} {sl10 : Array (Option Value)} {oc10 kV10 dc10 pm10 cd10 ct10 : Value}
    (a10 : PySem.W.nsIn K mainGlobals "_law_edges" = some (some (.ref f10))) (l10 : K.lookup f10 = some ⟨oc10, od10, .func (PySem.W.fnOf "_law_edges" "_law_edges" (defArgs s__law_edges) (defBody s__law_edges) (defScope s__law_edges) .none kV10 dc10 pm10 an10 cd10 ct10), sl10⟩) (c10 : PySem.W.codeIn K cd10 "_law_edges" = true) (k10 : PySem.W.keepIn K (.ref f10) = true)
    {f11 : Addr} {od11 an11 : Option Addr} {sl11 : Array (Option Value)} {oc11 kV11 dc11 pm11 cd11 ct11 : Value}
    (a11 : PySem.W.nsIn K mainGlobals "_law_plan" = some (some (.ref f11))) (l11 : K.lookup f11 = some ⟨oc11, od11, .func (PySem.W.fnOf "_law_plan" "_law_plan" (defArgs s__law_plan) (defBody s__law_plan) (defScope s__law_plan) .none kV11 dc11 pm11 an11 cd11 ct11), sl11⟩) (c11 : PySem.W.codeIn K cd11 "_law_plan" = true) (k11 : PySem.W.keepIn K (.ref f11) = true)
    {f12 : Addr} {od12 an12 : Option Addr} {sl12 : Array (Option Value)} {oc12 kV12 dc12 pm12 cd12 ct12 : Value}
    (a12 : PySem.W.nsIn K mainGlobals "_law_any_counts" = some (some (.ref f12))) (l12 : K.lookup f12 = some ⟨oc12, od12, .func (PySem.W.fnOf "_law_any_counts" "_law_any_counts" (defArgs s__law_any_counts) (defBody s__law_any_counts) (defScope s__law_any_counts) .none kV12 dc12 pm12 an12 cd12 ct12), sl12⟩) (c12 : PySem.W.codeIn K cd12 "_law_any_counts" = true) (k12 : PySem.W.keepIn K (.ref f12) = true)
    {f13 : Addr} {od13 an13 : Option Addr} {sl13 : Array (Option Value)} {oc13 kV13 dc13 pm13 cd13 ct13 : Value}
    (a13 : PySem.W.nsIn K mainGlobals "_law_near_counts" = some (some (.ref f13))) (l13 : K.lookup f13 = some ⟨oc13, od13, .func (PySem.W.fnOf "_law_near_counts" "_law_near_counts" (defArgs s__law_near_counts) (defBody s__law_near_counts) (defScope s__law_near_counts) .none kV13 dc13 pm13 an13 cd13 ct13), sl13⟩) (c13 : PySem.W.codeIn K cd13 "_law_near_counts" = true) (k13 : PySem.W.keepIn K (.ref f13) = true)
    {f14 : Addr} {od14 an14 : Option Addr} {sl14 : Array (Option Value)} {oc14 kV14 dc14 pm14 cd14 ct14 : Value}
    (a14 : PySem.W.nsIn K mainGlobals "_law_leaf" = some (some (.ref f14))) (l14 : K.lookup f14 = some ⟨oc14, od14, .func (PySem.W.fnOf "_law_leaf" "_law_leaf" (defArgs s__law_leaf) (defBody s__law_leaf) (defScope s__law_leaf) .none kV14 dc14 pm14 an14 cd14 ct14), sl14⟩) (c14 : PySem.W.codeIn K cd14 "_law_leaf" = true) (k14 : PySem.W.keepIn K (.ref f14) = true)
    {f15 : Addr} {od15 an15 : Option Addr} {sl15 : Array (Option Value)} {oc15 kV15 dc15 pm15 cd15 ct15 : Value}
    (a15 : PySem.W.nsIn K mainGlobals "_law_bent" = some (some (.ref f15))) (l15 : K.lookup f15 = some ⟨oc15, od15, .func (PySem.W.fnOf "_law_bent" "_law_bent" (defArgs s__law_bent) (defBody s__law_bent) (defScope s__law_bent) .none kV15 dc15 pm15 an15 cd15 ct15), sl15⟩) (c15 : PySem.W.codeIn K cd15 "_law_bent" = true) (k15 : PySem.W.keepIn K (.ref f15) = true)
    {f16 : Addr} {od16 an16 : Option Addr} {sl16 : Array (Option Value)} {oc16 kV16 dc16 pm16 cd16 ct16 : Value}
    (a16 : PySem.W.nsIn K mainGlobals "_law_is_tuple" = some (some (.ref f16))) (l16 : K.lookup f16 = some ⟨oc16, od16, .func (PySem.W.fnOf "_law_is_tuple" "_law_is_tuple" (defArgs s__law_is_tuple) (defBody s__law_is_tuple) (defScope s__law_is_tuple) .none kV16 dc16 pm16 an16 cd16 ct16), sl16⟩) (c16 : PySem.W.codeIn K cd16 "_law_is_tuple" = true) (k16 : PySem.W.keepIn K (.ref f16) = true)
    {f17 : Addr} {od17 an17 : Option Addr} {sl17 : Array (Option Value)} {oc17 kV17 dc17 pm17 cd17 ct17 : Value}
    (a17 : PySem.W.nsIn K mainGlobals "_law_is_int" = some (some (.ref f17))) (l17 : K.lookup f17 = some ⟨oc17, od17, .func (PySem.W.fnOf "_law_is_int" "_law_is_int" (defArgs s__law_is_int) (defBody s__law_is_int) (defScope s__law_is_int) .none kV17 dc17 pm17 an17 cd17 ct17), sl17⟩) (c17 : PySem.W.codeIn K cd17 "_law_is_int" = true) (k17 : PySem.W.keepIn K (.ref f17) = true)
    {f18 : Addr} {od18 an18 : Option Addr} {sl18 : Array (Option Value)} {oc18 kV18 dc18 pm18 cd18 ct18 : Value}
    (a18 : PySem.W.nsIn K mainGlobals "_law_are_counts" = some (some (.ref f18))) (l18 : K.lookup f18 = some ⟨oc18, od18, .func (PySem.W.fnOf "_law_are_counts" "_law_are_counts" (defArgs s__law_are_counts) (defBody s__law_are_counts) (defScope s__law_are_counts) .none kV18 dc18 pm18 an18 cd18 ct18), sl18⟩) (c18 : PySem.W.codeIn K cd18 "_law_are_counts" = true) (k18 : PySem.W.keepIn K (.ref f18) = true)
    {f19 : Addr} {od19 an19 : Option Addr} {sl19 : Array (Option Value)} {oc19 kV19 dc19 pm19 cd19 ct19 : Value}
    (a19 : PySem.W.nsIn K mainGlobals "_law_is_update" = some (some (.ref f19))) (l19 : K.lookup f19 = some ⟨oc19, od19, .func (PySem.W.fnOf "_law_is_update" "_law_is_update" (defArgs s__law_is_update) (defBody s__law_is_update) (defScope s__law_is_update) .none kV19 dc19 pm19 an19 cd19 ct19), sl19⟩) (c19 : PySem.W.codeIn K cd19 "_law_is_update" = true) (k19 : PySem.W.keepIn K (.ref f19) = true)
    {f20 : Addr} {od20 an20 : Option Addr} {sl20 : Array (Option Value)} {oc20 kV20 dc20 pm20 cd20 ct20 : Value}
    (a20 : PySem.W.nsIn K mainGlobals "is_tuple_of" = some (some (.ref f20))) (l20 : K.lookup f20 = some ⟨oc20, od20, .func (PySem.W.fnOf "is_tuple_of" "is_tuple_of" (defArgs s_is_tuple_of) (defBody s_is_tuple_of) (defScope s_is_tuple_of) .none kV20 dc20 pm20 an20 cd20 ct20), sl20⟩) (c20 : PySem.W.codeIn K cd20 "is_tuple_of" = true) (k20 : PySem.W.keepIn K (.ref f20) = true)
    {f21 : Addr} {od21 an21 : Option Addr} {sl21 : Array (Option Value)} {oc21 kV21 dc21 pm21 cd21 ct21 : Value}
    (a21 : PySem.W.nsIn K mainGlobals "is_name" = some (some (.ref f21))) (l21 : K.lookup f21 = some ⟨oc21, od21, .func (PySem.W.fnOf "is_name" "is_name" (defArgs s_is_name) (defBody s_is_name) (defScope s_is_name) .none kV21 dc21 pm21 an21 cd21 ct21), sl21⟩) (c21 : PySem.W.codeIn K cd21 "is_name" = true) (k21 : PySem.W.keepIn K (.ref f21) = true)
    {f22 : Addr} {od22 an22 : Option Addr} {sl22 : Array (Option Value)} {oc22 kV22 dc22 pm22 cd22 ct22 : Value}
    (a22 : PySem.W.nsIn K mainGlobals "is_ascending" = some (some (.ref f22))) (l22 : K.lookup f22 = some ⟨oc22, od22, .func (PySem.W.fnOf "is_ascending" "is_ascending" (defArgs s_is_ascending) (defBody s_is_ascending) (defScope s_is_ascending) .none kV22 dc22 pm22 an22 cd22 ct22), sl22⟩) (c22 : PySem.W.codeIn K cd22 "is_ascending" = true) (k22 : PySem.W.keepIn K (.ref f22) = true)
    {f23 : Addr} {od23 an23 : Option Addr} {sl23 : Array (Option Value)} {oc23 kV23 dc23 pm23 cd23 ct23 : Value}
    (a23 : PySem.W.nsIn K mainGlobals "are_names_ascending" = some (some (.ref f23))) (l23 : K.lookup f23 = some ⟨oc23, od23, .func (PySem.W.fnOf "are_names_ascending" "are_names_ascending" (defArgs s_are_names_ascending) (defBody s_are_names_ascending) (defScope s_are_names_ascending) .none kV23 dc23 pm23 an23 cd23 ct23), sl23⟩) (c23 : PySem.W.codeIn K cd23 "are_names_ascending" = true) (k23 : PySem.W.keepIn K (.ref f23) = true)
    {f24 : Addr} {od24 an24 : Option Addr} {sl24 : Array (Option Value)} {oc24 kV24 dc24 pm24 cd24 ct24 : Value}
    (a24 : PySem.W.nsIn K mainGlobals "is_integer" = some (some (.ref f24))) (l24 : K.lookup f24 = some ⟨oc24, od24, .func (PySem.W.fnOf "is_integer" "is_integer" (defArgs s_is_integer) (defBody s_is_integer) (defScope s_is_integer) .none kV24 dc24 pm24 an24 cd24 ct24), sl24⟩) (c24 : PySem.W.codeIn K cd24 "is_integer" = true) (k24 : PySem.W.keepIn K (.ref f24) = true)
    {f25 : Addr} {od25 an25 : Option Addr} {sl25 : Array (Option Value)} {oc25 kV25 dc25 pm25 cd25 ct25 : Value}
    (a25 : PySem.W.nsIn K mainGlobals "is_below" = some (some (.ref f25))) (l25 : K.lookup f25 = some ⟨oc25, od25, .func (PySem.W.fnOf "is_below" "is_below" (defArgs s_is_below) (defBody s_is_below) (defScope s_is_below) .none kV25 dc25 pm25 an25 cd25 ct25), sl25⟩) (c25 : PySem.W.codeIn K cd25 "is_below" = true) (k25 : PySem.W.keepIn K (.ref f25) = true)
    {f26 : Addr} {od26 an26 : Option Addr} {sl26 : Array (Option Value)} {oc26 kV26 dc26 pm26 cd26 ct26 : Value}
    (a26 : PySem.W.nsIn K mainGlobals "are_below" = some (some (.ref f26))) (l26 : K.lookup f26 = some ⟨oc26, od26, .func (PySem.W.fnOf "are_below" "are_below" (defArgs s_are_below) (defBody s_are_below) (defScope s_are_below) .none kV26 dc26 pm26 an26 cd26 ct26), sl26⟩) (c26 : PySem.W.codeIn K cd26 "are_below" = true) (k26 : PySem.W.keepIn K (.ref f26) = true)
    {f27 : Addr} {od27 an27 : Option Addr} {sl27 : Array (Option Value)} {oc27 kV27 dc27 pm27 cd27 ct27 : Value}
    (a27 : PySem.W.nsIn K mainGlobals "are_below_ascending" = some (some (.ref f27))) (l27 : K.lookup f27 = some ⟨oc27, od27, .func (PySem.W.fnOf "are_below_ascending" "are_below_ascending" (defArgs s_are_below_ascending) (defBody s_are_below_ascending) (defScope s_are_below_ascending) .none kV27 dc27 pm27 an27 cd27 ct27), sl27⟩) (c27 : PySem.W.codeIn K cd27 "are_below_ascending" = true) (k27 : PySem.W.keepIn K (.ref f27) = true)
    {f28 : Addr} {od28 an28 : Option Addr} {sl28 : Array (Option Value)} {oc28 kV28 dc28 pm28 cd28 ct28 : Value}
    (a28 : PySem.W.nsIn K mainGlobals "are_clients" = some (some (.ref f28))) (l28 : K.lookup f28 = some ⟨oc28, od28, .func (PySem.W.fnOf "are_clients" "are_clients" (defArgs s_are_clients) (defBody s_are_clients) (defScope s_are_clients) .none kV28 dc28 pm28 an28 cd28 ct28), sl28⟩) (c28 : PySem.W.codeIn K cd28 "are_clients" = true) (k28 : PySem.W.keepIn K (.ref f28) = true)
    {f29 : Addr} {od29 an29 : Option Addr} {sl29 : Array (Option Value)} {oc29 kV29 dc29 pm29 cd29 ct29 : Value}
    (a29 : PySem.W.nsIn K mainGlobals "is_placement" = some (some (.ref f29))) (l29 : K.lookup f29 = some ⟨oc29, od29, .func (PySem.W.fnOf "is_placement" "is_placement" (defArgs s_is_placement) (defBody s_is_placement) (defScope s_is_placement) .none kV29 dc29 pm29 an29 cd29 ct29), sl29⟩) (c29 : PySem.W.codeIn K cd29 "is_placement" = true) (k29 : PySem.W.keepIn K (.ref f29) = true)
    {f30 : Addr} {od30 an30 : Option Addr} {sl30 : Array (Option Value)} {oc30 kV30 dc30 pm30 cd30 ct30 : Value}
    (a30 : PySem.W.nsIn K mainGlobals "check_placement" = some (some (.ref f30))) (l30 : K.lookup f30 = some ⟨oc30, od30, .func (PySem.W.fnOf "check_placement" "check_placement" (defArgs s_check_placement) (defBody s_check_placement) (defScope s_check_placement) .none kV30 dc30 pm30 an30 cd30 ct30), sl30⟩) (c30 : PySem.W.codeIn K cd30 "check_placement" = true) (k30 : PySem.W.keepIn K (.ref f30) = true)
    {f31 : Addr} {od31 an31 : Option Addr} {sl31 : Array (Option Value)} {oc31 kV31 dc31 pm31 cd31 ct31 : Value}
    (a31 : PySem.W.nsIn K mainGlobals "count_places" = some (some (.ref f31))) (l31 : K.lookup f31 = some ⟨oc31, od31, .func (PySem.W.fnOf "count_places" "count_places" (defArgs s_count_places) (defBody s_count_places) (defScope s_count_places) .none kV31 dc31 pm31 an31 cd31 ct31), sl31⟩) (c31 : PySem.W.codeIn K cd31 "count_places" = true) (k31 : PySem.W.keepIn K (.ref f31) = true)
    {f32 : Addr} {od32 an32 : Option Addr} {sl32 : Array (Option Value)} {oc32 kV32 dc32 pm32 cd32 ct32 : Value}
    (a32 : PySem.W.nsIn K mainGlobals "is_site" = some (some (.ref f32))) (l32 : K.lookup f32 = some ⟨oc32, od32, .func (PySem.W.fnOf "is_site" "is_site" (defArgs s_is_site) (defBody s_is_site) (defScope s_is_site) .none kV32 dc32 pm32 an32 cd32 ct32), sl32⟩) (c32 : PySem.W.codeIn K cd32 "is_site" = true) (k32 : PySem.W.keepIn K (.ref f32) = true)
    {f33 : Addr} {od33 an33 : Option Addr} {sl33 : Array (Option Value)} {oc33 kV33 dc33 pm33 cd33 ct33 : Value}
    (a33 : PySem.W.nsIn K mainGlobals "kept_at" = some (some (.ref f33))) (l33 : K.lookup f33 = some ⟨oc33, od33, .func (PySem.W.fnOf "kept_at" "kept_at" (defArgs s_kept_at) (defBody s_kept_at) (defScope s_kept_at) .none kV33 dc33 pm33 an33 cd33 ct33), sl33⟩) (c33 : PySem.W.codeIn K cd33 "kept_at" = true) (k33 : PySem.W.keepIn K (.ref f33) = true)
    {f34 : Addr} {od34 an34 : Option Addr} {sl34 : Array (Option Value)} {oc34 kV34 dc34 pm34 cd34 ct34 : Value}
    (a34 : PySem.W.nsIn K mainGlobals "shared_by" = some (some (.ref f34))) (l34 : K.lookup f34 = some ⟨oc34, od34, .func (PySem.W.fnOf "shared_by" "shared_by" (defArgs s_shared_by) (defBody s_shared_by) (defScope s_shared_by) .none kV34 dc34 pm34 an34 cd34 ct34), sl34⟩) (c34 : PySem.W.codeIn K cd34 "shared_by" = true) (k34 : PySem.W.keepIn K (.ref f34) = true)
    {f35 : Addr} {od35 an35 : Option Addr} {sl35 : Array (Option Value)} {oc35 kV35 dc35 pm35 cd35 ct35 : Value}
    (a35 : PySem.W.nsIn K mainGlobals "is_edge" = some (some (.ref f35))) (l35 : K.lookup f35 = some ⟨oc35, od35, .func (PySem.W.fnOf "is_edge" "is_edge" (defArgs s_is_edge) (defBody s_is_edge) (defScope s_is_edge) .none kV35 dc35 pm35 an35 cd35 ct35), sl35⟩) (c35 : PySem.W.codeIn K cd35 "is_edge" = true) (k35 : PySem.W.keepIn K (.ref f35) = true)
    {f36 : Addr} {od36 an36 : Option Addr} {sl36 : Array (Option Value)} {oc36 kV36 dc36 pm36 cd36 ct36 : Value}
    (a36 : PySem.W.nsIn K mainGlobals "are_edges" = some (some (.ref f36))) (l36 : K.lookup f36 = some ⟨oc36, od36, .func (PySem.W.fnOf "are_edges" "are_edges" (defArgs s_are_edges) (defBody s_are_edges) (defScope s_are_edges) .none kV36 dc36 pm36 an36 cd36 ct36), sl36⟩) (c36 : PySem.W.codeIn K cd36 "are_edges" = true) (k36 : PySem.W.keepIn K (.ref f36) = true)
    {f37 : Addr} {od37 an37 : Option Addr} {sl37 : Array (Option Value)} {oc37 kV37 dc37 pm37 cd37 ct37 : Value}
    (a37 : PySem.W.nsIn K mainGlobals "all_edges" = some (some (.ref f37))) (l37 : K.lookup f37 = some ⟨oc37, od37, .func (PySem.W.fnOf "all_edges" "all_edges" (defArgs s_all_edges) (defBody s_all_edges) (defScope s_all_edges) .none kV37 dc37 pm37 an37 cd37 ct37), sl37⟩) (c37 : PySem.W.codeIn K cd37 "all_edges" = true) (k37 : PySem.W.keepIn K (.ref f37) = true)
    {f38 : Addr} {od38 an38 : Option Addr} {sl38 : Array (Option Value)} {oc38 kV38 dc38 pm38 cd38 ct38 : Value}
    (a38 : PySem.W.nsIn K mainGlobals "is_plan" = some (some (.ref f38))) (l38 : K.lookup f38 = some ⟨oc38, od38, .func (PySem.W.fnOf "is_plan" "is_plan" (defArgs s_is_plan) (defBody s_is_plan) (defScope s_is_plan) .none kV38 dc38 pm38 an38 cd38 ct38), sl38⟩) (c38 : PySem.W.codeIn K cd38 "is_plan" = true) (k38 : PySem.W.keepIn K (.ref f38) = true)
    {f39 : Addr} {od39 an39 : Option Addr} {sl39 : Array (Option Value)} {oc39 kV39 dc39 pm39 cd39 ct39 : Value}
    (a39 : PySem.W.nsIn K mainGlobals "check_plan" = some (some (.ref f39))) (l39 : K.lookup f39 = some ⟨oc39, od39, .func (PySem.W.fnOf "check_plan" "check_plan" (defArgs s_check_plan) (defBody s_check_plan) (defScope s_check_plan) .none kV39 dc39 pm39 an39 cd39 ct39), sl39⟩) (c39 : PySem.W.codeIn K cd39 "check_plan" = true) (k39 : PySem.W.keepIn K (.ref f39) = true)
    {f40 : Addr} {od40 an40 : Option Addr} {sl40 : Array (Option Value)} {oc40 kV40 dc40 pm40 cd40 ct40 : Value}
    (a40 : PySem.W.nsIn K mainGlobals "is_place" = some (some (.ref f40))) (l40 : K.lookup f40 = some ⟨oc40, od40, .func (PySem.W.fnOf "is_place" "is_place" (defArgs s_is_place) (defBody s_is_place) (defScope s_is_place) .none kV40 dc40 pm40 an40 cd40 ct40), sl40⟩) (c40 : PySem.W.codeIn K cd40 "is_place" = true) (k40 : PySem.W.keepIn K (.ref f40) = true)
    {f41 : Addr} {od41 an41 : Option Addr} {sl41 : Array (Option Value)} {oc41 kV41 dc41 pm41 cd41 ct41 : Value}
    (a41 : PySem.W.nsIn K mainGlobals "check_place" = some (some (.ref f41))) (l41 : K.lookup f41 = some ⟨oc41, od41, .func (PySem.W.fnOf "check_place" "check_place" (defArgs s_check_place) (defBody s_check_place) (defScope s_check_place) .none kV41 dc41 pm41 an41 cd41 ct41), sl41⟩) (c41 : PySem.W.codeIn K cd41 "check_place" = true) (k41 : PySem.W.keepIn K (.ref f41) = true)
    {f42 : Addr} {od42 an42 : Option Addr} {sl42 : Array (Option Value)} {oc42 kV42 dc42 pm42 cd42 ct42 : Value}
    (a42 : PySem.W.nsIn K mainGlobals "are_counts_of" = some (some (.ref f42))) (l42 : K.lookup f42 = some ⟨oc42, od42, .func (PySem.W.fnOf "are_counts_of" "are_counts_of" (defArgs s_are_counts_of) (defBody s_are_counts_of) (defScope s_are_counts_of) .none kV42 dc42 pm42 an42 cd42 ct42), sl42⟩) (c42 : PySem.W.codeIn K cd42 "are_counts_of" = true) (k42 : PySem.W.keepIn K (.ref f42) = true)
    {f43 : Addr} {od43 an43 : Option Addr} {sl43 : Array (Option Value)} {oc43 kV43 dc43 pm43 cd43 ct43 : Value}
    (a43 : PySem.W.nsIn K mainGlobals "are_counts" = some (some (.ref f43))) (l43 : K.lookup f43 = some ⟨oc43, od43, .func (PySem.W.fnOf "are_counts" "are_counts" (defArgs s_are_counts) (defBody s_are_counts) (defScope s_are_counts) .none kV43 dc43 pm43 an43 cd43 ct43), sl43⟩) (c43 : PySem.W.codeIn K cd43 "are_counts" = true) (k43 : PySem.W.keepIn K (.ref f43) = true)
    {f44 : Addr} {od44 an44 : Option Addr} {sl44 : Array (Option Value)} {oc44 kV44 dc44 pm44 cd44 ct44 : Value}
    (a44 : PySem.W.nsIn K mainGlobals "is_update_of" = some (some (.ref f44))) (l44 : K.lookup f44 = some ⟨oc44, od44, .func (PySem.W.fnOf "is_update_of" "is_update_of" (defArgs s_is_update_of) (defBody s_is_update_of) (defScope s_is_update_of) .none kV44 dc44 pm44 an44 cd44 ct44), sl44⟩) (c44 : PySem.W.codeIn K cd44 "is_update_of" = true) (k44 : PySem.W.keepIn K (.ref f44) = true)
    {f45 : Addr} {od45 an45 : Option Addr} {sl45 : Array (Option Value)} {oc45 kV45 dc45 pm45 cd45 ct45 : Value}
    (a45 : PySem.W.nsIn K mainGlobals "is_update" = some (some (.ref f45))) (l45 : K.lookup f45 = some ⟨oc45, od45, .func (PySem.W.fnOf "is_update" "is_update" (defArgs s_is_update) (defBody s_is_update) (defScope s_is_update) .none kV45 dc45 pm45 an45 cd45 ct45), sl45⟩) (c45 : PySem.W.codeIn K cd45 "is_update" = true) (k45 : PySem.W.keepIn K (.ref f45) = true)
    {f46 : Addr} {od46 an46 : Option Addr} {sl46 : Array (Option Value)} {oc46 kV46 dc46 pm46 cd46 ct46 : Value}
    (a46 : PySem.W.nsIn K mainGlobals "law" = some (some (.ref f46))) (l46 : K.lookup f46 = some ⟨oc46, od46, .func (PySem.W.fnOf "law" "law" (defArgs s_law) (defBody s_law) (defScope s_law) .none kV46 dc46 pm46 an46 cd46 ct46), sl46⟩) (c46 : PySem.W.codeIn K cd46 "law" = true) (k46 : PySem.W.keepIn K (.ref f46) = true)
    (z0 : PySem.W.nsIn K mainGlobals "all" = some none)
    (z1 : PySem.W.nsIn K mainGlobals "bool" = some none)
    (z2 : PySem.W.nsIn K mainGlobals "dict" = some none)
    (z3 : PySem.W.nsIn K mainGlobals "enumerate" = some none)
    (z4 : PySem.W.nsIn K mainGlobals "int" = some none)
    (z5 : PySem.W.nsIn K mainGlobals "isinstance" = some none)
    (z6 : PySem.W.nsIn K mainGlobals "len" = some none)
    (z7 : PySem.W.nsIn K mainGlobals "list" = some none)
    (z8 : PySem.W.nsIn K mainGlobals "max" = some none)
    (z9 : PySem.W.nsIn K mainGlobals "min" = some none)
    (z10 : PySem.W.nsIn K mainGlobals "range" = some none)
    (z11 : PySem.W.nsIn K mainGlobals "repr" = some none)
    (z12 : PySem.W.nsIn K mainGlobals "set" = some none)
    (z13 : PySem.W.nsIn K mainGlobals "sorted" = some none)
    (z14 : PySem.W.nsIn K mainGlobals "str" = some none)
    (z15 : PySem.W.nsIn K mainGlobals "tuple" = some none)
    (z16 : PySem.W.nsIn K mainGlobals "zip" = some none)
    {t_FEWEST_VISITED : Tok} (gFEWEST_VISITED : PySem.W.nsIn K mainGlobals "FEWEST_VISITED" = some (some (.int 2 t_FEWEST_VISITED)))
    {t_LONGEST_NAME : Tok} (gLONGEST_NAME : PySem.W.nsIn K mainGlobals "LONGEST_NAME" = some (some (.int 10 t_LONGEST_NAME)))
    {base : Heap} {s₁ : Shared} {H : Hp} {a : Addr} {ns : List Int} (hl : ns.length ≤ 63) (e0 : Env0 P w K mg base callerA [] s₁ H) (hS : SqL K H a (ns.map V.int)) :
    codeAny (model P w) callerA (.call (.ref fa) ⟨[.ref a], []⟩) (CR CX0 [] P w H s₁ (fun v _ => v = .bl true) fun _ _ _ => False) s₁ := by
  have e := hfa.symm.trans (PySem.W.mg_of X G a46)
  cases e
  have bA : ∀ x, x ∈ BA → mg x = none := fun x hx => by
    simp only [BA, List.mem_cons, List.mem_nil_iff, or_false] at hx
    rcases hx with rfl | rfl | rfl | rfl | rfl | rfl | rfl | rfl | rfl | rfl | rfl | rfl | rfl | rfl | rfl | rfl | rfl
    · exact PySem.W.mg_none_of X G z0
    · exact PySem.W.mg_none_of X G z1
    · exact PySem.W.mg_none_of X G z2
    · exact PySem.W.mg_none_of X G z3
    · exact PySem.W.mg_none_of X G z4
    · exact PySem.W.mg_none_of X G z5
    · exact PySem.W.mg_none_of X G z6
    · exact PySem.W.mg_none_of X G z7
    · exact PySem.W.mg_none_of X G z8
    · exact PySem.W.mg_none_of X G z9
    · exact PySem.W.mg_none_of X G z10
    · exact PySem.W.mg_none_of X G z11
    · exact PySem.W.mg_none_of X G z12
    · exact PySem.W.mg_none_of X G z13
    · exact PySem.W.mg_none_of X G z14
    · exact PySem.W.mg_none_of X G z15
    · exact PySem.W.mg_none_of X G z16
  have bBN7 : ∀ x, x ∈ BN7 → mg x = none := fun x hx => bA x ((by decide +kernel : ∀ y ∈ BN7, y ∈ BA) x hx)
  have bBN : ∀ x, x ∈ BN → mg x = none := fun x hx => bA x ((by decide +kernel : ∀ y ∈ BN, y ∈ BA) x hx)
  have bBN2 : ∀ x, x ∈ BN2 → mg x = none := fun x hx => bA x ((by decide +kernel : ∀ y ∈ BN2, y ∈ BA) x hx)
  have bBNring : ∀ x, x ∈ BNring → mg x = none := fun x hx => bA x ((by decide +kernel : ∀ y ∈ BNring, y ∈ BA) x hx)
  have bBNtree : ∀ x, x ∈ BNtree → mg x = none := fun x hx => bA x ((by decide +kernel : ∀ y ∈ BNtree, y ∈ BA) x hx)
  have bBN3 : ∀ x, x ∈ BN3 → mg x = none := fun x hx => bA x ((by decide +kernel : ∀ y ∈ BN3, y ∈ BA) x hx)
  have bBNdrawn : ∀ x, x ∈ BNdrawn → mg x = none := fun x hx => bA x ((by decide +kernel : ∀ y ∈ BNdrawn, y ∈ BA) x hx)
  have bBNm : ∀ x, x ∈ BNm → mg x = none := fun x hx => bA x ((by decide +kernel : ∀ y ∈ BNm, y ∈ BA) x hx)
  have bBNg : ∀ x, x ∈ BNg → mg x = none := fun x hx => bA x ((by decide +kernel : ∀ y ∈ BNg, y ∈ BA) x hx)
  have bBNk : ∀ x, x ∈ BNk → mg x = none := fun x hx => bA x ((by decide +kernel : ∀ y ∈ BNk, y ∈ BA) x hx)
  have bBNN21 : ∀ x, x ∈ BNN21 → mg x = none := fun x hx => bA x ((by decide +kernel : ∀ y ∈ BNN21, y ∈ BA) x hx)
  have bBN4 : ∀ x, x ∈ BN4 → mg x = none := fun x hx => bA x ((by decide +kernel : ∀ y ∈ BN4, y ∈ BA) x hx)
  have bBN5 : ∀ x, x ∈ BN5 → mg x = none := fun x hx => bA x ((by decide +kernel : ∀ y ∈ BN5, y ∈ BA) x hx)
  have bBNj : ∀ x, x ∈ BNj → mg x = none := fun x hx => bA x ((by decide +kernel : ∀ y ∈ BNj, y ∈ BA) x hx)
  have bBNA21 : ∀ x, x ∈ BNA21 → mg x = none := fun x hx => bA x ((by decide +kernel : ∀ y ∈ BNA21, y ∈ BA) x hx)
  have bBN1 : ∀ x, x ∈ BN1 → mg x = none := fun x hx => bA x ((by decide +kernel : ∀ y ∈ BN1, y ∈ BA) x hx)
  have bBNq : ∀ x, x ∈ BNq → mg x = none := fun x hx => bA x ((by decide +kernel : ∀ y ∈ BNq, y ∈ BA) x hx)
  have bBNplan : ∀ x, x ∈ BNplan → mg x = none := fun x hx => bA x ((by decide +kernel : ∀ y ∈ BNplan, y ∈ BA) x hx)
  have bBNP21 : ∀ x, x ∈ BNP21 → mg x = none := fun x hx => bA x ((by decide +kernel : ∀ y ∈ BNP21, y ∈ BA) x hx)
  have bBNlaw21 : ∀ x, x ∈ BNlaw21 → mg x = none := fun x hx => bA x ((by decide +kernel : ∀ y ∈ BNlaw21, y ∈ BA) x hx)
  have F0 := fun_mk (st := s__law_deck) l0 c0 k0
  have m0 := PySem.W.mg_of X G a0
  have B0 := F0.binds (ps := ["script"]) fun _ _ _ _ _ _ us hl => match us, hl with | [_], _ => rfl
  have F1 := fun_mk (st := s__law_draw) l1 c1 k1
  have m1 := PySem.W.mg_of X G a1
  have B1 := F1.binds (ps := ["deck", "many"]) fun _ _ _ _ _ _ us hl => match us, hl with | [_, _], _ => rfl
  have F2 := fun_mk (st := s__law_pick) l2 c2 k2
  have m2 := PySem.W.mg_of X G a2
  have B2 := F2.binds (ps := ["deck", "some"]) fun _ _ _ _ _ _ us hl => match us, hl with | [_, _], _ => rfl
  have F3 := fun_mk (st := s__law_names) l3 c3 k3
  have m3 := PySem.W.mg_of X G a3
  have B3 := F3.binds (ps := ["deck", "many"]) fun _ _ _ _ _ _ us hl => match us, hl with | [_, _], _ => rfl
  have F4 := fun_mk (st := s__law_some) l4 c4 k4
  have m4 := PySem.W.mg_of X G a4
  have B4 := F4.binds (ps := ["deck", "many", "least"]) fun _ _ _ _ _ _ us hl => match us, hl with | [_, _, _], _ => rfl
  have F5 := fun_mk (st := s__law_ring) l5 c5 k5
  have m5 := PySem.W.mg_of X G a5
  have B5 := F5.binds (ps := ["deck", "many", "sites"]) fun _ _ _ _ _ _ us hl => match us, hl with | [_, _, _], _ => rfl
  have F6 := fun_mk (st := s__law_tree) l6 c6 k6
  have m6 := PySem.W.mg_of X G a6
  have B6 := F6.binds (ps := ["deck", "sites"]) fun _ _ _ _ _ _ us hl => match us, hl with | [_, _], _ => rfl
  have F7 := fun_mk (st := s__law_placement) l7 c7 k7
  have m7 := PySem.W.mg_of X G a7
  have B7 := F7.binds (ps := ["deck", "sites", "clients", "registers"]) fun _ _ _ _ _ _ us hl => match us, hl with | [_, _, _, _], _ => rfl
  have F8 := fun_mk (st := s__law_drawn) l8 c8 k8
  have m8 := PySem.W.mg_of X G a8
  have B8 := F8.binds (ps := ["deck"]) fun _ _ _ _ _ _ us hl => match us, hl with | [_], _ => rfl
  have F9 := fun_mk (st := s__law_map) l9 c9 k9
  have m9 := PySem.W.mg_of X G a9
  have B9 := F9.binds (ps := ["placement"]) fun _ _ _ _ _ _ us hl => match us, hl with | [_], _ => rfl
  have F10 := fun_mk (st := s__law_edges) l10 c10 k10
  have m10 := PySem.W.mg_of X G a10
  have B10 := F10.binds (ps := ["world"]) fun _ _ _ _ _ _ us hl => match us, hl with | [_], _ => rfl
  have F11 := fun_mk (st := s__law_plan) l11 c11 k11
  have m11 := PySem.W.mg_of X G a11
  have B11 := F11.binds (ps := ["deck", "world"]) fun _ _ _ _ _ _ us hl => match us, hl with | [_, _], _ => rfl
  have F12 := fun_mk (st := s__law_any_counts) l12 c12 k12
  have m12 := PySem.W.mg_of X G a12
  have B12 := F12.binds (ps := ["deck", "plan", "place", "most"]) fun _ _ _ _ _ _ us hl => match us, hl with | [_, _, _, _], _ => rfl
  have F13 := fun_mk (st := s__law_near_counts) l13 c13 k13
  have m13 := PySem.W.mg_of X G a13
  have B13 := F13.binds (ps := ["deck", "counts"]) fun _ _ _ _ _ _ us hl => match us, hl with | [_, _], _ => rfl
  have F14 := fun_mk (st := s__law_leaf) l14 c14 k14
  have m14 := PySem.W.mg_of X G a14
  have B14 := F14.binds (ps := ["deck", "thing"]) fun _ _ _ _ _ _ us hl => match us, hl with | [_, _], _ => rfl
  have F15 := fun_mk (st := s__law_bent) l15 c15 k15
  have m15 := PySem.W.mg_of X G a15
  have B15 := F15.binds (ps := ["deck", "thing", "deep"]) fun _ _ _ _ _ _ us hl => match us, hl with | [_, _, _], _ => rfl
  have F16 := fun_mk (st := s__law_is_tuple) l16 c16 k16
  have m16 := PySem.W.mg_of X G a16
  have B16 := F16.binds (ps := ["thing", "many"]) fun _ _ _ _ _ _ us hl => match us, hl with | [_, _], _ => rfl
  have F17 := fun_mk (st := s__law_is_int) l17 c17 k17
  have m17 := PySem.W.mg_of X G a17
  have B17 := F17.binds (ps := ["thing", "low", "high"]) fun _ _ _ _ _ _ us hl => match us, hl with | [_, _, _], _ => rfl
  have F18 := fun_mk (st := s__law_are_counts) l18 c18 k18
  have m18 := PySem.W.mg_of X G a18
  have B18 := F18.binds (ps := ["plan", "place", "thing"]) fun _ _ _ _ _ _ us hl => match us, hl with | [_, _, _], _ => rfl
  have F19 := fun_mk (st := s__law_is_update) l19 c19 k19
  have m19 := PySem.W.mg_of X G a19
  have B19 := F19.binds (ps := ["world", "plan", "thing"]) fun _ _ _ _ _ _ us hl => match us, hl with | [_, _, _], _ => rfl
  have F20 := fun_mk (st := s_is_tuple_of) l20 c20 k20
  have m20 := PySem.W.mg_of X G a20
  have B20 := F20.binds (ps := ["thing", "length"]) fun _ _ _ _ _ _ us hl => match us, hl with | [_, _], _ => rfl
  have F21 := fun_mk (st := s_is_name) l21 c21 k21
  have m21 := PySem.W.mg_of X G a21
  have B21 := F21.binds (ps := ["thing"]) fun _ _ _ _ _ _ us hl => match us, hl with | [_], _ => rfl
  have F22 := fun_mk (st := s_is_ascending) l22 c22 k22
  have m22 := PySem.W.mg_of X G a22
  have B22 := F22.binds (ps := ["items"]) fun _ _ _ _ _ _ us hl => match us, hl with | [_], _ => rfl
  have F23 := fun_mk (st := s_are_names_ascending) l23 c23 k23
  have m23 := PySem.W.mg_of X G a23
  have B23 := F23.binds (ps := ["thing"]) fun _ _ _ _ _ _ us hl => match us, hl with | [_], _ => rfl
  have F24 := fun_mk (st := s_is_integer) l24 c24 k24
  have m24 := PySem.W.mg_of X G a24
  have B24 := F24.binds (ps := ["thing"]) fun _ _ _ _ _ _ us hl => match us, hl with | [_], _ => rfl
  have F25 := fun_mk (st := s_is_below) l25 c25 k25
  have m25 := PySem.W.mg_of X G a25
  have B25 := F25.binds (ps := ["thing", "limit"]) fun _ _ _ _ _ _ us hl => match us, hl with | [_, _], _ => rfl
  have F26 := fun_mk (st := s_are_below) l26 c26 k26
  have m26 := PySem.W.mg_of X G a26
  have B26 := F26.binds (ps := ["thing", "limit"]) fun _ _ _ _ _ _ us hl => match us, hl with | [_, _], _ => rfl
  have F27 := fun_mk (st := s_are_below_ascending) l27 c27 k27
  have m27 := PySem.W.mg_of X G a27
  have B27 := F27.binds (ps := ["thing", "limit"]) fun _ _ _ _ _ _ us hl => match us, hl with | [_, _], _ => rfl
  have F28 := fun_mk (st := s_are_clients) l28 c28 k28
  have m28 := PySem.W.mg_of X G a28
  have B28 := F28.binds (ps := ["clients", "count"]) fun _ _ _ _ _ _ us hl => match us, hl with | [_, _], _ => rfl
  have F29 := fun_mk (st := s_is_placement) l29 c29 k29
  have m29 := PySem.W.mg_of X G a29
  have B29 := F29.binds (ps := ["thing"]) fun _ _ _ _ _ _ us hl => match us, hl with | [_], _ => rfl
  have F30 := fun_mk (st := s_check_placement) l30 c30 k30
  have m30 := PySem.W.mg_of X G a30
  have B30 := F30.binds (ps := ["placement"]) fun _ _ _ _ _ _ us hl => match us, hl with | [_], _ => rfl
  have F31 := fun_mk (st := s_count_places) l31 c31 k31
  have m31 := PySem.W.mg_of X G a31
  have B31 := F31.binds (ps := ["placement"]) fun _ _ _ _ _ _ us hl => match us, hl with | [_], _ => rfl
  have F32 := fun_mk (st := s_is_site) l32 c32 k32
  have m32 := PySem.W.mg_of X G a32
  have B32 := F32.binds (ps := ["placement", "thing"]) fun _ _ _ _ _ _ us hl => match us, hl with | [_, _], _ => rfl
  have F33 := fun_mk (st := s_kept_at) l33 c33 k33
  have m33 := PySem.W.mg_of X G a33
  have B33 := F33.binds (ps := ["placement", "place"]) fun _ _ _ _ _ _ us hl => match us, hl with | [_, _], _ => rfl
  have F34 := fun_mk (st := s_shared_by) l34 c34 k34
  have m34 := PySem.W.mg_of X G a34
  have B34 := F34.binds (ps := ["placement", "one", "other"]) fun _ _ _ _ _ _ us hl => match us, hl with | [_, _, _], _ => rfl
  have F35 := fun_mk (st := s_is_edge) l35 c35 k35
  have m35 := PySem.W.mg_of X G a35
  have B35 := F35.binds (ps := ["placement", "thing"]) fun _ _ _ _ _ _ us hl => match us, hl with | [_, _], _ => rfl
  have F36 := fun_mk (st := s_are_edges) l36 c36 k36
  have m36 := PySem.W.mg_of X G a36
  have B36 := F36.binds (ps := ["placement", "thing"]) fun _ _ _ _ _ _ us hl => match us, hl with | [_, _], _ => rfl
  have F37 := fun_mk (st := s_all_edges) l37 c37 k37
  have m37 := PySem.W.mg_of X G a37
  have B37 := F37.binds (ps := ["placement"]) fun _ _ _ _ _ _ us hl => match us, hl with | [_], _ => rfl
  have F38 := fun_mk (st := s_is_plan) l38 c38 k38
  have m38 := PySem.W.mg_of X G a38
  have B38 := F38.binds (ps := ["placement", "thing"]) fun _ _ _ _ _ _ us hl => match us, hl with | [_, _], _ => rfl
  have F39 := fun_mk (st := s_check_plan) l39 c39 k39
  have m39 := PySem.W.mg_of X G a39
  have B39 := F39.binds (ps := ["placement", "plan"]) fun _ _ _ _ _ _ us hl => match us, hl with | [_, _], _ => rfl
  have F40 := fun_mk (st := s_is_place) l40 c40 k40
  have m40 := PySem.W.mg_of X G a40
  have B40 := F40.binds (ps := ["placement", "thing"]) fun _ _ _ _ _ _ us hl => match us, hl with | [_, _], _ => rfl
  have F41 := fun_mk (st := s_check_place) l41 c41 k41
  have m41 := PySem.W.mg_of X G a41
  have B41 := F41.binds (ps := ["placement", "place"]) fun _ _ _ _ _ _ us hl => match us, hl with | [_, _], _ => rfl
  have F42 := fun_mk (st := s_are_counts_of) l42 c42 k42
  have m42 := PySem.W.mg_of X G a42
  have B42 := F42.binds (ps := ["thing", "length"]) fun _ _ _ _ _ _ us hl => match us, hl with | [_, _], _ => rfl
  have F43 := fun_mk (st := s_are_counts) l43 c43 k43
  have m43 := PySem.W.mg_of X G a43
  have B43 := F43.binds (ps := ["placement", "plan", "place", "thing"]) fun _ _ _ _ _ _ us hl => match us, hl with | [_, _, _, _], _ => rfl
  have F44 := fun_mk (st := s_is_update_of) l44 c44 k44
  have m44 := PySem.W.mg_of X G a44
  have B44 := F44.binds (ps := ["placement", "plan", "thing"]) fun _ _ _ _ _ _ us hl => match us, hl with | [_, _, _], _ => rfl
  have F45 := fun_mk (st := s_is_update) l45 c45 k45
  have m45 := PySem.W.mg_of X G a45
  have B45 := F45.binds (ps := ["placement", "plan", "thing"]) fun _ _ _ _ _ _ us hl => match us, hl with | [_, _, _], _ => rfl
  have F46 := fun_mk (st := s_law) l46 c46 k46
  have m46 := PySem.W.mg_of X G a46
  have g_FEWEST_VISITED : ∃ u, mg "FEWEST_VISITED" = some u ∧ L2.RelV (V.int 2) u := ⟨_, PySem.W.mg_of X G gFEWEST_VISITED, t_FEWEST_VISITED, rfl⟩
  have g_LONGEST_NAME : ∃ u, mg "LONGEST_NAME" = some u ∧ L2.RelV (V.int 10) u := ⟨_, PySem.W.mg_of X G gLONGEST_NAME, t_LONGEST_NAME, rfl⟩
  have o__law_deck := ok__law_deck (P := P) (w := w) (base := base)  (F := F0) bBN7 
  have c__law_deck : C8.Cal P w K mg base _ "_law_deck" _ [] := ⟨f0, _, _, [], o__law_deck, m0, F0.kp, B0, .nil⟩
  have o__law_draw := ok__law_draw (P := P) (w := w) (base := base)  (F := F1) bBN 
  have c__law_draw : C8.Cal P w K mg base _ "_law_draw" _ [] := ⟨f1, _, _, [], o__law_draw, m1, F1.kp, B1, .nil⟩
  have o__law_pick := ok__law_pick (P := P) (w := w) (base := base) (F := F2) bBN c__law_draw
  have c__law_pick : C8.Cal P w K mg base _ "_law_pick" _ [] := ⟨f2, _, _, [], o__law_pick, m2, F2.kp, B2, .nil⟩
  have o__law_pick2 := ok__law_pick2 (P := P) (w := w) (base := base) (F := F2) bBNlaw21 c__law_draw
  have c__law_pick2 : C8.Cal P w K mg base _ "_law_pick" _ [] := ⟨f2, _, _, [], o__law_pick2, m2, F2.kp, B2, .nil⟩
  have o__law_names := ok__law_names (P := P) (w := w) (base := base)  (F := F3) bBN2 c__law_draw c__law_pick
  have c__law_names : C8.Cal P w K mg base _ "_law_names" _ [] := ⟨f3, _, _, [], o__law_names, m3, F3.kp, B3, .nil⟩
  have o__law_some := ok__law_some (P := P) (w := w) (base := base)  (F := F4) bBN2 c__law_draw c__law_pick
  have c__law_some : C8.Cal P w K mg base _ "_law_some" _ [] := ⟨f4, _, _, [], o__law_some, m4, F4.kp, B4, .nil⟩
  have o__law_ring := ok__law_ring (P := P) (w := w) (base := base)  (F := F5) bBNring c__law_names c__law_some
  have c__law_ring : C8.Cal P w K mg base _ "_law_ring" _ [] := ⟨f5, _, _, [], o__law_ring, m5, F5.kp, B5, .nil⟩
  have o__law_tree := ok__law_tree (P := P) (w := w) (base := base)  (F := F6) bBNtree c__law_draw c__law_pick c__law_names
  have c__law_tree : C8.Cal P w K mg base _ "_law_tree" _ [] := ⟨f6, _, _, [], o__law_tree, m6, F6.kp, B6, .nil⟩
  have o__law_placement := ok__law_placement (P := P) (w := w) (base := base)  (F := F7) bBN3 c__law_names c__law_some
  have c__law_placement : C8.Cal P w K mg base _ "_law_placement" _ [] := ⟨f7, _, _, [], o__law_placement, m7, F7.kp, B7, .nil⟩
  have o__law_drawn := ok__law_drawn (P := P) (w := w) (base := base)  (F := F8) bBNdrawn c__law_draw c__law_pick c__law_ring c__law_tree c__law_placement
  have c__law_drawn : C8.Cal P w K mg base _ "_law_drawn" _ [] := ⟨f8, _, _, [], o__law_drawn, m8, F8.kp, B8, .nil⟩
  have o__law_map := ok__law_map (P := P) (w := w) (base := base)  (F := F9) bBNm 
  have c__law_map : C8.Cal P w K mg base _ "_law_map" _ [] := ⟨f9, _, _, [], o__law_map, m9, F9.kp, B9, .nil⟩
  have o__law_edges := ok__law_edges (P := P) (w := w) (base := base)  (F := F10) bBNg 
  have c__law_edges : C8.Cal P w K mg base _ "_law_edges" _ [] := ⟨f10, _, _, [], o__law_edges, m10, F10.kp, B10, .nil⟩
  have o__law_plan := ok__law_plan (P := P) (w := w) (base := base)  (F := F11) bBNk c__law_draw c__law_edges
  have c__law_plan : C8.Cal P w K mg base _ "_law_plan" _ [] := ⟨f11, _, _, [], o__law_plan, m11, F11.kp, B11, .nil⟩
  have o__law_any_counts := ok__law_any_counts (P := P) (w := w) (base := base)  (F := F12) bBNN21 c__law_draw
  have c__law_any_counts : C8.Cal P w K mg base _ "_law_any_counts" _ [] := ⟨f12, _, _, [], o__law_any_counts, m12, F12.kp, B12, .nil⟩
  have o__law_near_counts := ok__law_near_counts (P := P) (w := w) (base := base)  (F := F13) bBNN21 c__law_pick
  have c__law_near_counts : C8.Cal P w K mg base _ "_law_near_counts" _ [] := ⟨f13, _, _, [], o__law_near_counts, m13, F13.kp, B13, .nil⟩
  have o__law_leaf := ok__law_leaf (P := P) (w := w) (base := base)  (F := F14) bBN4 c__law_draw c__law_pick
  have c__law_leaf : C8.Cal P w K mg base _ "_law_leaf" _ [] := ⟨f14, _, _, [], o__law_leaf, m14, F14.kp, B14, .nil⟩
  have c__law_bent : C8.Cal P w K mg base 15 "_law_bent" (sp__law_bent 11 K) [] := ⟨f15, _, _, [], ok__law_bent bBN5 F15 m15 B15 c__law_draw c__law_leaf 11, m15, F15.kp, B15, .nil⟩
  have o__law_is_tuple := ok__law_is_tuple (P := P) (w := w) (base := base)  (F := F16) bBNj 
  have c__law_is_tuple : C8.Cal P w K mg base _ "_law_is_tuple" _ [] := ⟨f16, _, _, [], o__law_is_tuple, m16, F16.kp, B16, .nil⟩
  have o__law_is_int := ok__law_is_int (P := P) (w := w) (base := base)  (F := F17) bBNj 
  have c__law_is_int : C8.Cal P w K mg base _ "_law_is_int" _ [] := ⟨f17, _, _, [], o__law_is_int, m17, F17.kp, B17, .nil⟩
  have o__law_are_counts := ok__law_are_counts (P := P) (w := w) (base := base)  (F := F18) bBNA21 c__law_is_tuple c__law_is_int
  have c__law_are_counts : C8.Cal P w K mg base _ "_law_are_counts" _ [] := ⟨f18, _, _, [], o__law_are_counts, m18, F18.kp, B18, .nil⟩
  have o__law_is_update := ok__law_is_update (P := P) (w := w) (base := base)  (F := F19) bBNA21 c__law_is_tuple c__law_is_int c__law_are_counts
  have c__law_is_update : C8.Cal P w K mg base _ "_law_is_update" _ [] := ⟨f19, _, _, [], o__law_is_update, m19, F19.kp, B19, .nil⟩
  have o_is_tuple_of := ok_is_tuple_of (P := P) (w := w) (base := base)  (F := F20) bBN1 
  have c_is_tuple_of : C8.Cal P w K mg base _ "is_tuple_of" _ [] := ⟨f20, _, _, [], o_is_tuple_of, m20, F20.kp, B20, .nil⟩
  have o_is_name := ok_is_name (P := P) (w := w) (base := base)  (F := F21) bBN1 g_LONGEST_NAME 
  have c_is_name : C8.Cal P w K mg base _ "is_name" _ [] := ⟨f21, _, _, [], o_is_name, m21, F21.kp, B21, .nil⟩
  have o_is_ascending := ok_is_ascending (P := P) (w := w) (base := base)  (F := F22) bBN1 
  have c_is_ascending : C8.Cal P w K mg base _ "is_ascending" _ [] := ⟨f22, _, _, [], o_is_ascending, m22, F22.kp, B22, .nil⟩
  have o_are_names_ascending := ok_are_names_ascending (P := P) (w := w) (base := base)  (F := F23) bBN1 c_is_name c_is_ascending
  have c_are_names_ascending : C8.Cal P w K mg base _ "are_names_ascending" _ [] := ⟨f23, _, _, [], o_are_names_ascending, m23, F23.kp, B23, .nil⟩
  have o_is_integer := ok_is_integer (P := P) (w := w) (base := base)  (F := F24) bBN1 
  have c_is_integer : C8.Cal P w K mg base _ "is_integer" _ [] := ⟨f24, _, _, [], o_is_integer, m24, F24.kp, B24, .nil⟩
  have o_is_below := ok_is_below (P := P) (w := w) (base := base)  (F := F25) bBN1 c_is_integer
  have c_is_below : C8.Cal P w K mg base _ "is_below" _ [] := ⟨f25, _, _, [], o_is_below, m25, F25.kp, B25, .nil⟩
  have o_are_below := ok_are_below (P := P) (w := w) (base := base)  (F := F26) bBN1 c_is_below
  have c_are_below : C8.Cal P w K mg base _ "are_below" _ [] := ⟨f26, _, _, [], o_are_below, m26, F26.kp, B26, .nil⟩
  have o_are_below_ascending := ok_are_below_ascending (P := P) (w := w) (base := base)  (F := F27)  c_are_below c_is_ascending
  have c_are_below_ascending : C8.Cal P w K mg base _ "are_below_ascending" _ [] := ⟨f27, _, _, [], o_are_below_ascending, m27, F27.kp, B27, .nil⟩
  have o_are_clients := ok_are_clients (P := P) (w := w) (base := base)  (F := F28) bBN1 g_FEWEST_VISITED c_are_below_ascending
  have c_are_clients : C8.Cal P w K mg base _ "are_clients" _ [] := ⟨f28, _, _, [], o_are_clients, m28, F28.kp, B28, .nil⟩
  have o_is_placement := ok_is_placement (P := P) (w := w) (base := base)  (F := F29) bBN1 c_is_tuple_of c_are_names_ascending c_are_clients
  have c_is_placement : C8.Cal P w K mg base _ "is_placement" _ [] := ⟨f29, _, _, [], o_is_placement, m29, F29.kp, B29, .nil⟩
  have o_check_placement := ok_check_placement (P := P) (w := w) (base := base)  (F := F30) bBNq c_is_placement
  have c_check_placement : C8.Cal P w K mg base _ "check_placement" _ [] := ⟨f30, _, _, [], o_check_placement, m30, F30.kp, B30, .nil⟩
  have o_count_places := ok_count_places (P := P) (w := w) (base := base)  (F := F31) bBNq 
  have c_count_places : C8.Cal P w K mg base _ "count_places" _ [] := ⟨f31, _, _, [], o_count_places, m31, F31.kp, B31, .nil⟩
  have o_is_site := ok_is_site (P := P) (w := w) (base := base)  (F := F32) bBNplan c_is_below
  have c_is_site : C8.Cal P w K mg base _ "is_site" _ [] := ⟨f32, _, _, [], o_is_site, m32, F32.kp, B32, .nil⟩
  have o_kept_at := ok_kept_at (P := P) (w := w) (base := base)  (F := F33) bBNq 
  have c_kept_at : C8.Cal P w K mg base _ "kept_at" _ [] := ⟨f33, _, _, [], o_kept_at, m33, F33.kp, B33, .nil⟩
  have o_shared_by := ok_shared_by (P := P) (w := w) (base := base)  (F := F34) bBNq c_kept_at
  have c_shared_by : C8.Cal P w K mg base _ "shared_by" _ [] := ⟨f34, _, _, [], o_shared_by, m34, F34.kp, B34, .nil⟩
  have o_is_edge := ok_is_edge (P := P) (w := w) (base := base)  (F := F35) bBNplan c_is_tuple_of c_is_site c_shared_by
  have c_is_edge : C8.Cal P w K mg base _ "is_edge" _ [] := ⟨f35, _, _, [], o_is_edge, m35, F35.kp, B35, .nil⟩
  have o_are_edges := ok_are_edges (P := P) (w := w) (base := base)  (F := F36) bBNplan c_is_edge c_is_ascending
  have c_are_edges : C8.Cal P w K mg base _ "are_edges" _ [] := ⟨f36, _, _, [], o_are_edges, m36, F36.kp, B36, .nil⟩
  have o_all_edges := ok_all_edges (P := P) (w := w) (base := base)  (F := F37) bBNq c_shared_by
  have c_all_edges : C8.Cal P w K mg base _ "all_edges" _ [] := ⟨f37, _, _, [], o_all_edges, m37, F37.kp, B37, .nil⟩
  have o_is_plan := ok_is_plan (P := P) (w := w) (base := base)  (F := F38) bBNplan c_check_placement c_is_tuple_of c_count_places c_are_edges c_all_edges
  have c_is_plan : C8.Cal P w K mg base _ "is_plan" _ [] := ⟨f38, _, _, [], o_is_plan, m38, F38.kp, B38, .nil⟩
  have o_check_plan := ok_check_plan (P := P) (w := w) (base := base)  (F := F39) bBNP21 c_is_plan
  have c_check_plan : C8.Cal P w K mg base _ "check_plan" _ [] := ⟨f39, _, _, [], o_check_plan, m39, F39.kp, B39, .nil⟩
  have o_is_place := ok_is_place (P := P) (w := w) (base := base)  (F := F40) bBNP21 c_is_below c_count_places
  have c_is_place : C8.Cal P w K mg base _ "is_place" _ [] := ⟨f40, _, _, [], o_is_place, m40, F40.kp, B40, .nil⟩
  have o_check_place := ok_check_place (P := P) (w := w) (base := base)  (F := F41) bBNP21 c_is_place
  have c_check_place : C8.Cal P w K mg base _ "check_place" _ [] := ⟨f41, _, _, [], o_check_place, m41, F41.kp, B41, .nil⟩
  have o_are_counts_of := ok_are_counts_of (P := P) (w := w) (base := base)  (F := F42) bBNA21 c_is_tuple_of c_is_integer
  have c_are_counts_of : C8.Cal P w K mg base _ "are_counts_of" _ [] := ⟨f42, _, _, [], o_are_counts_of, m42, F42.kp, B42, .nil⟩
  have o_are_counts := ok_are_counts (P := P) (w := w) (base := base)  (F := F43) bBNA21 c_check_plan c_check_place c_are_counts_of
  have c_are_counts : C8.Cal P w K mg base _ "are_counts" _ [] := ⟨f43, _, _, [], o_are_counts, m43, F43.kp, B43, .nil⟩
  have k_are_counts : CalW P w K mg base _ "are_counts" ["thing", "place", "plan", "placement"] (fun vs zs => vs ++ zs.reverse) (sp_are_counts K) := ⟨f43, _, ["placement", "plan", "place", "thing"], fun us ws => us ++ ws.reverse, o_are_counts, m43, F43.kp, KB4 (fun _ _ _ _ _ => .of_eq rfl) (fun _ _ _ _ _ => .of_eq rfl) (fun _ _ _ _ _ => .of_eq rfl) (fun _ _ _ _ _ => .of_eq rfl) (fun _ _ _ _ _ => .of_eq rfl)⟩
  have o_is_update_of := ok_is_update_of (P := P) (w := w) (base := base)  (F := F44) bBNA21 c_is_tuple_of c_is_site c_kept_at c_are_counts_of
  have c_is_update_of : C8.Cal P w K mg base _ "is_update_of" _ [] := ⟨f44, _, _, [], o_is_update_of, m44, F44.kp, B44, .nil⟩
  have o_is_update := ok_is_update (P := P) (w := w) (base := base)  (F := F45) bBNA21 c_check_plan c_is_update_of
  have c_is_update : C8.Cal P w K mg base _ "is_update" _ [] := ⟨f45, _, _, [], o_is_update, m45, F45.kp, B45, .nil⟩
  have k_is_update : CalW P w K mg base _ "is_update" ["thing", "plan", "placement"] (fun vs zs => vs ++ zs.reverse) (sp_is_update K) := ⟨f45, _, ["placement", "plan", "thing"], fun us ws => us ++ ws.reverse, o_is_update, m45, F45.kp, KB3 (fun _ _ _ _ => .of_eq rfl) (fun _ _ _ _ => .of_eq rfl) (fun _ _ _ _ => .of_eq rfl) (fun _ _ _ _ => .of_eq rfl)⟩
  have k_zz := (0 : Nat)
  have k_zy := (0 : Nat); have c__law_pick := c__law_pick2
  exact run_law bBNlaw21 F46 (.of_eq rfl) hl e0 hS c__law_deck c__law_draw c__law_pick c__law_drawn c__law_map c__law_plan c__law_any_counts c__law_near_counts c__law_bent c__law_are_counts c__law_is_update c_are_counts k_are_counts c_is_update k_is_update
end
end Cal
open PySem PySem.W PyProof.Rows
set_option maxHeartbeats 0 in
theorem PySem.Challenge.cw_causeloops_k21_any_values_as_counts_and_holds : PySem.Challenge.rw_causeloops_k21_any_values_as_counts_and.Holds := by
  w_on; o_law; k_head; (case hw => w_witness2)
  k_fill
  refine Cal.walk_at (l := PySem.Challenge.rw_causeloops_k21_any_values_as_counts_and) (n := 63) rfl (by decide) rfl (fun w h Y => PySem.W.kIn_of Y) ?F
  case F =>
    intro w mg fa s₁ KX G hmg base H a ns hl e0 hS
    refine' Cal.all_mk KX G hmg ?a0 ?l0 ?c0 ?k0 ?a1 ?l1 ?c1 ?k1 ?a2 ?l2 ?c2 ?k2 ?a3 ?l3 ?c3 ?k3 ?a4 ?l4 ?c4 ?k4 ?a5 ?l5 ?c5 ?k5 ?a6 ?l6 ?c6 ?k6 ?a7 ?l7 ?c7 ?k7 ?a8 ?l8 ?c8 ?k8 ?a9 ?l9 ?c9 ?k9 ?a10 ?l10 ?c10 ?k10 ?a11 ?l11 ?c11 ?k11 ?a12 ?l12 ?c12 ?k12 ?a13 ?l13 ?c13 ?k13 ?a14 ?l14 ?c14 ?k14 ?a15 ?l15 ?c15 ?k15 ?a16 ?l16 ?c16 ?k16 ?a17 ?l17 ?c17 ?k17 ?a18 ?l18 ?c18 ?k18 ?a19 ?l19 ?c19 ?k19 ?a20 ?l20 ?c20 ?k20 ?a21 ?l21 ?c21 ?k21 ?a22 ?l22 ?c22 ?k22 ?a23 ?l23 ?c23 ?k23 ?a24 ?l24 ?c24 ?k24 ?a25 ?l25 ?c25 ?k25 ?a26 ?l26 ?c26 ?k26 ?a27 ?l27 ?c27 ?k27 ?a28 ?l28 ?c28 ?k28 ?a29 ?l29 ?c29 ?k29 ?a30 ?l30 ?c30 ?k30 ?a31 ?l31 ?c31 ?k31 ?a32 ?l32 ?c32 ?k32 ?a33 ?l33 ?c33 ?k33 ?a34 ?l34 ?c34 ?k34 ?a35 ?l35 ?c35 ?k35 ?a36 ?l36 ?c36 ?k36 ?a37 ?l37 ?c37 ?k37 ?a38 ?l38 ?c38 ?k38 ?a39 ?l39 ?c39 ?k39 ?a40 ?l40 ?c40 ?k40 ?a41 ?l41 ?c41 ?k41 ?a42 ?l42 ?c42 ?k42 ?a43 ?l43 ?c43 ?k43 ?a44 ?l44 ?c44 ?k44 ?a45 ?l45 ?c45 ?k45 ?a46 ?l46 ?c46 ?k46 ?z0 ?z1 ?z2 ?z3 ?z4 ?z5 ?z6 ?z7 ?z8 ?z9 ?z10 ?z11 ?z12 ?z13 ?z14 ?z15 ?z16 ?gFEWEST_VISITED ?gLONGEST_NAME hl e0 hS
    (case a0 => k_is); (case l0 => k_is); (case c0 => k_is); (case k0 => k_is); (case a1 => k_is); (case l1 => k_is); (case c1 => k_is); (case k1 => k_is)
    (case a2 => k_is); (case l2 => k_is); (case c2 => k_is); (case k2 => k_is); (case a3 => k_is); (case l3 => k_is); (case c3 => k_is); (case k3 => k_is)
    (case a4 => k_is); (case l4 => k_is); (case c4 => k_is); (case k4 => k_is); (case a5 => k_is); (case l5 => k_is); (case c5 => k_is); (case k5 => k_is)
    (case a6 => k_is); (case l6 => k_is); (case c6 => k_is); (case k6 => k_is); (case a7 => k_is); (case l7 => k_is); (case c7 => k_is); (case k7 => k_is)
    (case a8 => k_is); (case l8 => k_is); (case c8 => k_is); (case k8 => k_is); (case a9 => k_is); (case l9 => k_is); (case c9 => k_is); (case k9 => k_is)
    (case a10 => k_is); (case l10 => k_is); (case c10 => k_is); (case k10 => k_is); (case a11 => k_is); (case l11 => k_is); (case c11 => k_is); (case k11 => k_is)
    (case a12 => k_is); (case l12 => k_is); (case c12 => k_is); (case k12 => k_is); (case a13 => k_is); (case l13 => k_is); (case c13 => k_is); (case k13 => k_is)
    (case a14 => k_is); (case l14 => k_is); (case c14 => k_is); (case k14 => k_is); (case a15 => k_is); (case l15 => k_is); (case c15 => k_is); (case k15 => k_is)
    (case a16 => k_is); (case l16 => k_is); (case c16 => k_is); (case k16 => k_is); (case a17 => k_is); (case l17 => k_is); (case c17 => k_is); (case k17 => k_is)
    (case a18 => k_is); (case l18 => k_is); (case c18 => k_is); (case k18 => k_is); (case a19 => k_is); (case l19 => k_is); (case c19 => k_is); (case k19 => k_is)
    (case a20 => k_is); (case l20 => k_is); (case c20 => k_is); (case k20 => k_is); (case a21 => k_is); (case l21 => k_is); (case c21 => k_is); (case k21 => k_is)
    (case a22 => k_is); (case l22 => k_is); (case c22 => k_is); (case k22 => k_is); (case a23 => k_is); (case l23 => k_is); (case c23 => k_is); (case k23 => k_is)
    (case a24 => k_is); (case l24 => k_is); (case c24 => k_is); (case k24 => k_is); (case a25 => k_is); (case l25 => k_is); (case c25 => k_is); (case k25 => k_is)
    (case a26 => k_is); (case l26 => k_is); (case c26 => k_is); (case k26 => k_is); (case a27 => k_is); (case l27 => k_is); (case c27 => k_is); (case k27 => k_is)
    (case a28 => k_is); (case l28 => k_is); (case c28 => k_is); (case k28 => k_is); (case a29 => k_is); (case l29 => k_is); (case c29 => k_is); (case k29 => k_is)
    (case a30 => k_is); (case l30 => k_is); (case c30 => k_is); (case k30 => k_is); (case a31 => k_is); (case l31 => k_is); (case c31 => k_is); (case k31 => k_is)
    (case a32 => k_is); (case l32 => k_is); (case c32 => k_is); (case k32 => k_is); (case a33 => k_is); (case l33 => k_is); (case c33 => k_is); (case k33 => k_is)
    (case a34 => k_is); (case l34 => k_is); (case c34 => k_is); (case k34 => k_is); (case a35 => k_is); (case l35 => k_is); (case c35 => k_is); (case k35 => k_is)
    (case a36 => k_is); (case l36 => k_is); (case c36 => k_is); (case k36 => k_is); (case a37 => k_is); (case l37 => k_is); (case c37 => k_is); (case k37 => k_is)
    (case a38 => k_is); (case l38 => k_is); (case c38 => k_is); (case k38 => k_is); (case a39 => k_is); (case l39 => k_is); (case c39 => k_is); (case k39 => k_is)
    (case a40 => k_is); (case l40 => k_is); (case c40 => k_is); (case k40 => k_is); (case a41 => k_is); (case l41 => k_is); (case c41 => k_is); (case k41 => k_is)
    (case a42 => k_is); (case l42 => k_is); (case c42 => k_is); (case k42 => k_is); (case a43 => k_is); (case l43 => k_is); (case c43 => k_is); (case k43 => k_is)
    (case a44 => k_is); (case l44 => k_is); (case c44 => k_is); (case k44 => k_is); (case a45 => k_is); (case l45 => k_is); (case c45 => k_is); (case k45 => k_is)
    (case a46 => k_is); (case l46 => k_is); (case c46 => k_is); (case k46 => k_is); (case z0 => k_is); (case z1 => k_is); (case z2 => k_is); (case z3 => k_is)
    (case z4 => k_is); (case z5 => k_is); (case z6 => k_is); (case z7 => k_is); (case z8 => k_is); (case z9 => k_is); (case z10 => k_is); (case z11 => k_is)
    (case z12 => k_is); (case z13 => k_is); (case z14 => k_is); (case z15 => k_is); (case z16 => k_is); (case gFEWEST_VISITED => k_is); (case gLONGEST_NAME => k_is)


